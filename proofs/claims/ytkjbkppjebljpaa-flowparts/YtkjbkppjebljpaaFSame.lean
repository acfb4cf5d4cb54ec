/- Whether flows are the same. -/
import Derived.Test.YtkjbkppjebljpaaChk
import Derived.Deep.QuietTactic
import Derived.BigQuiet
namespace Go.Proofs.Ytkjbkppjebljpaa
open Go.RowKit
set_option linter.unusedSimpArgs false
def sameF (l m : List (Int × Int)) : Bool := decide (l = m)
theorem sameF_refl (l : List (Int × Int)) : sameF l l = true := by simp [sameF]
theorem sameF_no {l m : List (Int × Int)} (h : l ≠ m) : sameF l m = false := by simp [sameF, h]
theorem neq40 (p q r s : Int) (w : World) : (binOp .neq 40 (.agg #[.int .i64 p, .int .i64 q]) (.agg #[.int .i64 r, .int .i64 s])).run Try.prog w = .ok (.bool (!(p == r && q == s))) w := by
  have ht : Try.prog.underlying 40 = some (.struct (Try.prog.fieldsOf 40)) := by kernel_rfl
  have hp : Try.prog.stoodInHeld 40 = false := by kernel_rfl
  have hf := TypeDesc.struct.inj (Option.some.inj (ht.symm.trans Try.underlying40))
  have key : (Op.equalIn (9999 + 1) 40 (.agg #[.int .i64 p, .int .i64 q]) (.agg #[.int .i64 r, .int .i64 s])).run Try.prog w = .ok (p == r && q == s) w := by
    rw [run_equalIn_agg w 9999 40 _ _ ht hp, hf]
    simp [Op.eqFields, part, isAgg, go_sem, Try.underlying2, Try.underlying3]
    by_cases h1 : p = r
    · by_cases h2 : q = s
      · simp [h1, h2, part, isAgg, go_sem, Try.underlying2, Try.underlying3]
      · simp [h1, h2, part, isAgg, go_sem, Try.underlying2, Try.underlying3]
    · simp [h1, part, isAgg, go_sem, Try.underlying2, Try.underlying3]
  simp only [binOp]
  simp [Op.equal, Op.maxDepth, key]
theorem fsame_diff (a a' : Option Addr) (l l' c c' : Nat) (h : l ≠ l') (w : World) :
    Calls Try.prog 16 #[.slice a l c, .slice a' l' c'] w fun e w' => e = .returned (.bool false) ∧ w = w' := by
  have h1 : ((l : Int) != (l' : Int)) = true := by rw [bne_iff_ne]; omega
  go_enter Try.func16, Try.ntmps16
  go_wp2
  go_ret
  exact ⟨rfl, rfl⟩
theorem fsame_empty (a a' : Option Addr) (c c' : Nat) (w : World) :
    Calls Try.prog 16 #[.slice a 0 c, .slice a' 0 c'] w fun e w' => e = .returned (.bool true) ∧ w = w' := by
  go_enter Try.func16, Try.ntmps16
  go_wp2
  refine wp_loop_rounds 1 ?_
  rw [rounds_succ]
  go_wp2
  go_ret
  exact ⟨rfl, rfl⟩
set_option maxHeartbeats 1600000 in
theorem fsame_row (b off c b' off' c' : Nat) (xs ys : List (Int × Int)) (w : World) (hl : xs.length = ys.length) (hm : xs.length ≤ maxLen)
    (hx : CellsF w b off xs) (hy : CellsF w b' off' ys) :
    Calls Try.prog 16 #[.slice (some ⟨b, off, none⟩) xs.length c, .slice (some ⟨b', off', none⟩) xs.length c'] w fun e w' => e = .returned (.bool (sameF xs ys)) ∧ ∃ n, w' = w.drewN n := by
  unfold maxLen at hm
  have HX := hide hx
  have HY : Hid (∀ j, j < xs.length → w.cell? ⟨b', off' + j * 2, none⟩ = some (.int .i64 (getF ys j).1) ∧ w.cell? ⟨b', off' + j * 2 + 1, none⟩ = some (.int .i64 (getF ys j).2)) := hide (fun j hj => hy j (by omega))
  have Hyes : Hid ((∀ j, j < xs.length → getF xs j = getF ys j) → sameF xs ys = true) := hide (fun h => by
    rw [show xs = ys from List.ext_getElem hl (fun j h1 h2 => by
      have := h j h1
      simpa [getF, List.getD, h1, h2] using this)]
    exact sameF_refl _)
  have Hno : Hid (∀ j, getF xs j ≠ getF ys j → sameF xs ys = false) := hide (fun j h => sameF_no (fun e => h (by rw [e])))
  clear hx hy
  generalize hlen : xs.length = len at *
  clear hl
  have d1 : ((len : Int) != (len : Int)) = false := by simp
  go_enter Try.func16, Try.ntmps16
  go_wp2
  go_loopw [13] (fun i wr => ∃ k n : Nat, k ≤ len ∧ i = .int .i64 k ∧ wr = w.drewN n ∧ Hid (∀ j, j < k → getF xs j = getF ys j)) (fun i _ => len - (intOf i).toNat)
  case atStart => exact ⟨0, 0, by omega, rfl, rfl, hide (fun j hj => by omega)⟩
  case round =>
    obtain ⟨k, n, hk, rfl, rfl, HK⟩ := hrel
    by_cases hlt : k < len
    · obtain ⟨c0, c1⟩ := unhide HX k (by rw [hlen]; exact hlt)
      obtain ⟨e0, e1⟩ := unhide HY k hlt
      have HN := hide (unhide Hno k)
      have HK' : Hid (getF xs k = getF ys k → ∀ j, j < k + 1 → getF xs j = getF ys j) := hide (fun h j hj => by
        by_cases e : j = k
        · rw [e]; exact h
        · exact unhide HK j (by omega))
      generalize getF xs k = x at *
      generalize getF ys k = y at *
      obtain ⟨x0, x1⟩ := x
      obtain ⟨y0, y1⟩ := y
      replace c0 : w.cell? ⟨b, off + k * 2, none⟩ = some (.int .i64 x0) := c0
      replace c1 : w.cell? ⟨b, off + k * 2 + 1, none⟩ = some (.int .i64 x1) := c1
      replace e0 : w.cell? ⟨b', off' + k * 2, none⟩ = some (.int .i64 y0) := e0
      replace e1 : w.cell? ⟨b', off' + k * 2 + 1, none⟩ = some (.int .i64 y1) := e1
      by_cases he : x0 = y0 ∧ x1 = y1
      · obtain ⟨rfl, rfl⟩ := he
        have hb : ∀ w, (binOp .neq 40 (.agg #[.int .i64 x0, .int .i64 x1]) (.agg #[.int .i64 x0, .int .i64 x1])).run Try.prog w = .ok (.bool false) w := fun w => by rw [neq40]; simp
        have HK2 := hide (unhide HK' rfl)
        clear HK' HN
        go_wp2
        go_quiet (fail)
        go_wp2
        go_roundw
        case rel => exact ⟨k + 1, n + nq, by omega, by go_num, rfl, HK2⟩
        case measure => simp [intOf]; omega
      · have hb : ∀ w, (binOp .neq 40 (.agg #[.int .i64 x0, .int .i64 x1]) (.agg #[.int .i64 y0, .int .i64 y1])).run Try.prog w = .ok (.bool true) w := fun w => by
          rw [neq40]
          by_cases q : x0 = y0
          · have : x1 ≠ y1 := fun c => he ⟨q, c⟩
            simp [this]
          · simp [q]
        have HF := hide (unhide HN (fun c => he ⟨congrArg Prod.fst c, congrArg Prod.snd c⟩))
        clear HK' HN
        go_wp2
        go_quiet (fail)
        go_wp2
        go_ret
        exact ⟨ret_bool (unhide HF).symm, n + nq, by first | rfl | simp⟩
    · have hk2 : k = len := by omega
      subst hk2
      have HF := hide (unhide Hyes (unhide HK))
      go_wp2
      go_ret
      exact ⟨ret_bool (unhide HF).symm, n, rfl⟩
theorem fsame_any (v u : Value) (xs ys : List (Int × Int)) (w : World) (h : RowF w v xs) (h' : RowF w u ys) :
    Calls Try.prog 16 #[v, u] w fun e w' => e = .returned (.bool (sameF xs ys)) ∧ ∃ n, w' = w.drewN n := by
  by_cases hl : xs.length = ys.length
  · rcases h with ⟨a, c, rfl, rfl, _⟩ | ⟨b, off, c, rfl, h0, hm1, hm, hc, hin⟩
    · rcases h' with ⟨a', c', rfl, rfl, _⟩ | ⟨b', off', c', rfl, h0', _, hm', hc', hin'⟩
      · rw [sameF_refl]
        exact (fsame_empty a a' c c' w).mono fun e w' h => ⟨h.1, 0, h.2.symm⟩
      · rw [← hl] at h0'; exact absurd h0' (by decide)
    · rcases h' with ⟨a', c', rfl, rfl, _⟩ | ⟨b', off', c', rfl, h0', _, hm', hc', hin'⟩
      · rw [hl] at h0; exact absurd h0 (by decide)
      · rw [← hl]
        exact fsame_row b off c b' off' c' xs ys w hl (by omega) hc hc'
  · obtain ⟨a, c, rfl⟩ := rowF_slice h
    obtain ⟨a', c', rfl⟩ := rowF_slice h'
    rw [sameF_no (fun e => hl (by rw [e]))]
    exact (fsame_diff a a' _ _ c c' hl w).mono fun e w' h => ⟨h.1, 0, h.2.symm⟩
end Go.Proofs.Ytkjbkppjebljpaa
