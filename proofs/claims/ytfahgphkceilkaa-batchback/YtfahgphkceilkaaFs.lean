/- Lines: whether they are the same, and amounts on an account. -/
import Derived.Test.YtfahgphkceilkaaFn
import Derived.Deep.QuietTactic
import Derived.BigQuiet
namespace Go.Proofs.Ytfahgphkceilkaa
open Go.RowKit
set_option linter.unusedVariables false
set_option linter.unusedSimpArgs false
def CellsL (w : World) (b off : Nat) (l : List Li) : Prop := ∀ j, j < l.length → w.cell? ⟨b, off + j * 2, none⟩ = some (.int .i64 (liA l j).1) ∧ w.cell? ⟨b, off + j * 2 + 1, none⟩ = some (.int .i64 (liA l j).2)
theorem same_diff (a a' : Option Addr) (l l' c c' : Nat) (h : l ≠ l') (w : World) :
    Calls Try.prog 35 #[.slice a l c, .slice a' l' c'] w fun e w' => e = .returned (.bool false) ∧ w = w' := by
  have h1 : ((l : Int) != (l' : Int)) = true := by rw [bne_iff_ne]; omega
  go_enter Try.func35, Try.ntmps35
  go_wp2
  go_ret
  exact ⟨rfl, rfl⟩
theorem same_empty (a a' : Option Addr) (c c' : Nat) (w : World) :
    Calls Try.prog 35 #[.slice a 0 c, .slice a' 0 c'] w fun e w' => e = .returned (.bool true) ∧ w = w' := by
  go_enter Try.func35, Try.ntmps35
  go_wp2
  refine wp_loop_rounds 1 ?_
  rw [rounds_succ]
  go_wp2
  go_ret
  exact ⟨rfl, rfl⟩
set_option maxHeartbeats 1600000 in
theorem same_row (b off c b' off' c' : Nat) (xs ys : List Li) (w : World) (hl : xs.length = ys.length) (hm : xs.length ≤ maxLen)
    (hx : CellsL w b off xs) (hy : CellsL w b' off' ys) :
    Calls Try.prog 35 #[.slice (some ⟨b, off, none⟩) xs.length c, .slice (some ⟨b', off', none⟩) xs.length c'] w fun e w' => e = .returned (.bool (sameL xs ys)) ∧ ∃ n, w' = w.drewN n := by
  unfold maxLen at hm
  have HX := hide hx
  have HY : Hid (∀ j, j < xs.length → w.cell? ⟨b', off' + j * 2, none⟩ = some (.int .i64 (liA ys j).1) ∧ w.cell? ⟨b', off' + j * 2 + 1, none⟩ = some (.int .i64 (liA ys j).2)) := hide (fun j hj => hy j (by omega))
  have Hyes : Hid ((∀ j, j < xs.length → liA xs j = liA ys j) → sameL xs ys = true) := hide (fun h => by
    rw [show xs = ys from List.ext_getElem hl (fun j h1 h2 => by
      have := h j h1
      simpa [liA, List.getD, h1, h2] using this)]
    exact sameL_refl _)
  have Hno : Hid (∀ j, liA xs j ≠ liA ys j → sameL xs ys = false) := hide (fun j h => sameL_no (fun e => h (by rw [e])))
  clear hx hy
  generalize hlen : xs.length = len at *
  clear hl
  have d1 : ((len : Int) != (len : Int)) = false := by simp
  go_enter Try.func35, Try.ntmps35
  go_wp2
  go_loopw [13] (fun i wr => ∃ k n : Nat, k ≤ len ∧ i = .int .i64 k ∧ wr = w.drewN n ∧ Hid (∀ j, j < k → liA xs j = liA ys j)) (fun i _ => len - (intOf i).toNat)
  case atStart => exact ⟨0, 0, by omega, rfl, rfl, hide (fun j hj => by omega)⟩
  case round =>
    obtain ⟨k, n, hk, rfl, rfl, HK⟩ := hrel
    by_cases hlt : k < len
    · obtain ⟨c0, c1⟩ := unhide HX k (by rw [hlen]; exact hlt)
      obtain ⟨e0, e1⟩ := unhide HY k hlt
      have HN := hide (unhide Hno k)
      have HK' : Hid (liA xs k = liA ys k → ∀ j, j < k + 1 → liA xs j = liA ys j) := hide (fun h j hj => by
        by_cases e : j = k
        · rw [e]; exact h
        · exact unhide HK j (by omega))
      generalize liA xs k = x at *
      generalize liA ys k = y at *
      obtain ⟨x0, x1⟩ := x
      obtain ⟨y0, y1⟩ := y
      replace c0 : w.cell? ⟨b, off + k * 2, none⟩ = some (.int .i64 x0) := c0
      replace c1 : w.cell? ⟨b, off + k * 2 + 1, none⟩ = some (.int .i64 x1) := c1
      replace e0 : w.cell? ⟨b', off' + k * 2, none⟩ = some (.int .i64 y0) := e0
      replace e1 : w.cell? ⟨b', off' + k * 2 + 1, none⟩ = some (.int .i64 y1) := e1
      by_cases he : x0 = y0 ∧ x1 = y1
      · obtain ⟨rfl, rfl⟩ := he
        have hb : ∀ w, (binOp .neq 60 (.agg #[.int .i64 x0, .int .i64 x1]) (.agg #[.int .i64 x0, .int .i64 x1])).run Try.prog w = .ok (.bool false) w := fun w => by rw [neq60]; simp
        have HK2 := hide (unhide HK' rfl)
        clear HK' HN
        go_wp2
        go_quiet (fail)
        go_wp2
        go_roundw
        case rel => exact ⟨k + 1, n + nq, by omega, by go_num, rfl, HK2⟩
        case measure => simp [intOf]; omega
      · have hb : ∀ w, (binOp .neq 60 (.agg #[.int .i64 x0, .int .i64 x1]) (.agg #[.int .i64 y0, .int .i64 y1])).run Try.prog w = .ok (.bool true) w := fun w => by
          rw [neq60]
          by_cases q : x0 = y0
          · have : x1 ≠ y1 := fun c => he ⟨q, c⟩
            simp [this]
          · simp [q]
        have HF := hide (unhide HN (fun c => he ⟨congrArg Prod.fst c, congrArg Prod.snd c⟩))
        clear HK' HN
        go_wp2
        go_quiet (fail)
        go_wp2
        go_ret
        exact ⟨ret_bool (unhide HF).symm, n + nq, by first | rfl | simp⟩
    · have hk2 : k = len := by omega
      subst hk2
      have HF := hide (unhide Hyes (unhide HK))
      go_wp2
      go_ret
      exact ⟨ret_bool (unhide HF).symm, n, rfl⟩
theorem same_any (v u : Value) (xs ys : List Li) (w : World) (h : RowG 2 w v (xs.map liL)) (h' : RowG 2 w u (ys.map liL)) :
    Calls Try.prog 35 #[v, u] w fun e w' => e = .returned (.bool (sameL xs ys)) ∧ ∃ n, w' = w.drewN n := by
  have hx : ∀ b off cap, v = .slice (some ⟨b, off, none⟩) xs.length cap → CellsL w b off xs := fun b off cap e j hj => by
    subst e
    exact h.li (cap := cap) hj
  have hy : ∀ b off cap, u = .slice (some ⟨b, off, none⟩) ys.length cap → CellsL w b off ys := fun b off cap e j hj => by
    subst e
    exact h'.li (cap := cap) hj
  by_cases hl : xs.length = ys.length
  · rcases h with ⟨a, c, e, e0, _⟩ | ⟨b, off, c, e, h0, hm1, hm, hc, hin⟩
    · rcases h' with ⟨a', c', e', e0', _⟩ | ⟨b', off', c', e', h0', _, hm', hc', hin'⟩
      · obtain rfl : xs = [] := List.map_eq_nil_iff.1 e0
        obtain rfl : ys = [] := List.map_eq_nil_iff.1 e0'
        subst e e'
        rw [sameL_refl]
        exact (same_empty a a' c c' w).mono fun e w' h => ⟨h.1, 0, h.2.symm⟩
      · rw [List.map_eq_nil_iff] at e0
        subst e0
        rw [List.length_map, ← hl] at h0'; exact absurd h0' (by decide)
    · rcases h' with ⟨a', c', e', e0', _⟩ | ⟨b', off', c', e', h0', _, hm', hc', hin'⟩
      · rw [List.map_eq_nil_iff] at e0'
        subst e0'
        rw [List.length_map, hl] at h0; exact absurd h0 (by decide)
      · rw [List.length_map] at e e' hm1
        have k1 := hx _ _ _ e
        have k2 := hy _ _ _ e'
        subst e e'
        rw [← hl]
        exact same_row b off c b' off' c' xs ys w hl (by omega) k1 k2
  · obtain ⟨a, c, rfl⟩ := rowG_slice h
    obtain ⟨a', c', rfl⟩ := rowG_slice h'
    rw [sameL_no (fun e => hl (by rw [e]))]
    exact (same_diff a a' _ _ c c' (by rw [List.length_map, List.length_map]; exact hl) w).mono fun e w' h => ⟨h.1, 0, h.2.symm⟩
def AllIn (l : List Li) : Prop := ∀ x ∈ l, In64 x.2
end Go.Proofs.Ytfahgphkceilkaa
