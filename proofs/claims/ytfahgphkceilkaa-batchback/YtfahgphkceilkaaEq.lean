/- Bytes: whether they are the same. -/
import Derived.Test.YtfahgphkceilkaaNn
import Derived.Test.YtfahgphkceilkaaFs
import Derived.Deep.QuietTactic
import Derived.BigQuiet
namespace Go.Proofs.Ytfahgphkceilkaa
open Go.RowKit
set_option linter.unusedVariables false
set_option linter.unusedSimpArgs false
theorem beq_diff (a a' : Option Addr) (l l' c c' : Nat) (h : l ≠ l') (w : World) :
    Calls Try.prog 13 #[.slice a l c, .slice a' l' c'] w fun e w' => e = .returned (.bool false) ∧ w = w' := by
  have h1 : ((l : Int) != (l' : Int)) = true := by rw [bne_iff_ne]; omega
  go_enter Try.func13, Try.ntmps13
  go_wp2
  go_ret
  exact ⟨rfl, rfl⟩
theorem beq_empty (a a' : Option Addr) (c c' : Nat) (w : World) :
    Calls Try.prog 13 #[.slice a 0 c, .slice a' 0 c'] w fun e w' => e = .returned (.bool true) ∧ w = w' := by
  go_enter Try.func13, Try.ntmps13
  go_wp2
  refine wp_loop_rounds 1 ?_
  rw [rounds_succ]
  go_wp2
  go_ret
  exact ⟨rfl, rfl⟩
def eqB (xs ys : List Nat) : Bool := decide (xs = ys)
theorem eqB_refl (xs : List Nat) : eqB xs xs = true := by simp [eqB]
theorem eqB_no {xs ys : List Nat} (h : xs ≠ ys) : eqB xs ys = false := by simp [eqB, h]
set_option maxHeartbeats 1600000 in
theorem beq_row (b off c b' off' c' : Nat) (xs ys : List Nat) (w : World) (hl : xs.length = ys.length) (hm : xs.length ≤ maxLen)
    (hx : ∀ j, j < xs.length → w.cell? ⟨b, off + j, none⟩ = some (.int .u8 (xs.getD j 0 : Nat))) (hy : ∀ j, j < ys.length → w.cell? ⟨b', off' + j, none⟩ = some (.int .u8 (ys.getD j 0 : Nat))) :
    Calls Try.prog 13 #[.slice (some ⟨b, off, none⟩) xs.length c, .slice (some ⟨b', off', none⟩) xs.length c'] w fun e w' => e = .returned (.bool (eqB xs ys)) ∧ ∃ n, w' = w.drewN n := by
  unfold maxLen at hm
  have HX := hide hx
  have HY : Hid (∀ j, j < xs.length → w.cell? ⟨b', off' + j, none⟩ = some (.int .u8 (ys.getD j 0 : Nat))) := hide (fun j hj => hy j (by omega))
  have Hyes : Hid ((∀ j, j < xs.length → xs.getD j 0 = ys.getD j 0) → eqB xs ys = true) := hide (fun h => by
    rw [show xs = ys from List.ext_getElem hl (fun j h1 h2 => by
      have := h j h1
      simpa [List.getD, h1, h2] using this)]
    exact eqB_refl _)
  have Hno : Hid (∀ j, xs.getD j 0 ≠ ys.getD j 0 → eqB xs ys = false) := hide (fun j h => eqB_no (fun e => h (by rw [e])))
  clear hx hy
  generalize hlen : xs.length = len at *
  clear hl
  have d1 : ((len : Int) != (len : Int)) = false := by simp
  go_enter Try.func13, Try.ntmps13
  go_wp2
  go_loopw [13] (fun i wr => ∃ k n : Nat, k ≤ len ∧ i = .int .i64 k ∧ wr = w.drewN n ∧ Hid (∀ j, j < k → xs.getD j 0 = ys.getD j 0)) (fun i _ => len - (intOf i).toNat)
  case atStart => exact ⟨0, 0, by omega, rfl, rfl, hide (fun j hj => by omega)⟩
  case round =>
    obtain ⟨k, n, hk, rfl, rfl, HK⟩ := hrel
    by_cases hlt : k < len
    · have c0 := unhide HX k (by omega)
      have e0 := unhide HY k hlt
      have HN := hide (unhide Hno k)
      have HK' : Hid (xs.getD k 0 = ys.getD k 0 → ∀ j, j < k + 1 → xs.getD j 0 = ys.getD j 0) := hide (fun h j hj => by
        by_cases e : j = k
        · rw [e]; exact h
        · exact unhide HK j (by omega))
      generalize xs.getD k 0 = x at *
      generalize ys.getD k 0 = y at *
      by_cases he : x = y
      · subst he
        have hb : ((x : Int) != (x : Int)) = false := by simp
        have HK2 := hide (unhide HK' rfl)
        clear HK' HN
        go_wp2
        go_quiet (fail)
        go_wp2
        go_roundw
        case rel => exact ⟨k + 1, n + nq, by omega, by go_num, rfl, HK2⟩
        case measure => simp [intOf]; omega
      · have hb : ((x : Int) != (y : Int)) = true := by rw [bne_iff_ne]; omega
        have HF := hide (unhide HN he)
        clear HK' HN
        go_wp2
        go_quiet (fail)
        go_wp2
        go_ret
        exact ⟨ret_bool (unhide HF).symm, n + nq, by first | rfl | simp⟩
    · have hk2 : k = len := by omega
      subst hk2
      have HF := hide (unhide Hyes (unhide HK))
      go_wp2
      go_ret
      exact ⟨ret_bool (unhide HF).symm, n, rfl⟩
theorem beq_any (v u : Value) (xs ys : List Nat) (w : World) (h : RowG 1 w v (bys xs)) (h' : RowG 1 w u (bys ys)) :
    Calls Try.prog 13 #[v, u] w fun e w' => e = .returned (.bool (eqB xs ys)) ∧ ∃ n, w' = w.drewN n := by
  by_cases hl : xs.length = ys.length
  · rcases rowB_cases h with ⟨a, cap, rfl, rfl, _⟩ | ⟨b, off, cap, rfl, h0, hc, hm, hx⟩
    · rcases rowB_cases h' with ⟨a', cap', rfl, rfl, _⟩ | ⟨b', off', cap', rfl, h0', _, _, hy⟩
      · rw [eqB_refl]
        exact (beq_empty a a' cap cap' w).mono fun e w' h => ⟨h.1, 0, h.2.symm⟩
      · rw [List.length_nil] at hl; omega
    · rcases rowB_cases h' with ⟨a', cap', rfl, rfl, _⟩ | ⟨b', off', cap', rfl, h0', _, _, hy⟩
      · rw [List.length_nil] at hl; omega
      · rw [← hl]
        exact beq_row b off cap b' off' cap' xs ys w hl (by omega) hx hy
  · obtain ⟨a, c, rfl⟩ := rowG_slice h
    obtain ⟨a', c', rfl⟩ := rowG_slice h'
    rw [eqB_no (fun e => hl (by rw [e]))]
    exact (beq_diff a a' _ _ c c' (by rw [bys_len, bys_len]; exact hl) w).mono fun e w' h => ⟨h.1, 0, h.2.symm⟩
end Go.Proofs.Ytfahgphkceilkaa
