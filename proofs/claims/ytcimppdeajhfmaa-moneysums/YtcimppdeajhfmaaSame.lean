/- What the document's Same answers at any two rows of numbers. -/
import Derived.Test.YtcimppdeajhfmaaSplit
namespace Go.Proofs.Ytcimppdeajhfmaa
open Go.RowKit
def sameB (xs ys : List Int) : Bool := decide (xs = ys)
theorem sameB_refl (xs : List Int) : sameB xs xs = true := by simp [sameB]
theorem sameB_no {xs ys : List Int} (h : xs ≠ ys) : sameB xs ys = false := by simp [sameB, h]
theorem row_slice {w : World} {v : Value} {zs : List Int} (h : Row w v zs) : ∃ a cap, v = .slice a zs.length cap := by
  rcases h with ⟨a, cap, rfl, rfl⟩ | ⟨b, off, cap, rfl, _⟩
  · exact ⟨a, cap, rfl⟩
  · exact ⟨_, cap, rfl⟩
theorem ret_bool {a b : Bool} (h : a = b) : Ending.returned (.bool a) = .returned (.bool b) := by rw [h]
theorem same_diff (a a' : Option Addr) (l l' c c' : Nat) (h : l ≠ l') (w : World) :
    Calls Try.prog 22 #[.slice a l c, .slice a' l' c'] w fun e w' => e = .returned (.bool false) ∧ w = w' := by
  have h1 : ((l : Int) != (l' : Int)) = true := by rw [bne_iff_ne]; omega
  go_enter Try.func22, Try.ntmps22
  go_wp2
  go_ret
  exact ⟨rfl, rfl⟩
theorem same_empty (a a' : Option Addr) (c c' : Nat) (w : World) :
    Calls Try.prog 22 #[.slice a 0 c, .slice a' 0 c'] w fun e w' => e = .returned (.bool true) ∧ w = w' := by
  go_enter Try.func22, Try.ntmps22
  go_wp2
  refine wp_loop_rounds 1 ?_
  rw [rounds_succ]
  go_wp2
  go_ret
  exact ⟨rfl, rfl⟩
set_option maxHeartbeats 800000 in
theorem same_row (b off c b' off' c' : Nat) (xs ys : List Int) (w : World) (hl : xs.length = ys.length) (hm : xs.length ≤ maxLen)
    (hx : ∀ j, j < xs.length → w.cell? ⟨b, off + j, none⟩ = some (.int .i64 (xs.getD j 0)))
    (hy : ∀ j, j < xs.length → w.cell? ⟨b', off' + j, none⟩ = some (.int .i64 (ys.getD j 0))) :
    Calls Try.prog 22 #[.slice (some ⟨b, off, none⟩) xs.length c, .slice (some ⟨b', off', none⟩) xs.length c'] w fun e w' => e = .returned (.bool (sameB xs ys)) ∧ ∃ n, w' = w.drewN n := by
  unfold maxLen at hm
  have HX := hide hx
  have HY := hide hy
  have Hyes : Hid ((∀ j, j < xs.length → xs.getD j 0 = ys.getD j 0) → sameB xs ys = true) := hide (fun h => by
    rw [show xs = ys from List.ext_getElem hl (fun j h1 h2 => by
      have := h j h1
      simpa [List.getD, h1, h2] using this)]
    exact sameB_refl _)
  have Hno : Hid (∀ j, xs.getD j 0 ≠ ys.getD j 0 → sameB xs ys = false) := hide (fun j h => sameB_no (fun e => h (by rw [e])))
  clear hx hy
  generalize hlen : xs.length = len at *
  clear hlen hl
  have d1 : ((len : Int) != (len : Int)) = false := by simp
  go_enter Try.func22, Try.ntmps22
  go_wp2
  go_loopw [13] (fun i wr => ∃ k n : Nat, k ≤ len ∧ i = .int .i64 k ∧ wr = w.drewN n ∧ Hid (∀ j, j < k → xs.getD j 0 = ys.getD j 0)) (fun i _ => len - (intOf i).toNat)
  case atStart => exact ⟨0, 0, by omega, rfl, rfl, hide (fun j hj => by omega)⟩
  case round =>
    obtain ⟨k, n, hk, rfl, rfl, HK⟩ := hrel
    by_cases hlt : k < len
    · have h1 := unhide HX k hlt
      have h2 := unhide HY k hlt
      have HN := hide (unhide Hno k)
      have HK' : Hid (xs.getD k 0 = ys.getD k 0 → ∀ j, j < k + 1 → xs.getD j 0 = ys.getD j 0) := hide (fun h j hj => by
        by_cases e : j = k
        · rw [e]; exact h
        · exact unhide HK j (by omega))
      generalize xs.getD k 0 = x at *
      generalize ys.getD k 0 = y at *
      by_cases he : x = y
      · subst he
        have hb : (x != x) = false := by simp
        have HK2 := hide (unhide HK' rfl)
        clear HK' HN
        go_wp2
        go_region
        all_goals (try go_wp2)
        go_roundw
        case rel => exact ⟨k + 1, n + 1, by omega, by go_num, rfl, HK2⟩
        case measure => simp [intOf]; omega
      · have hb : (x != y) = true := by simp [he]
        have HF := hide (unhide HN he)
        go_wp2
        go_region
        all_goals (try go_wp2)
        all_goals go_ret
        all_goals exact ⟨ret_bool (unhide HF).symm, n + 1, rfl⟩
    · have hk2 : k = len := by omega
      subst hk2
      have HF := hide (unhide Hyes (unhide HK))
      go_wp2
      go_ret
      exact ⟨ret_bool (unhide HF).symm, n, rfl⟩
theorem same_any (v u : Value) (xs ys : List Int) (w : World) (h : Row w v xs) (h' : Row w u ys) :
    Calls Try.prog 22 #[v, u] w fun e w' => e = .returned (.bool (sameB xs ys)) ∧ ∃ n, w' = w.drewN n := by
  by_cases hl : xs.length = ys.length
  · rcases h with ⟨a, c, rfl, rfl⟩ | ⟨b, off, c, rfl, h0, hm, hc, hin⟩
    · rcases h' with ⟨a', c', rfl, rfl⟩ | ⟨b', off', c', rfl, h0', hm', hc', hin'⟩
      · rw [sameB_refl]
        exact (same_empty a a' c c' w).mono fun e w' h => ⟨h.1, 0, h.2.symm⟩
      · rw [← hl] at h0'; exact absurd h0' (by decide)
    · rcases h' with ⟨a', c', rfl, rfl⟩ | ⟨b', off', c', rfl, h0', hm', hc', hin'⟩
      · rw [hl] at h0; exact absurd h0 (by decide)
      · rw [← hl]
        exact same_row b off c b' off' c' xs ys w hl hm hc (by rw [hl]; exact hc')
  · obtain ⟨a, c, rfl⟩ := row_slice h
    obtain ⟨a', c', rfl⟩ := row_slice h'
    rw [sameB_no (fun e => hl (by rw [e]))]
    exact (same_diff a a' _ _ c c' hl w).mono fun e w' h => ⟨h.1, 0, h.2.symm⟩
/-- Any part of the program that reads a row may do so in a later world. -/
theorem Row.later {w w' : World} {v : Value} {zs : List Int} (h : Row w v zs) (hc : ∀ a x, w.cell? a = some x → w'.cell? a = some x) : Row w' v zs := by
  rcases h with h | ⟨b, off, cap, h1, h2, h3, h4, h5⟩
  · exact Or.inl h
  · exact Or.inr ⟨b, off, cap, h1, h2, h3, fun j hj => hc _ _ (h4 j hj), h5⟩
theorem Row.below {B : Nat} {w w' : World} {v : Value} {zs : List Int} (h : Row w v zs) (hb : Below B w w') (hB : w.heap.size ≤ B) : Row w' v zs := by
  rcases h with h | ⟨b, off, cap, h1, h2, h3, h4, h5⟩
  · exact Or.inl h
  · exact Or.inr ⟨b, off, cap, h1, h2, h3, fun j hj => (hb.cell (p := ⟨b, off + j, none⟩) (Nat.lt_of_lt_of_le (lt_of_cell (h4 j hj)) hB)).trans (h4 j hj), h5⟩
/-- The row that Split has made, as a row. -/
theorem Own.asRow {w wr : World} {P len cap : Nat} {f : Nat → Int} (h : Own w wr P len f) (hm : len ≤ maxLen) (hf : ∀ j, In64 (f j)) : Row wr (.slice (some ⟨P, 0, none⟩) len cap) ((List.range len).map f) := by
  by_cases h0 : len = 0
  · subst h0; exact Or.inl ⟨_, cap, rfl, rfl⟩
  · refine Or.inr ⟨P, 0, cap, by simp, by simp; omega, by simpa using hm, fun j hj => ?_, fun z hz => ?_⟩
    · have hj' : j < len := by simpa using hj
      rw [Nat.zero_add, h.row.cell hj']
      simp [List.getD, hj']
    · obtain ⟨j, _, rfl⟩ := List.mem_map.1 hz
      exact hf j
end Go.Proofs.Ytcimppdeajhfmaa
