/- The document's examples of layer 1 come out as the chapter says. -/
import Derived.Test.YtcimppdeajhfmaaSame
namespace Go.Proofs.Ytcimppdeajhfmaa
open Go.RowKit
def partL (n : Int) (ws : List Int) : List Int := (List.range ws.length).map (part n ws)
theorem part_in64 {n : Int} {ws : List Int} (hg : good ws = true) (hn : may n = true) (j : Nat) : In64 (part n ws j) := by
  have h := sh_bd hg hn j
  have hs : sgn (leftOf n ws) = 1 ∨ sgn (leftOf n ws) = -1 := by unfold sgn; split <;> simp
  unfold part giveAt
  generalize sgn (leftOf n ws) = s at hs
  split <;> exact ⟨by omega, by omega⟩
/-- Split, where it splits: a new row, the parts. -/
theorem split_yes (n : Int) (v : Value) (ws : List Int) (w : World) (h : Row w v ws) (hg : good ws = true) (ht : total ws ≠ 0) (hn : may n = true)
    (hd : ∀ j, j < ws.length → DivSaid (n.natAbs * (ws.getD j 0).toNat) (total ws).toNat) :
    Calls Try.prog 23 #[.int .i64 n, v] w fun e w' => ∃ u, e = .returned (.tuple #[u, .int .i64 0]) ∧ Row w' u (partL n ws) ∧ Below w.heap.size w w' := by
  have h' := h
  rcases h' with ⟨a, c, rfl, rfl⟩ | ⟨b, off, c, rfl, h0, hm, hc, hin⟩
  · exact absurd rfl ht
  · refine (split_row n b off c ws w hg ht hn hc h hd).mono fun e w' h => ⟨_, h.1, h.2.asRow hm (part_in64 hg hn), h.2.below⟩
theorem row_alloc (w : World) (zs : List Int) (hm : zs.length ≤ maxLen) (hin : ∀ z ∈ zs, In64 z) : Row (w.alloc (.cells (zs.map (Value.int .i64)).toArray 2)) (.slice (some ⟨w.heap.size, 0, none⟩) zs.length zs.length) zs := by
  by_cases h0 : zs.length = 0
  · rw [h0]; exact Or.inl ⟨_, 0, rfl, List.eq_nil_of_length_eq_zero h0⟩
  · refine Or.inr ⟨w.heap.size, 0, zs.length, rfl, by omega, hm, fun j hj => ?_, hin⟩
    rw [World.cell?_alloc_at _ _ _ _ rfl]
    simp [List.getD, hj]
theorem split_ten (w : World) (v : Value) (h : Row w v [1, 1, 1]) :
    Calls Try.prog 23 #[.int .i64 10, v] w fun e w' => ∃ u, e = .returned (.tuple #[u, .int .i64 0]) ∧ Row w' u [4, 3, 3] ∧ Below w.heap.size w w' := by
  have hx : ∀ j, j < 3 → DivSaid ((10 : Int).natAbs * (([1, 1, 1] : List Int).getD j 0).toNat) (total [1, 1, 1]).toNat := by
    intro j hj
    match j, hj with
    | 0, _ => exact divSaid_low 10 3 (by decide) (by decide) (by decide)
    | 1, _ => exact divSaid_low 10 3 (by decide) (by decide) (by decide)
    | 2, _ => exact divSaid_low 10 3 (by decide) (by decide) (by decide)
  have := split_yes 10 v [1, 1, 1] w h (by decide) (by decide) (by decide) hx
  rw [show partL 10 [1, 1, 1] = [4, 3, 3] from by decide +kernel] at this
  exact this
theorem add_over (w : World) : Calls Try.prog 10 #[.int .i64 9223372036854775807, .int .i64 1] w fun e w' => e = .returned (.tuple #[.int .i64 0, .int .i64 3]) ∧ w = w' := by
  have h := add_any 9223372036854775807 1 ⟨by omega, by omega⟩ ⟨by omega, by omega⟩ w
  rw [okN_out (by decide), okE_out (by decide)] at h
  exact h
theorem sum_back (w : World) (v : Value) (h : Row w v [9223372036854775807, 1, -1]) : Calls Try.prog 20 #[v] w fun e w' => e = .returned (.tuple #[.int .i64 9223372036854775807, .int .i64 0]) ∧ w = w' := by
  have h := sum_any v _ w h
  rw [show total [9223372036854775807, 1, -1] = 9223372036854775807 from by decide, okN_in (by decide), okE_in (by decide)] at h
  exact h
theorem row_111 (w : World) : Row (w.alloc (.cells #[.int .i64 1, .int .i64 1, .int .i64 1] 2)) (.slice (some ⟨w.heap.size, 0, none⟩) 3 3) [1, 1, 1] :=
  row_alloc w [1, 1, 1] (by decide) (by intro z hz; simp at hz; subst hz; exact ⟨by omega, by omega⟩)
theorem row_433 (w : World) : Row (w.alloc (.cells #[.int .i64 4, .int .i64 3, .int .i64 3] 2)) (.slice (some ⟨w.heap.size, 0, none⟩) 3 3) [4, 3, 3] :=
  row_alloc w [4, 3, 3] (by decide) (by intro z hz; simp at hz; rcases hz with rfl | rfl <;> exact ⟨by omega, by omega⟩)
theorem row_back (w : World) : Row (w.alloc (.cells #[.int .i64 9223372036854775807, .int .i64 1, .int .i64 (-1)] 2)) (.slice (some ⟨w.heap.size, 0, none⟩) 3 3) [9223372036854775807, 1, -1] :=
  row_alloc w [9223372036854775807, 1, -1] (by decide) (by intro z hz; simp at hz; rcases hz with rfl | rfl | rfl <;> exact ⟨by omega, by omega⟩)
theorem Row.alloc {w : World} {v : Value} {zs : List Int} (h : Row w v zs) (o : Obj) : Row (w.alloc o) v zs := h.below ((Below.refl w.heap.size w).alloc (Nat.le_refl _) o) (Nat.le_refl _)
theorem row_433' (w : World) (o : Obj) : Row ((w.alloc o).alloc (.cells #[.int .i64 4, .int .i64 3, .int .i64 3] 2)) (.slice (some ⟨w.heap.size + 1, 0, none⟩) 3 3) [4, 3, 3] := by
  have h := row_433 (w.alloc o)
  rw [show (w.alloc o).heap.size = w.heap.size + 1 from by simp] at h
  exact h
theorem same_yes (v u : Value) (xs : List Int) (w : World) (h : Row w v xs) (h' : Row w u xs) :
    Calls Try.prog 22 #[v, u] w fun e w' => e = .returned (.bool true) ∧ ∃ n, w' = w.drewN n := by
  have := same_any v u xs xs w h h'
  rw [sameB_refl] at this
  exact this
theorem below_drewN {B : Nat} {a w : World} (h : Below B a w) (n : Nat) : Below B a (w.drewN n) := h.trans ⟨rfl, rfl, rfl, Nat.le_refl _, fun _ _ => rfl⟩
set_option maxHeartbeats 400000 in
theorem alive_any (w : World) : Calls Try.prog 9 #[] w fun e w' => e = .returned (.bool true) ∧ Below w.heap.size w w' := by
  go_enter Try.func9, Try.ntmps9
  go_wp2_with fail
  refine (split_ten _ _ (row_111 w)).mono ?_
  rintro e w2 ⟨u, rfl, hu, hb⟩
  have HU := hide hu
  have HB := hide hb
  clear hu hb
  go_wp2_with fail
  refine (add_over _).mono ?_
  rintro e w' ⟨rfl, rfl⟩
  go_wp2_with fail
  refine (sum_back _ _ (row_back w2)).mono ?_
  rintro e w' ⟨rfl, rfl⟩
  go_wp2_with fail
  refine (same_yes u _ [4, 3, 3] _ (((unhide HU).alloc _).alloc _) (row_433' w2 _)).mono ?_
  rintro e w3 ⟨rfl, m, rfl⟩
  go_wp2_with fail
  go_ret
  refine ⟨rfl, ?_⟩
  have hz : w.heap.size + 1 ≤ w2.heap.size := by have := (unhide HB).size; simpa using this
  have h1 := ((Below.refl w.heap.size w).alloc (Nat.le_refl _) (Obj.cells #[.int .i64 1, .int .i64 1, .int .i64 1] 2)).trans ((unhide HB).mono (by simp))
  exact below_drewN ((h1.alloc (by omega) _).alloc (by simp; omega) _) m
end Go.Proofs.Ytcimppdeajhfmaa
