/- What wide's Div and MulDiv answer. -/
import Derived.Test.YtmepmmhhiphfiaaWide5
import Derived.Laws.EntriesVeiled
namespace Go.Proofs.Ytmepmmhhiphfiaa
open Go.RowKit
/-- The quotient is too great for what is cut. -/
def Over (X b : Int) : Prop := b.natAbs ≤ X.natAbs / 18446744073709551616
theorem divide_any (X b : Int) (hX : In128 X) (hb : In64 b) (h0 : b ≠ 0) (w : World) : Calls Try.prog 43 #[.agg #[.int .i64 (hi X), .int .u64 (lo X)], .int .i64 b] w fun e w' =>
    (Over X b ∧ e = .returned (.tuple #[cutNone, .int .i64 3]) ∨ ¬ Over X b ∧ e = .returned (.tuple #[cutOf (nX X b / nB b) (nX X b % nB b) (nB b), .int .i64 0])) ∧ Below w.heap.size w w' := by
  have x1 := hX.lo; have x2 := hX.hi
  have b1 := hb.lo; have b2 := hb.hi
  have key : ∀ S B : Nat, X.natAbs = S → b.natAbs = B → ∀ x : Int, x = nX X b → (B : Int) = nB b → ∀ e w', DivPost S B x w e w' → (Over X b ∧ e = .returned (.tuple #[cutNone, .int .i64 3]) ∨ ¬ Over X b ∧ e = .returned (.tuple #[cutOf (nX X b / nB b) (nX X b % nB b) (nB b), .int .i64 0])) ∧ Below w.heap.size w w' := by
    intro S B hS hB x hx hBB e w' h
    refine ⟨?_, h.2⟩
    unfold Over
    rw [hS, hB, ← hx, ← hBB]
    rcases h.1 with ⟨g1, g2⟩ | ⟨g1, g2⟩
    · exact Or.inl ⟨g1, g2⟩
    · exact Or.inr ⟨by omega, g2⟩
  by_cases hx : X < 0 <;> by_cases hs : b < 0
  · obtain ⟨S, rfl⟩ : ∃ S : Nat, X = -(S : Int) := ⟨X.natAbs, by omega⟩
    obtain ⟨B, rfl⟩ : ∃ B : Nat, b = -(B : Int) := ⟨b.natAbs, by omega⟩
    exact (divide_nn S B (by omega) (by omega) (by omega) (by omega) w).mono (key S B (by omega) (by omega) S (by unfold nX; rw [if_pos hs]; omega) (by unfold nB; rw [if_pos hs]; omega))
  · obtain ⟨S, rfl⟩ : ∃ S : Nat, X = -(S : Int) := ⟨X.natAbs, by omega⟩
    obtain ⟨B, rfl⟩ : ∃ B : Nat, b = (B : Int) := ⟨b.natAbs, by omega⟩
    exact (divide_np S B (by omega) (by omega) (by omega) (by omega) w).mono (key S B (by omega) (by omega) _ (by unfold nX; rw [if_neg hs]) (by unfold nB; rw [if_neg hs]))
  · obtain ⟨S, rfl⟩ : ∃ S : Nat, X = (S : Int) := ⟨X.natAbs, by omega⟩
    obtain ⟨B, rfl⟩ : ∃ B : Nat, b = -(B : Int) := ⟨b.natAbs, by omega⟩
    exact (divide_pn S B (by omega) (by omega) (by omega) w).mono (key S B (by omega) (by omega) _ (by unfold nX; rw [if_pos hs]) (by unfold nB; rw [if_pos hs]; omega))
  · obtain ⟨S, rfl⟩ : ∃ S : Nat, X = (S : Int) := ⟨X.natAbs, by omega⟩
    obtain ⟨B, rfl⟩ : ∃ B : Nat, b = (B : Int) := ⟨b.natAbs, by omega⟩
    exact (divide_pp S B (by omega) (by omega) (by omega) w).mono (key S B (by omega) (by omega) _ (by unfold nX; rw [if_neg hs]) (by unfold nB; rw [if_neg hs]))
/-- How far to go up. -/
def up (q r B : Int) : Int := if B - r < r ∨ r = B - r ∧ q % 2 = 1 then 1 else 0
theorem down_any (q r B : Int) (w : World) : Calls Try.prog 41 #[cutOf q r B] w fun e w' => e = .returned (.int .i64 0) ∧ ∃ o, w' = w.alloc o := by
  unfold cutOf
  go_enter Try.func41, Try.ntmps41
  go_wp2_with fail
  go_ret
  exact ⟨rfl, _, rfl⟩
theorem near_any (q r B : Int) (hr0 : 0 ≤ r) (hr : r < B) (hB : B ≤ 9223372036854775808) (w : World) : Calls Try.prog 42 #[cutOf q r B] w fun e w' => e = .returned (.int .i64 (up q r B)) ∧ ∃ o, w' = w.alloc o := by
  have l1 := lo_bd q
  have l2 : lo q % 2 = q % 2 := by unfold lo; omega
  unfold cutOf up
  rw [← l2]
  clear l2
  generalize hi q = p at *
  generalize lo q = l at *
  by_cases h1 : B - r < r
  · rw [if_pos (Or.inl h1)]
    go_enter Try.func42, Try.ntmps42
    go_wp2_with fail
    go_ret
    exact ⟨rfl, _, rfl⟩
  · by_cases h2 : r = B - r
    · by_cases h3 : l % 2 = 1
      · rw [if_pos (Or.inr ⟨h2, h3⟩)]
        obtain rfl : B = r + r := by omega
        clear h2
        go_enter Try.func42, Try.ntmps42
        go_wp2_with fail
        go_ret
        exact ⟨rfl, _, rfl⟩
      · rw [if_neg (by omega)]
        obtain rfl : B = r + r := by omega
        clear h2
        go_enter Try.func42, Try.ntmps42
        go_wp2_with fail
        go_ret
        exact ⟨rfl, _, rfl⟩
    · rw [if_neg (by omega)]
      go_enter Try.func42, Try.ntmps42
      go_wp2_with fail
      go_ret
      exact ⟨rfl, _, rfl⟩
/-- The quotient, rounded downwards, or to the nearer one. -/
def quot (way X b : Int) : Int := if way = 0 then nX X b / nB b else nX X b / nB b + up (nX X b / nB b) (nX X b % nB b) (nB b)
theorem div_arg (X b way : Int) (h : way < 0 ∨ 2 ≤ way) (w : World) : Calls Try.prog 37 #[.agg #[.int .i64 (hi X), .int .u64 (lo X)], .int .i64 b, .int .i64 way] w fun e w' => e = .returned (.tuple #[.int .i64 0, .int .i64 2]) ∧ Below w.heap.size w w' := by
  by_cases h1 : way < 0
  · go_enter Try.func37, Try.ntmps37
    go_wp2_with fail
    go_ret2
    exact ⟨rfl, ((Below.refl _ _).alloc (Nat.le_refl _) _).alloc (by simp) _⟩
  · have h2 : 2 ≤ way := by omega
    go_enter Try.func37, Try.ntmps37
    go_wp2_with fail
    go_ret2
    exact ⟨rfl, ((Below.refl _ _).alloc (Nat.le_refl _) _).alloc (by simp) _⟩
theorem div_by0 (X way : Int) (h1 : ¬ way < 0) (h2 : ¬ 2 ≤ way) (w : World) : Calls Try.prog 37 #[.agg #[.int .i64 (hi X), .int .u64 (lo X)], .int .i64 0, .int .i64 way] w fun e w' => e = .returned (.tuple #[.int .i64 0, .int .i64 4]) ∧ Below w.heap.size w w' := by
  go_enter Try.func37, Try.ntmps37
  go_wp2_with fail
  go_ret2
  exact ⟨rfl, ((Below.refl _ _).alloc (Nat.le_refl _) _).alloc (by simp) _⟩
end Go.Proofs.Ytmepmmhhiphfiaa
