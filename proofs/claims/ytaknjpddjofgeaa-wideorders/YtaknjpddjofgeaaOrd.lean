/- Plain facts for WideOrders: orders turn round, and a quotient of more is no less. -/
import Derived.Test.YtaknjpddjofgeaaAlive
namespace Go.Proofs.Ytaknjpddjofgeaa
open Go.RowKit
theorem ord_neg (X Y : Int) : ord Y X = -ord X Y := by
  by_cases h : X < Y
  · rw [ord_lt h, ord_gt h]; rfl
  · by_cases h2 : Y < X
    · rw [ord_lt h2, ord_gt h2]
    · obtain rfl : X = Y := by omega
      rw [ord_same]; rfl
theorem ord_zero {X Y : Int} : ord X Y = 0 ↔ X = Y := by
  unfold ord
  by_cases h : X < Y
  · rw [if_pos h]; omega
  · by_cases h2 : Y < X
    · rw [if_neg h, if_pos h2]; omega
    · rw [if_neg h, if_neg h2]; omega
theorem ord_pos {X Y : Int} : 0 < ord X Y ↔ Y < X := by
  unfold ord
  by_cases h : X < Y
  · rw [if_pos h]; omega
  · by_cases h2 : Y < X
    · rw [if_neg h, if_pos h2]; omega
    · rw [if_neg h, if_neg h2]; omega
/-- The halves of two Ints that are not the same. -/
theorem halves_ne {X Y : Int} (hX : In128 X) (hY : In128 Y) (h : X ≠ Y) : hi X ≠ hi Y ∨ hi X = hi Y ∧ lo X ≠ lo Y := by
  by_cases h1 : hi X = hi Y
  · exact Or.inr ⟨h1, fun h2 => h (hilo_inj hX hY h1 h2)⟩
  · exact Or.inl h1
theorem near_mono {x y B : Int} (hB : 0 < B) (h : x ≤ y) : x / B + up (x / B) (x % B) B ≤ y / B + up (y / B) (y % B) B := by
  have hq := Int.ediv_le_ediv hB h
  have e1 : x % B + B * (x / B) = x := Int.emod_add_mul_ediv _ _
  have e2 : y % B + B * (y / B) = y := Int.emod_add_mul_ediv _ _
  have u1 := up_01 (x / B) (x % B) B
  have u2 := up_01 (y / B) (y % B) B
  by_cases hlt : x / B < y / B
  · omega
  · have hqe : x / B = y / B := by omega
    rw [hqe] at e1 ⊢
    have hr : x % B ≤ y % B := by omega
    have : up (y / B) (x % B) B ≤ up (y / B) (y % B) B := by
      unfold up
      split <;> split <;> omega
    omega
theorem quot_mono {X Y d : Int} (hd : 0 < d) (h : X ≤ Y) : quot 0 X d ≤ quot 0 Y d ∧ quot 1 X d ≤ quot 1 Y d := by
  have n : ∀ Z : Int, nX Z d = Z := fun Z => if_neg (by omega)
  have b : nB d = d := if_neg (by omega)
  unfold quot
  rw [if_pos rfl, if_pos rfl, if_neg (by decide), if_neg (by decide), n, n, b]
  exact ⟨Int.ediv_le_ediv hd h, near_mono hd h⟩
end Go.Proofs.Ytaknjpddjofgeaa
