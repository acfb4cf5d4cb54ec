/- Plain facts of what is rounded to the nearer one, by a divisor above 0. -/
import Derived.Test.YtmepmmhhiphfiaaWide7
namespace Go.Proofs.Ytmepmmhhiphfiaa
open Go.RowKit
def near (x B : Int) : Int := x / B + up (x / B) (x % B) B
theorem quot1_near {X d : Int} (hd : 0 < d) : quot 1 X d = near X d := by
  unfold quot near
  rw [if_neg (by decide), show nX X d = X from if_neg (by omega), show nB d = d from if_neg (by omega)]
theorem near_bd {x B : Int} (hB : 0 < B) : -B ≤ 2 * (near x B * B - x) ∧ 2 * (near x B * B - x) ≤ B := by
  have e1 : x % B + B * (x / B) = x := Int.emod_add_mul_ediv _ _
  have h0 := Int.emod_nonneg x (show B ≠ 0 by omega)
  have h1 := Int.emod_lt_of_pos x hB
  unfold near up
  generalize x / B = q at *
  generalize x % B = r at *
  rw [Int.mul_comm] at e1
  split
  · rw [Int.add_mul]
    omega
  · rw [Int.add_mul]
    omega
theorem near_mono {x y B : Int} (hB : 0 < B) (h : x ≤ y) : near x B ≤ near y B := by
  unfold near
  have hq := Int.ediv_le_ediv hB h
  have e1 : x % B + B * (x / B) = x := Int.emod_add_mul_ediv _ _
  have e2 : y % B + B * (y / B) = y := Int.emod_add_mul_ediv _ _
  have u1 := up_01 (x / B) (x % B) B
  have u2 := up_01 (y / B) (y % B) B
  by_cases hlt : x / B < y / B
  · omega
  · have hqe : x / B = y / B := by omega
    rw [hqe] at e1 ⊢
    have hr : x % B ≤ y % B := by omega
    have : up (y / B) (x % B) B ≤ up (y / B) (y % B) B := by
      unfold up
      split <;> split <;> omega
    omega
theorem near_mul {x B : Int} (hB : 0 < B) : near (x * B) B = x := by
  unfold near up
  rw [Int.mul_ediv_cancel _ (by omega), Int.mul_emod_left, if_neg (by omega)]
  omega
theorem near_scale {x B k : Int} (hB : 0 < B) (hk : 0 < k) : near (x * k) (B * k) = near x B := by
  unfold near
  rw [Int.mul_ediv_mul_of_pos_left _ _ hk, show x * k % (B * k) = x % B * k by rw [Int.mul_comm x, Int.mul_comm B, Int.mul_emod_mul_of_pos _ _ hk, Int.mul_comm]]
  have h0 := Int.emod_nonneg x (show B ≠ 0 by omega)
  have h1 := Int.emod_lt_of_pos x hB
  generalize x / B = q at *
  generalize x % B = r at *
  have e : B * k - r * k = (B - r) * k := (Int.sub_mul _ _ _).symm
  unfold up
  have a1 : (B * k - r * k < r * k) ↔ (B - r < r) := by rw [e]; exact Int.mul_lt_mul_right hk
  have a2 : (r * k = B * k - r * k) ↔ (r = B - r) := by
    rw [e]
    exact ⟨fun h => Int.eq_of_mul_eq_mul_right (by omega) h, fun h => by rw [← h]⟩
  simp only [a1, a2]
/-- By more there is no more of what is 0 or more. -/
theorem near_anti {x B C : Int} (hB : 0 < B) (h : B ≤ C) (hx : 0 ≤ x) : near x C ≤ near x B := by
  rw [← near_scale (x := x) (B := C) (k := B) (by omega) hB, ← near_scale (x := x) (B := B) (k := C) hB (by omega), Int.mul_comm C B]
  exact near_mono (Int.mul_pos hB (by omega)) (Int.mul_le_mul_of_nonneg_left h hx)
theorem near_le {x B n : Int} (hB : 0 < B) (h : x ≤ n * B) : near x B ≤ n := by
  have := near_mono hB h
  rwa [near_mul hB] at this
theorem near_ge {x B n : Int} (hB : 0 < B) (h : n * B ≤ x) : n ≤ near x B := by
  have := near_mono hB h
  rwa [near_mul hB] at this
theorem near_zero {B : Int} (hB : 0 < B) : near 0 B = 0 := by
  have := near_mul (x := 0) hB
  rwa [Int.zero_mul] at this
end Go.Proofs.Ytmepmmhhiphfiaa
