/- Plain facts and the walk of CountBrings: of more days there is no less. -/
import Derived.Test.YthlakemoiicdfaaAlive
import Derived.Test.YthlakemoiicdfaaAsked
import Derived.WalkKit
import Derived.WalkSpells
namespace Go.Proofs.Ythlakemoiicdfaa.countBrings
open Go.RowKit
open Dy (Valid date_of ds ds_mono leap len_bd num num_lt num_year)
set_option linter.unusedSimpArgs false
/-- Later days stand no earlier where every month has thirty days. -/
theorem fp_mono {y m d y' m' d' : Int} (h : Valid y m d) (h' : Valid y' m' d') (hn : num y m d ≤ num y' m' d') : fp y m d ≤ fp y' m' d' := by
  by_cases a : y' < y ∨ (y' = y ∧ (m' < m ∨ (m' = m ∧ d' < d)))
  · have := num_lt h' h a; omega
  · obtain ⟨y1, y2, m1, m2, d1, d2⟩ := h
    obtain ⟨y1', y2', m1', m2', d1', d2'⟩ := h'
    have l1 := len_bd (leap y) m
    have l2 := len_bd (leap y') m'
    unfold fp
    split <;> split <;> omega
theorem ds_six (y : Int) : ds y + 2190 ≤ ds (y + 6) := by unfold ds; omega
/-- Of some years there are not many more. -/
theorem fp_far {y m d y' m' d' : Int} (h : Valid y m d) (h' : Valid y' m' d') (hn : num y' m' d' ≤ num y m d + 2004) : fp y' m' d' ≤ fp y m d + 3600 := by
  have n1 := num_year h
  have n2 := num_year h'
  have c : y' ≤ y + 6 := by
    by_cases c : y' ≤ y + 6
    · exact c
    · have e1 := ds_mono (y := y + 6) (z := y' - 1) (by omega)
      have e2 := ds_six y
      omega
  obtain ⟨y1, y2, m1, m2, d1, d2⟩ := h
  obtain ⟨y1', y2', m1', m2', d1', d2'⟩ := h'
  have l1 := len_bd (leap y) m
  have l2 := len_bd (leap y') m'
  unfold fp
  split <;> split <;> omega
/-- The part of a rate that some days bring. -/
theorem part_in {r d B : Int} (r0 : 0 ≤ r) (r1 : r ≤ 1000000000000) (d0 : 0 ≤ d) (d1 : d ≤ 3600) (hB : 360 ≤ B) : 0 ≤ near (r * d) B ∧ near (r * d) B ≤ 10000000000000 := by
  have h0 : 0 ≤ r * d := Int.mul_nonneg r0 d0
  have h1 : r * d ≤ 1000000000000 * 3600 := Int.mul_le_mul r1 d1 d0 (by omega)
  refine ⟨near_ge (by omega) (by rw [Int.zero_mul]; exact h0), near_le (by omega) ?_⟩
  omega
theorem int_in {x p : Int} (x0 : 0 ≤ x) (x1 : x ≤ 10000000000000) (p0 : 0 ≤ p) (p1 : p ≤ 10000000000000) : 0 ≤ qI x p ∧ qI x p ≤ 100000000000000 := by
  have h0 : 0 ≤ x * p := Int.mul_nonneg x0 p0
  have h1 : x * p ≤ 10000000000000 * 10000000000000 := Int.mul_le_mul x1 p1 p0 (by omega)
  unfold qI
  refine ⟨near_ge (by omega) (by rw [Int.zero_mul]; exact h0), near_le (by omega) ?_⟩
  omega
/-- What some days bring. -/
def br (x r d B : Int) : Int := qI x (near (r * d) B)
theorem acc_in {x r a b way d B : Int} (x0 : 0 ≤ x) (x1 : x ≤ 10000000000000) (r0 : 0 ≤ r) (r1 : r ≤ 1000000000000) (d0 : 0 ≤ d) (d1 : d ≤ 3600) (hB : 360 ≤ B) (hB2 : B ≤ 365) (hab : a ≤ b) (hD : DaysA a b way d 0) (hb : BasisA way B) : AccA x r a b way (br x r d B) 0 := by
  have p := part_in r0 r1 d0 d1 hB
  have i := int_in x0 x1 p.1 p.2
  have hP := part_yes r d B ⟨by omega, by omega⟩ ⟨by omega, by omega⟩ ⟨by omega, by omega⟩ d0 (by omega)
  rw [okN_in (turn_in ⟨by omega, by omega⟩), okE_in (turn_in ⟨by omega, by omega⟩)] at hP
  have hI := in_ok (interest_ok (x := x) (r := near (r * d) B) ⟨by omega, by omega⟩ ⟨by omega, by omega⟩) ⟨by omega, by omega⟩
  exact acc_ok x r a b way d B _ _ _ (hide hD) (decide_eq_false (by omega)) (hide (may_yes ⟨by omega, by omega⟩)) (hide hb) (hide hP) (hide hI)
theorem br_zero (x r B : Int) (hB : 0 < B) : br x r 0 B = 0 := by
  unfold br qI
  rw [Int.mul_zero, near_zero hB, Int.mul_zero, near_zero (by omega)]
theorem br_mono {x r d d' B : Int} (x0 : 0 ≤ x) (r0 : 0 ≤ r) (hB : 0 < B) (h : d ≤ d') : br x r d B ≤ br x r d' B :=
  near_mono (by omega) (Int.mul_le_mul_of_nonneg_left (near_mono hB (Int.mul_le_mul_of_nonneg_left h r0)) x0)
theorem br_nonneg {x r d B : Int} (x0 : 0 ≤ x) (r0 : 0 ≤ r) (hB : 0 < B) (h : 0 ≤ d) : 0 ≤ br x r d B := by
  have := br_mono x0 r0 hB h
  rwa [br_zero x r B hB] at this
/-- What the three calls of one way answer. -/
def T3 (x r a M k : Int) : Prop := ∃ u v : Int, AccA x r a a k 0 0 ∧ AccA x r a (a + M) k u 0 ∧ AccA x r a (a + M + 5) k v 0 ∧ 0 ≤ u ∧ u ≤ v
theorem t3_of {x r a M k B d e : Int} (x0 : 0 ≤ x) (x1 : x ≤ 10000000000000) (r0 : 0 ≤ r) (r1 : r ≤ 1000000000000) (M0 : 0 ≤ M) (hB : 360 ≤ B) (hB2 : B ≤ 365) (hb : BasisA k B) (h0 : DaysA a a k 0 0) (h1 : DaysA a (a + M) k d 0) (h2 : DaysA a (a + M + 5) k e 0) (d0 : 0 ≤ d) (de : d ≤ e) (e1 : e ≤ 3600) : T3 x r a M k := by
  refine ⟨br x r d B, br x r e B, ?_, acc_in x0 x1 r0 r1 d0 (by omega) hB hB2 (by omega) h1 hb, acc_in x0 x1 r0 r1 (by omega) e1 hB hB2 (by omega) h2 hb, br_nonneg x0 r0 (by omega) d0, br_mono x0 r0 (by omega) de⟩
  have h := acc_in x0 x1 r0 r1 (Int.le_refl 0) (by omega) hB hB2 (Int.le_refl a) h0 hb
  rwa [br_zero x r B (by omega)] at h
theorem t3_all {x r a M : Int} (x0 : 0 ≤ x) (x1 : x ≤ 10000000000000) (r0 : 0 ≤ r) (r1 : r ≤ 1000000000000) (a0 : 1 ≤ a) (a1 : a ≤ 3000000) (M0 : 0 ≤ M) (M1 : M ≤ 1999) (k : Nat) (k1 : 1 ≤ k) (k2 : k ≤ 3) : T3 x r a M k := by
  have q0 := real_ok a (by omega) (by omega)
  have q1 := real_ok (a + M) (by omega) (by omega)
  have q2 := real_ok (a + M + 5) (by omega) (by omega)
  rcases (show k = 1 ∨ k = 2 ∨ k = 3 by omega) with rfl | rfl | rfl
  · obtain ⟨y, m, d, hv, ea⟩ := date_of a (by omega) (by omega)
    obtain ⟨y', m', d', hv', eb⟩ := date_of (a + M) (by omega) (by omega)
    obtain ⟨y'', m'', d'', hv'', ec⟩ := date_of (a + M + 5) (by omega) (by omega)
    have b0 := fp_bd hv
    have b1 := fp_bd hv'
    have b2 := fp_bd hv''
    have f0 := flat_ok hv
    have f1 := flat_ok hv'
    have f2 := flat_ok hv''
    have m1 := fp_mono hv hv' (by omega)
    have m2 := fp_mono hv' hv'' (by omega)
    have m3 := fp_far hv hv'' (by omega)
    rw [ea] at f0
    rw [eb] at f1
    rw [ec] at f2
    have h0 := days_1 a a _ _ (by omega) (by omega) (by omega) (by omega) (hide f0) (hide f0)
    rw [Int.sub_self] at h0
    exact t3_of x0 x1 r0 r1 M0 (by omega) (by omega) basis_1 h0 (days_1 _ _ _ _ (by omega) (by omega) (by omega) (by omega) (hide f0) (hide f1)) (days_1 _ _ _ _ (by omega) (by omega) (by omega) (by omega) (hide f0) (hide f2)) (by omega) (by omega) (by omega)
  · have h0 := days_2 a a _ _ (by omega) (by omega) (by omega) (by omega) (hide q0) (hide q0)
    rw [Int.sub_self] at h0
    exact t3_of x0 x1 r0 r1 M0 (by omega) (by omega) basis_2 h0 (days_2 _ _ _ _ (by omega) (by omega) (by omega) (by omega) (hide q0) (hide q1)) (days_2 _ _ _ _ (by omega) (by omega) (by omega) (by omega) (hide q0) (hide q2)) (by omega) (by omega) (by omega)
  · have h0 := days_3 a a _ _ (by omega) (by omega) (by omega) (by omega) (hide q0) (hide q0)
    rw [Int.sub_self] at h0
    exact t3_of x0 x1 r0 r1 M0 (by omega) (by omega) basis_3 h0 (days_3 _ _ _ _ (by omega) (by omega) (by omega) (by omega) (hide q0) (hide q1)) (days_3 _ _ _ _ (by omega) (by omega) (by omega) (by omega) (hide q0) (hide q2)) (by omega) (by omega) (by omega)
end Go.Proofs.Ythlakemoiicdfaa.countBrings
