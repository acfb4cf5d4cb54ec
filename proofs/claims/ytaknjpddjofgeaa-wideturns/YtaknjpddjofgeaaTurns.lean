/- Proved here: WideTurns: to the nearer one a negative's quotient is the negative; downwards it is that, or one less. No condition. -/
import Derived.Test.YtaknjpddjofgeaaAlive
import Derived.ProofKit
import Derived.OpenShut
import Derived.ShutString
import Derived.ChangeOld
import Derived.Below
namespace Go.Proofs.Ytaknjpddjofgeaa.wideTurns
open Go.ChangeShapes Go.WideShapes Go.ChangeAt Go.RowKit
/-- What MulDiv answers, at one way. -/
def Says (a b c way n e : Int) : Prop := ∀ w : World, Calls Try.prog 22 #[.int .i64 a, .int .i64 b, .int .i64 c, .int .i64 way] w fun x w' => x = .returned (.tuple #[.int .i64 n, .int .i64 e]) ∧ Below w.heap.size w w'
def Good (a b c : Int) (w : World) : Prop := Calls Try.prog 8 #[.int .i64 a, .int .i64 b, .int .i64 c] w fun e w' => e = .returned (.bool true) ∧ Below w.heap.size w w'
theorem near_neg (x B : Int) (hB : 0 < B) : -x / B + up (-x / B) (-x % B) B = -(x / B + up (x / B) (x % B) B) ∧ (-x / B = -(x / B) ∨ -x / B = -(x / B) - 1) := by
  have e : x % B + B * (x / B) = x := Int.emod_add_mul_ediv _ _
  have r0 := Int.emod_nonneg x (show B ≠ 0 from by omega)
  have r1 := Int.emod_lt_of_pos x hB
  generalize x / B = q at *
  generalize x % B = r at *
  by_cases h : r = 0
  · have e1 : -x = B * (-q) := by rw [Int.mul_neg]; omega
    rw [e1, Int.mul_ediv_cancel_left _ (by omega), Int.mul_emod_right, h]
    have u1 : ∀ p : Int, up p 0 B = 0 := by intro p; unfold up; rw [if_neg (by omega)]
    rw [u1, u1]
    omega
  · have e1 : -x = (B - r) + B * (-q - 1) := by rw [Int.mul_sub, Int.mul_neg]; omega
    have e2 : -x / B = -q - 1 := by rw [e1, Int.add_mul_ediv_left _ _ (by omega), Int.ediv_eq_zero_of_lt (by omega) (by omega)]; omega
    have e3 : -x % B = B - r := by rw [e1, Int.add_mul_emod_self_left, Int.emod_eq_of_lt (by omega) (by omega)]
    rw [e2, e3]
    refine ⟨?_, by omega⟩
    unfold up
    split <;> split <;> omega
theorem quot_neg (X c : Int) (h0 : c ≠ 0) : quot 1 (-X) c = -quot 1 X c ∧ (quot 0 (-X) c = -quot 0 X c ∨ quot 0 (-X) c = -quot 0 X c - 1) := by
  have e : nX (-X) c = -nX X c := by unfold nX; split <;> omega
  unfold quot
  rw [if_neg (by decide), if_neg (by decide), if_pos rfl, if_pos rfl, e]
  exact near_neg _ _ (nB_pos h0)
theorem okE_03 (n : Int) : okE n = 0 ∨ okE n = 3 := by unfold okE; split <;> simp
set_option maxHeartbeats 400000 in
theorem walk_skip (a b c : Int) (h : a = -9223372036854775808 ∨ ¬ a = -9223372036854775808 ∧ c = 0) (w : World) : Good a b c w := by
  unfold Good
  rcases h with rfl | ⟨h, rfl⟩
  all_goals
    go_enter Try.func8, Try.ntmps8
    go_wp2_with fail
    refine (alive_any _).mono ?_
    rintro e w1 ⟨rfl, hb1⟩
    replace hb1 := hide hb1
    go_wp2_with fail
    go_ret
    exact ⟨rfl, unhide hb1⟩
set_option maxHeartbeats 2000000 in
theorem walk_go (a b c n m x y e f g h : Int) (ha : ¬ a = -9223372036854775808) (a1 : -9223372036854775808 ≤ a) (a2 : a ≤ 9223372036854775807) (hc : ¬ c = 0)
    (k1 : e = 3 ∨ e = 0 ∧ f = 3 ∨ e = 0 ∧ f = 0 ∧ m = -n ∧ -9223372036854775807 ≤ n ∧ n ≤ 9223372036854775807)
    (k2 : g = 3 ∨ g = 0 ∧ h = 3 ∨ g = 0 ∧ h = 0 ∧ x = -9223372036854775808 ∨ g = 0 ∧ h = 0 ∧ ¬ x = -9223372036854775808 ∧ y = -x ∧ -9223372036854775807 ≤ x ∧ x ≤ 9223372036854775807 ∨ g = 0 ∧ h = 0 ∧ ¬ x = -9223372036854775808 ∧ y = -x - 1 ∧ -9223372036854775807 ≤ x ∧ x ≤ 9223372036854775807)
    (w : World) (h1 : Hid (Says a b c 1 n e)) (h2 : Hid (Says (-a) b c 1 m f)) (h3 : Hid (Says a b c 0 x g)) (h4 : Hid (Says (-a) b c 0 y h)) : Good a b c w := by
  unfold Good
  have a3 : -9223372036854775807 ≤ a := by omega
  have ta := ne_beq ha
  have tc := ne_beq hc
  rcases k1 with rfl | ⟨rfl, rfl⟩ | ⟨rfl, rfl, rfl, n1, n2⟩ <;> rcases k2 with rfl | ⟨rfl, rfl⟩ | ⟨rfl, rfl, rfl⟩ | ⟨rfl, rfl, x0, rfl, x1, x2⟩ | ⟨rfl, rfl, x0, rfl, x1, x2⟩
  · go_enter Try.func8, Try.ntmps8
    go_wp2_with fail
    refine (alive_any _).mono ?_
    rintro e w1 ⟨rfl, hb1⟩
    replace hb1 := hide hb1
    go_wp2_with fail
    refine (unhide h1 _).mono ?_
    rintro e w2 ⟨rfl, hb2⟩
    replace hb2 := hide (below_via (unhide hb1) hb2)
    clear hb1
    go_wp2_with fail
    refine (unhide h2 _).mono ?_
    rintro e w3 ⟨rfl, hb3⟩
    replace hb3 := hide (below_via (unhide hb2) hb3)
    clear hb2
    go_wp2_with fail
    refine (unhide h3 _).mono ?_
    rintro e w4 ⟨rfl, hb4⟩
    replace hb4 := hide (below_via (unhide hb3) hb4)
    clear hb3
    go_wp2_with fail
    refine (unhide h4 _).mono ?_
    rintro e w5 ⟨rfl, hb5⟩
    replace hb5 := hide (below_via (unhide hb4) hb5)
    clear hb4
    go_wp2_with fail
    go_ret
    exact ⟨rfl, unhide hb5⟩
  · go_enter Try.func8, Try.ntmps8
    go_wp2_with fail
    refine (alive_any _).mono ?_
    rintro e w1 ⟨rfl, hb1⟩
    replace hb1 := hide hb1
    go_wp2_with fail
    refine (unhide h1 _).mono ?_
    rintro e w2 ⟨rfl, hb2⟩
    replace hb2 := hide (below_via (unhide hb1) hb2)
    clear hb1
    go_wp2_with fail
    refine (unhide h2 _).mono ?_
    rintro e w3 ⟨rfl, hb3⟩
    replace hb3 := hide (below_via (unhide hb2) hb3)
    clear hb2
    go_wp2_with fail
    refine (unhide h3 _).mono ?_
    rintro e w4 ⟨rfl, hb4⟩
    replace hb4 := hide (below_via (unhide hb3) hb4)
    clear hb3
    go_wp2_with fail
    refine (unhide h4 _).mono ?_
    rintro e w5 ⟨rfl, hb5⟩
    replace hb5 := hide (below_via (unhide hb4) hb5)
    clear hb4
    go_wp2_with fail
    go_ret
    exact ⟨rfl, unhide hb5⟩
  · go_enter Try.func8, Try.ntmps8
    go_wp2_with fail
    refine (alive_any _).mono ?_
    rintro e w1 ⟨rfl, hb1⟩
    replace hb1 := hide hb1
    go_wp2_with fail
    refine (unhide h1 _).mono ?_
    rintro e w2 ⟨rfl, hb2⟩
    replace hb2 := hide (below_via (unhide hb1) hb2)
    clear hb1
    go_wp2_with fail
    refine (unhide h2 _).mono ?_
    rintro e w3 ⟨rfl, hb3⟩
    replace hb3 := hide (below_via (unhide hb2) hb3)
    clear hb2
    go_wp2_with fail
    refine (unhide h3 _).mono ?_
    rintro e w4 ⟨rfl, hb4⟩
    replace hb4 := hide (below_via (unhide hb3) hb4)
    clear hb3
    go_wp2_with fail
    refine (unhide h4 _).mono ?_
    rintro e w5 ⟨rfl, hb5⟩
    replace hb5 := hide (below_via (unhide hb4) hb5)
    clear hb4
    go_wp2_with fail
    go_ret
    exact ⟨rfl, unhide hb5⟩
  · have x3 := ne_beq x0
    go_enter Try.func8, Try.ntmps8
    go_wp2_with fail
    refine (alive_any _).mono ?_
    rintro e w1 ⟨rfl, hb1⟩
    replace hb1 := hide hb1
    go_wp2_with fail
    refine (unhide h1 _).mono ?_
    rintro e w2 ⟨rfl, hb2⟩
    replace hb2 := hide (below_via (unhide hb1) hb2)
    clear hb1
    go_wp2_with fail
    refine (unhide h2 _).mono ?_
    rintro e w3 ⟨rfl, hb3⟩
    replace hb3 := hide (below_via (unhide hb2) hb3)
    clear hb2
    go_wp2_with fail
    refine (unhide h3 _).mono ?_
    rintro e w4 ⟨rfl, hb4⟩
    replace hb4 := hide (below_via (unhide hb3) hb4)
    clear hb3
    go_wp2_with fail
    refine (unhide h4 _).mono ?_
    rintro e w5 ⟨rfl, hb5⟩
    replace hb5 := hide (below_via (unhide hb4) hb5)
    clear hb4
    go_wp2_with fail
    go_ret
    exact ⟨rfl, unhide hb5⟩
  · have z1 : (-x - 1 == -x) = false := ne_beq (by omega)
    have x3 := ne_beq x0
    go_enter Try.func8, Try.ntmps8
    go_wp2_with fail
    refine (alive_any _).mono ?_
    rintro e w1 ⟨rfl, hb1⟩
    replace hb1 := hide hb1
    go_wp2_with fail
    refine (unhide h1 _).mono ?_
    rintro e w2 ⟨rfl, hb2⟩
    replace hb2 := hide (below_via (unhide hb1) hb2)
    clear hb1
    go_wp2_with fail
    refine (unhide h2 _).mono ?_
    rintro e w3 ⟨rfl, hb3⟩
    replace hb3 := hide (below_via (unhide hb2) hb3)
    clear hb2
    go_wp2_with fail
    refine (unhide h3 _).mono ?_
    rintro e w4 ⟨rfl, hb4⟩
    replace hb4 := hide (below_via (unhide hb3) hb4)
    clear hb3
    go_wp2_with fail
    refine (unhide h4 _).mono ?_
    rintro e w5 ⟨rfl, hb5⟩
    replace hb5 := hide (below_via (unhide hb4) hb5)
    clear hb4
    go_wp2_with fail
    go_ret
    exact ⟨rfl, unhide hb5⟩
  · go_enter Try.func8, Try.ntmps8
    go_wp2_with fail
    refine (alive_any _).mono ?_
    rintro e w1 ⟨rfl, hb1⟩
    replace hb1 := hide hb1
    go_wp2_with fail
    refine (unhide h1 _).mono ?_
    rintro e w2 ⟨rfl, hb2⟩
    replace hb2 := hide (below_via (unhide hb1) hb2)
    clear hb1
    go_wp2_with fail
    refine (unhide h2 _).mono ?_
    rintro e w3 ⟨rfl, hb3⟩
    replace hb3 := hide (below_via (unhide hb2) hb3)
    clear hb2
    go_wp2_with fail
    refine (unhide h3 _).mono ?_
    rintro e w4 ⟨rfl, hb4⟩
    replace hb4 := hide (below_via (unhide hb3) hb4)
    clear hb3
    go_wp2_with fail
    refine (unhide h4 _).mono ?_
    rintro e w5 ⟨rfl, hb5⟩
    replace hb5 := hide (below_via (unhide hb4) hb5)
    clear hb4
    go_wp2_with fail
    go_ret
    exact ⟨rfl, unhide hb5⟩
  · go_enter Try.func8, Try.ntmps8
    go_wp2_with fail
    refine (alive_any _).mono ?_
    rintro e w1 ⟨rfl, hb1⟩
    replace hb1 := hide hb1
    go_wp2_with fail
    refine (unhide h1 _).mono ?_
    rintro e w2 ⟨rfl, hb2⟩
    replace hb2 := hide (below_via (unhide hb1) hb2)
    clear hb1
    go_wp2_with fail
    refine (unhide h2 _).mono ?_
    rintro e w3 ⟨rfl, hb3⟩
    replace hb3 := hide (below_via (unhide hb2) hb3)
    clear hb2
    go_wp2_with fail
    refine (unhide h3 _).mono ?_
    rintro e w4 ⟨rfl, hb4⟩
    replace hb4 := hide (below_via (unhide hb3) hb4)
    clear hb3
    go_wp2_with fail
    refine (unhide h4 _).mono ?_
    rintro e w5 ⟨rfl, hb5⟩
    replace hb5 := hide (below_via (unhide hb4) hb5)
    clear hb4
    go_wp2_with fail
    go_ret
    exact ⟨rfl, unhide hb5⟩
  · go_enter Try.func8, Try.ntmps8
    go_wp2_with fail
    refine (alive_any _).mono ?_
    rintro e w1 ⟨rfl, hb1⟩
    replace hb1 := hide hb1
    go_wp2_with fail
    refine (unhide h1 _).mono ?_
    rintro e w2 ⟨rfl, hb2⟩
    replace hb2 := hide (below_via (unhide hb1) hb2)
    clear hb1
    go_wp2_with fail
    refine (unhide h2 _).mono ?_
    rintro e w3 ⟨rfl, hb3⟩
    replace hb3 := hide (below_via (unhide hb2) hb3)
    clear hb2
    go_wp2_with fail
    refine (unhide h3 _).mono ?_
    rintro e w4 ⟨rfl, hb4⟩
    replace hb4 := hide (below_via (unhide hb3) hb4)
    clear hb3
    go_wp2_with fail
    refine (unhide h4 _).mono ?_
    rintro e w5 ⟨rfl, hb5⟩
    replace hb5 := hide (below_via (unhide hb4) hb5)
    clear hb4
    go_wp2_with fail
    go_ret
    exact ⟨rfl, unhide hb5⟩
  · have x3 := ne_beq x0
    go_enter Try.func8, Try.ntmps8
    go_wp2_with fail
    refine (alive_any _).mono ?_
    rintro e w1 ⟨rfl, hb1⟩
    replace hb1 := hide hb1
    go_wp2_with fail
    refine (unhide h1 _).mono ?_
    rintro e w2 ⟨rfl, hb2⟩
    replace hb2 := hide (below_via (unhide hb1) hb2)
    clear hb1
    go_wp2_with fail
    refine (unhide h2 _).mono ?_
    rintro e w3 ⟨rfl, hb3⟩
    replace hb3 := hide (below_via (unhide hb2) hb3)
    clear hb2
    go_wp2_with fail
    refine (unhide h3 _).mono ?_
    rintro e w4 ⟨rfl, hb4⟩
    replace hb4 := hide (below_via (unhide hb3) hb4)
    clear hb3
    go_wp2_with fail
    refine (unhide h4 _).mono ?_
    rintro e w5 ⟨rfl, hb5⟩
    replace hb5 := hide (below_via (unhide hb4) hb5)
    clear hb4
    go_wp2_with fail
    go_ret
    exact ⟨rfl, unhide hb5⟩
  · have z1 : (-x - 1 == -x) = false := ne_beq (by omega)
    have x3 := ne_beq x0
    go_enter Try.func8, Try.ntmps8
    go_wp2_with fail
    refine (alive_any _).mono ?_
    rintro e w1 ⟨rfl, hb1⟩
    replace hb1 := hide hb1
    go_wp2_with fail
    refine (unhide h1 _).mono ?_
    rintro e w2 ⟨rfl, hb2⟩
    replace hb2 := hide (below_via (unhide hb1) hb2)
    clear hb1
    go_wp2_with fail
    refine (unhide h2 _).mono ?_
    rintro e w3 ⟨rfl, hb3⟩
    replace hb3 := hide (below_via (unhide hb2) hb3)
    clear hb2
    go_wp2_with fail
    refine (unhide h3 _).mono ?_
    rintro e w4 ⟨rfl, hb4⟩
    replace hb4 := hide (below_via (unhide hb3) hb4)
    clear hb3
    go_wp2_with fail
    refine (unhide h4 _).mono ?_
    rintro e w5 ⟨rfl, hb5⟩
    replace hb5 := hide (below_via (unhide hb4) hb5)
    clear hb4
    go_wp2_with fail
    go_ret
    exact ⟨rfl, unhide hb5⟩
  · go_enter Try.func8, Try.ntmps8
    go_wp2_with fail
    refine (alive_any _).mono ?_
    rintro e w1 ⟨rfl, hb1⟩
    replace hb1 := hide hb1
    go_wp2_with fail
    refine (unhide h1 _).mono ?_
    rintro e w2 ⟨rfl, hb2⟩
    replace hb2 := hide (below_via (unhide hb1) hb2)
    clear hb1
    go_wp2_with fail
    refine (unhide h2 _).mono ?_
    rintro e w3 ⟨rfl, hb3⟩
    replace hb3 := hide (below_via (unhide hb2) hb3)
    clear hb2
    go_wp2_with fail
    refine (unhide h3 _).mono ?_
    rintro e w4 ⟨rfl, hb4⟩
    replace hb4 := hide (below_via (unhide hb3) hb4)
    clear hb3
    go_wp2_with fail
    refine (unhide h4 _).mono ?_
    rintro e w5 ⟨rfl, hb5⟩
    replace hb5 := hide (below_via (unhide hb4) hb5)
    clear hb4
    go_wp2_with fail
    go_ret
    exact ⟨rfl, unhide hb5⟩
  · go_enter Try.func8, Try.ntmps8
    go_wp2_with fail
    refine (alive_any _).mono ?_
    rintro e w1 ⟨rfl, hb1⟩
    replace hb1 := hide hb1
    go_wp2_with fail
    refine (unhide h1 _).mono ?_
    rintro e w2 ⟨rfl, hb2⟩
    replace hb2 := hide (below_via (unhide hb1) hb2)
    clear hb1
    go_wp2_with fail
    refine (unhide h2 _).mono ?_
    rintro e w3 ⟨rfl, hb3⟩
    replace hb3 := hide (below_via (unhide hb2) hb3)
    clear hb2
    go_wp2_with fail
    refine (unhide h3 _).mono ?_
    rintro e w4 ⟨rfl, hb4⟩
    replace hb4 := hide (below_via (unhide hb3) hb4)
    clear hb3
    go_wp2_with fail
    refine (unhide h4 _).mono ?_
    rintro e w5 ⟨rfl, hb5⟩
    replace hb5 := hide (below_via (unhide hb4) hb5)
    clear hb4
    go_wp2_with fail
    go_ret
    exact ⟨rfl, unhide hb5⟩
  · go_enter Try.func8, Try.ntmps8
    go_wp2_with fail
    refine (alive_any _).mono ?_
    rintro e w1 ⟨rfl, hb1⟩
    replace hb1 := hide hb1
    go_wp2_with fail
    refine (unhide h1 _).mono ?_
    rintro e w2 ⟨rfl, hb2⟩
    replace hb2 := hide (below_via (unhide hb1) hb2)
    clear hb1
    go_wp2_with fail
    refine (unhide h2 _).mono ?_
    rintro e w3 ⟨rfl, hb3⟩
    replace hb3 := hide (below_via (unhide hb2) hb3)
    clear hb2
    go_wp2_with fail
    refine (unhide h3 _).mono ?_
    rintro e w4 ⟨rfl, hb4⟩
    replace hb4 := hide (below_via (unhide hb3) hb4)
    clear hb3
    go_wp2_with fail
    refine (unhide h4 _).mono ?_
    rintro e w5 ⟨rfl, hb5⟩
    replace hb5 := hide (below_via (unhide hb4) hb5)
    clear hb4
    go_wp2_with fail
    go_ret
    exact ⟨rfl, unhide hb5⟩
  · have x3 := ne_beq x0
    go_enter Try.func8, Try.ntmps8
    go_wp2_with fail
    refine (alive_any _).mono ?_
    rintro e w1 ⟨rfl, hb1⟩
    replace hb1 := hide hb1
    go_wp2_with fail
    refine (unhide h1 _).mono ?_
    rintro e w2 ⟨rfl, hb2⟩
    replace hb2 := hide (below_via (unhide hb1) hb2)
    clear hb1
    go_wp2_with fail
    refine (unhide h2 _).mono ?_
    rintro e w3 ⟨rfl, hb3⟩
    replace hb3 := hide (below_via (unhide hb2) hb3)
    clear hb2
    go_wp2_with fail
    refine (unhide h3 _).mono ?_
    rintro e w4 ⟨rfl, hb4⟩
    replace hb4 := hide (below_via (unhide hb3) hb4)
    clear hb3
    go_wp2_with fail
    refine (unhide h4 _).mono ?_
    rintro e w5 ⟨rfl, hb5⟩
    replace hb5 := hide (below_via (unhide hb4) hb5)
    clear hb4
    go_wp2_with fail
    go_ret
    exact ⟨rfl, unhide hb5⟩
  · have z1 : (-x - 1 == -x) = false := ne_beq (by omega)
    have x3 := ne_beq x0
    go_enter Try.func8, Try.ntmps8
    go_wp2_with fail
    refine (alive_any _).mono ?_
    rintro e w1 ⟨rfl, hb1⟩
    replace hb1 := hide hb1
    go_wp2_with fail
    refine (unhide h1 _).mono ?_
    rintro e w2 ⟨rfl, hb2⟩
    replace hb2 := hide (below_via (unhide hb1) hb2)
    clear hb1
    go_wp2_with fail
    refine (unhide h2 _).mono ?_
    rintro e w3 ⟨rfl, hb3⟩
    replace hb3 := hide (below_via (unhide hb2) hb3)
    clear hb2
    go_wp2_with fail
    refine (unhide h3 _).mono ?_
    rintro e w4 ⟨rfl, hb4⟩
    replace hb4 := hide (below_via (unhide hb3) hb4)
    clear hb3
    go_wp2_with fail
    refine (unhide h4 _).mono ?_
    rintro e w5 ⟨rfl, hb5⟩
    replace hb5 := hide (below_via (unhide hb4) hb5)
    clear hb4
    go_wp2_with fail
    go_ret
    exact ⟨rfl, unhide hb5⟩
theorem walk (a b c : Int) (w : World) (wa : (Lit.int .i64 a).wf = true) (wb : (Lit.int .i64 b).wf = true) (wc : (Lit.int .i64 c).wf = true) : Good a b c w := by
  have ha := in64_of wa
  have hb := in64_of wb
  have hc := in64_of wc
  by_cases hm : a = -9223372036854775808
  · exact walk_skip a b c (Or.inl hm) w
  · by_cases h0 : c = 0
    · exact walk_skip a b c (Or.inr ⟨hm, h0⟩) w
    · have ha' : In64 (-a) := ⟨by have := ha.hi; omega, by have := ha.lo; omega⟩
      have h1 : Says a b c 1 _ _ := muldiv_near a b c ha hb hc h0
      have h2 : Says (-a) b c 1 _ _ := muldiv_near (-a) b c ha' hb hc h0
      have h3 : Says a b c 0 _ _ := muldiv_floor a b c ha hb hc h0
      have h4 : Says (-a) b c 0 _ _ := muldiv_floor (-a) b c ha' hb hc h0
      rw [Int.neg_mul] at h2 h4
      obtain ⟨q1, q2⟩ := quot_neg (a * b) c h0
      refine walk_go a b c _ _ _ _ _ _ _ _ hm ha.lo ha.hi h0 ?_ ?_ w h1 h2 h3 h4
      · rcases okE_03 (quot 1 (a * b) c) with g | g
        · rcases okE_03 (quot 1 (-(a * b)) c) with k | k
          · right; right
            have t1 : turn (quot 1 (a * b) c) = 0 := by
              apply Classical.byContradiction
              intro hcon
              rw [okE_out hcon] at g
              omega
            have t2 : turn (quot 1 (-(a * b)) c) = 0 := by
              apply Classical.byContradiction
              intro hcon
              rw [okE_out hcon] at k
              omega
            have i1 := in_of_turn t1
            have i2 := in_of_turn t2
            rw [q1] at i2
            refine ⟨g, k, by rw [okN_in t1, okN_in t2, q1], ?_, ?_⟩
            · rw [okN_in t1]; have := i2.hi; omega
            · rw [okN_in t1]; exact i1.hi
          · exact Or.inr (Or.inl ⟨g, k⟩)
        · exact Or.inl g
      · rcases okE_03 (quot 0 (a * b) c) with g | g
        · rcases okE_03 (quot 0 (-(a * b)) c) with k | k
          · right; right
            have t1 : turn (quot 0 (a * b) c) = 0 := by
              apply Classical.byContradiction
              intro hcon
              rw [okE_out hcon] at g
              omega
            have t2 : turn (quot 0 (-(a * b)) c) = 0 := by
              apply Classical.byContradiction
              intro hcon
              rw [okE_out hcon] at k
              omega
            have i1 := in_of_turn t1
            have b1 := i1.lo
            have b2 := i1.hi
            rw [okN_in t1, okN_in t2]
            by_cases hx : quot 0 (a * b) c = -9223372036854775808
            · exact Or.inl ⟨g, k, hx⟩
            · right
              rcases q2 with q | q
              · exact Or.inl ⟨g, k, hx, q, by omega, by omega⟩
              · exact Or.inr ⟨g, k, hx, q, by omega, by omega⟩
          · exact Or.inr (Or.inl ⟨g, k⟩)
        · exact Or.inl g
theorem own : ownKnob Try.prog.godebug = none := by kernel_rfl
set_option linter.unusedVariables false in
set_option maxRecDepth 100000 in
theorem lifted (os : Os) (started : os.Started) (H : Type) (enc : TypeId × Value → H) :
    ReturnsInHanded {} Try.checked os 8 .any (Rows.wideTurnsSpec.pre6 enc Try.prog Try.f8 Rows.wideTurnsRow.domain false) (Rows.wideTurnsSpec.post enc Try.prog Try.f8 false true false false) := by
  refine returnsInHanded_of_change (C := Try.checked) own started (by kernel_rfl) Try.func8
    (ChangeSpec.witness6 (enc := enc) (C := Try.checked) false ⟨#[], #[.int .i64 0, .int .i64 0, .int .i64 0], []⟩ 8 (by kernel_rfl) (by kernel_rfl) (by kernel_rfl) (by kernel_rfl)) ?_
  intro W base args ds gs before hval0 hW hcnd _
  have hval : ∀ (j : Nat) t v, Try.f8.params[j]? = some t → args[j]? = some v → Value.okWide Try.prog W .any base t v := hval0
  have hW' := hW
  obtain ⟨p, q, hA0, hV, rfl, hfz, hnd⟩ := hW
  have hA : DataW.TrodAll enc Try.prog W 0 (fun _ => true) true Try.f8.params.toList args.toList ds p := hA0
  rw [Try.params8] at hA hval
  obtain ⟨v0, vs0, d0, ds0, p0, q0, hargs, rfl, rfl, h0, r0⟩ := trodAll_cons hA
  obtain ⟨v1, vs1, d1, ds1, p1, q1, rfl, rfl, rfl, h1, r1⟩ := trodAll_cons r0
  obtain ⟨v2, vs2, d2, ds2, p2, q2, rfl, rfl, rfl, h2, r2⟩ := trodAll_cons r1
  obtain ⟨rfl, rfl, rfl⟩ := trodAll_nil r2
  obtain rfl : args = #[v0, v1, v2] := by cases args; simp_all
  obtain ⟨rfl, rfl⟩ := trodVars_none hV
  obtain ⟨a0, rfl, rfl, rfl, w0⟩ := open_int Try.underlying2 (hval 0 2 v0 rfl rfl) h0
  obtain ⟨a1, rfl, rfl, rfl, w1⟩ := open_int Try.underlying2 (hval 1 2 v1 rfl rfl) h1
  obtain ⟨a2, rfl, rfl, rfl, w2⟩ := open_int Try.underlying2 (hval 2 2 v2 rfl rfl) h2
  clear hA0 hval0
  simp only [List.append_nil] at hW'
  refine (walk a0 a1 a2 W w0 w1 w2).mono fun e W' ⟨he, bel⟩ => ?_
  subst he
  exact ⟨_, rfl, _, _, _, [], _, [], hW', trodAll_mk1 (shut_bool Try.underlying4 _), (trodAll_cons_mk (shut_int Try.underlying2 w0) (trodAll_cons_mk (shut_int Try.underlying2 w1) (trodAll_cons_mk (shut_int Try.underlying2 w2) trodAll_mk0))), rfl, bel.frame _, fun h => by cases h⟩
theorem over : Rows.wideTurnsRow.holds Try.pinned (OpenSpec.ofChange Rows.wideTurnsSpec) :=
  OpenClaim.holds_of_wide 8 Try.f8 rfl rfl rfl rfl rfl rfl rfl ⟨rfl, rfl, rfl, rfl, rfl⟩ rfl rfl rfl rfl rfl (by kernel_rfl) Try.func8 (by kernel_rfl)
    (of_decide_eq_true (by kernel_rfl)) (by unfold Func.isWrapper; first | (rw [if_pos (by decide +kernel)]; kernel_rfl) | (rw [if_neg (by decide +kernel)]; exact ⟨rfl, rfl⟩))
    (fun os started H enc _ => lifted os started H enc)
/-- The statement. -/
theorem proved : Rows.WideTurnsSaid := over
#print axioms proved
end Go.Proofs.Ytaknjpddjofgeaa.wideTurns
namespace Go.Proofs.Ytaknjpddjofgeaa
theorem wideTurns_holds : Rows.WideTurnsSaid := wideTurns.proved
end Go.Proofs.Ytaknjpddjofgeaa
