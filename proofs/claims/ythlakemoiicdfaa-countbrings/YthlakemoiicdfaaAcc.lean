/- What count's Accrue answers. -/
import Derived.Test.YthlakemoiicdfaaDays
import Derived.Test.YthlakemoiicdfaaRate
namespace Go.Proofs.Ythlakemoiicdfaa
open Go.RowKit
set_option linter.unusedSimpArgs false
def AccA (x r a b way v e : Int) : Prop := ∀ w : World, Calls Try.prog 11 #[.int .i64 x, .int .i64 r, .int .i64 a, .int .i64 b, .int .i64 way] w fun z w' => z = .returned (.tuple #[.int .i64 v, .int .i64 e]) ∧ Below w.heap.size w w'
theorem acc_d2 (x r a b way : Int) (hD : Hid (DaysA a b way 0 2)) : AccA x r a b way 0 2 := by
  intro w
  go_enter Try.func11, Try.ntmps11
  go_wp2_with fail
  refine (unhide hD _).mono ?_
  rintro e w1 ⟨rfl, hb1⟩
  replace hb1 := hide hb1
  go_wp2_with fail
  go_ret2
  exact ⟨rfl, unhide hb1⟩
theorem acc_d5 (x r a b way : Int) (hD : Hid (DaysA a b way 0 5)) : AccA x r a b way 0 5 := by
  intro w
  go_enter Try.func11, Try.ntmps11
  go_wp2_with fail
  refine (unhide hD _).mono ?_
  rintro e w1 ⟨rfl, hb1⟩
  replace hb1 := hide hb1
  go_wp2_with fail
  go_ret2
  exact ⟨rfl, unhide hb1⟩
theorem acc_lt (x r a b way d : Int) (hD : Hid (DaysA a b way d 0)) (t1 : decide (b < a) = true) : AccA x r a b way 0 2 := by
  intro w
  go_enter Try.func11, Try.ntmps11
  go_wp2_with fail
  refine (unhide hD _).mono ?_
  rintro e w1 ⟨rfl, hb1⟩
  replace hb1 := hide hb1
  go_wp2_with fail
  go_ret2
  exact ⟨rfl, unhide hb1⟩
theorem acc_may (x r a b way d : Int) (hD : Hid (DaysA a b way d 0)) (t1 : decide (b < a) = false) (hM : Hid (∀ w : World, Calls Try.prog 18 #[.int .i64 r] w fun e w' => e = .returned (.bool false) ∧ w = w')) : AccA x r a b way 0 2 := by
  intro w
  go_enter Try.func11, Try.ntmps11
  go_wp2_with fail
  refine (unhide hD _).mono ?_
  rintro e w1 ⟨rfl, hb1⟩
  replace hb1 := hide hb1
  go_wp2_with fail
  refine (unhide hM _).mono ?_
  rintro e wq ⟨rfl, rfl⟩
  go_wp2_with fail
  go_ret2
  exact ⟨rfl, unhide hb1⟩
theorem acc_p2 (x r a b way d B : Int) (hD : Hid (DaysA a b way d 0)) (t1 : decide (b < a) = false) (hM : Hid (∀ w : World, Calls Try.prog 18 #[.int .i64 r] w fun e w' => e = .returned (.bool true) ∧ w = w')) (hB : Hid (BasisA way B)) (hP : Hid (Parts r d B 0 2)) : AccA x r a b way 0 2 := by
  intro w
  go_enter Try.func11, Try.ntmps11
  go_wp2_with fail
  refine (unhide hD _).mono ?_
  rintro e w1 ⟨rfl, hb1⟩
  replace hb1 := hide hb1
  go_wp2_with fail
  refine (unhide hM _).mono ?_
  rintro e wq ⟨rfl, rfl⟩
  go_wp2_with fail
  refine (unhide hB _).mono ?_
  rintro e w2 ⟨rfl, hb2⟩
  replace hb2 := hide (below_via (unhide hb1) hb2)
  clear hb1
  go_wp2_with fail
  refine (unhide hP _).mono ?_
  rintro e w3 ⟨rfl, hb3⟩
  replace hb3 := hide (below_via (unhide hb2) hb3)
  clear hb2
  go_wp2_with fail
  go_ret2
  exact ⟨rfl, unhide hb3⟩
theorem acc_p3 (x r a b way d B : Int) (hD : Hid (DaysA a b way d 0)) (t1 : decide (b < a) = false) (hM : Hid (∀ w : World, Calls Try.prog 18 #[.int .i64 r] w fun e w' => e = .returned (.bool true) ∧ w = w')) (hB : Hid (BasisA way B)) (hP : Hid (Parts r d B 0 3)) : AccA x r a b way 0 3 := by
  intro w
  go_enter Try.func11, Try.ntmps11
  go_wp2_with fail
  refine (unhide hD _).mono ?_
  rintro e w1 ⟨rfl, hb1⟩
  replace hb1 := hide hb1
  go_wp2_with fail
  refine (unhide hM _).mono ?_
  rintro e wq ⟨rfl, rfl⟩
  go_wp2_with fail
  refine (unhide hB _).mono ?_
  rintro e w2 ⟨rfl, hb2⟩
  replace hb2 := hide (below_via (unhide hb1) hb2)
  clear hb1
  go_wp2_with fail
  refine (unhide hP _).mono ?_
  rintro e w3 ⟨rfl, hb3⟩
  replace hb3 := hide (below_via (unhide hb2) hb3)
  clear hb2
  go_wp2_with fail
  go_ret2
  exact ⟨rfl, unhide hb3⟩
theorem acc_ok (x r a b way d B p v e : Int) (hD : Hid (DaysA a b way d 0)) (t1 : decide (b < a) = false) (hM : Hid (∀ w : World, Calls Try.prog 18 #[.int .i64 r] w fun e w' => e = .returned (.bool true) ∧ w = w')) (hB : Hid (BasisA way B)) (hP : Hid (Parts r d B p 0)) (hI : Hid (Ans 20 x p v e)) : AccA x r a b way v e := by
  intro w
  go_enter Try.func11, Try.ntmps11
  go_wp2_with fail
  refine (unhide hD _).mono ?_
  rintro e w1 ⟨rfl, hb1⟩
  replace hb1 := hide hb1
  go_wp2_with fail
  refine (unhide hM _).mono ?_
  rintro e wq ⟨rfl, rfl⟩
  go_wp2_with fail
  refine (unhide hB _).mono ?_
  rintro e w2 ⟨rfl, hb2⟩
  replace hb2 := hide (below_via (unhide hb1) hb2)
  clear hb1
  go_wp2_with fail
  refine (unhide hP _).mono ?_
  rintro e w3 ⟨rfl, hb3⟩
  replace hb3 := hide (below_via (unhide hb2) hb3)
  clear hb2
  go_wp2_with fail
  refine (unhide hI _).mono ?_
  rintro e w4 ⟨rfl, hb4⟩
  replace hb4 := hide (below_via (unhide hb3) hb4)
  clear hb3
  go_wp2_with fail
  go_ret2
  exact ⟨rfl, unhide hb4⟩
end Go.Proofs.Ythlakemoiicdfaa
