/- The document's examples of layer 6 come out as the chapter says. -/
import Derived.Test.YtmpalgfhamahnaaMon
import Derived.Test.YtmpalgfhamahnaaRoll
namespace Go.Proofs.Ytmpalgfhamahnaa
open Go.RowKit
set_option linter.unusedSimpArgs false
def OnA (y m d v : Int) : Prop := ∀ w : World, Calls Try.prog 22 #[.int .i64 y, .int .i64 m, .int .i64 d] w fun z w' => z = .returned (.int .i64 v) ∧ Below w.heap.size w w'
theorem on_any (y m d v e : Int) (hF : Hid (Froms y m d v e)) : OnA y m d v := by
  intro w
  go_enter Try.func22, Try.ntmps22
  go_wp2_with (rw [build3])
  refine (unhide hF _).mono ?_
  rintro e w1 ⟨rfl, hb1⟩
  replace hb1 := hide hb1
  go_wp2_with fail
  go_ret
  exact ⟨rfl, unhide hb1⟩
theorem v31 : Valid 2020 1 31 := ⟨by decide, by decide, by decide, by decide, by decide, by decide⟩
theorem v29 : Valid 2020 2 29 := ⟨by decide, by decide, by decide, by decide, by decide, by decide⟩
theorem v02 : Valid 2020 3 2 := ⟨by decide, by decide, by decide, by decide, by decide, by decide⟩
theorem n31 : num 2020 1 31 = 737455 := by decide
theorem n29 : num 2020 2 29 = 737484 := by decide
theorem n02 : num 2020 3 2 = 737486 := by decide
theorem on31 : OnA 2020 1 31 737455 := on_any _ _ _ _ _ (hide (by have := from_ok v31; rwa [n31] at this))
theorem on29 : OnA 2020 2 29 737484 := on_any _ _ _ _ _ (hide (by have := from_ok v29; rwa [n29] at this))
theorem m31 : MonsA 737455 1 false 737484 0 := by
  have := mon_any v31 1 false (by decide) (by decide)
  rw [n31] at this
  exact this
theorem m29 : MonsA 737484 1 true 737515 0 := by
  have := mon_any v29 1 true (by decide) (by decide)
  rw [n29] at this
  exact this
theorem up29 : Up [] 737484 737486 := Or.inr ⟨by decide, by decide, by decide, fun k h1 h2 => by
  have : k = 737484 ∨ k = 737485 := by omega
  rcases this with rfl | rfl <;> decide⟩
theorem dn29 : Down [] 737484 737483 := Or.inr ⟨by decide, by decide, by decide, fun k h1 h2 => by
  have : k = 737484 := by omega
  subst this; decide⟩
theorem t29 : Tos 737484 2020 2 29 0 := by have := to_ok _ _ _ v29; rwa [n29] at this
theorem t02 : Tos 737486 2020 3 2 0 := by have := to_ok _ _ _ v02; rwa [n02] at this
theorem row_nil (w : World) : Row w (.slice none 0 0) [] := Or.inl ⟨_, _, rfl, rfl⟩
theorem r29f (w : World) : Calls Try.prog 15 #[.int .i64 737484, .int .i64 1, .slice none 0 0] w fun z w' => z = .returned (.tuple #[.int .i64 737486, .int .i64 0]) ∧ Below w.heap.size w w' :=
  roll_1 737484 2020 2 29 737486 0 none 0 0 [] (hide t29) rfl (hide (sk_up (by decide) (by decide) up29)) w (row_nil w)
theorem r29m (w : World) : Calls Try.prog 15 #[.int .i64 737484, .int .i64 2, .slice none 0 0] w fun z w' => z = .returned (.tuple #[.int .i64 737483, .int .i64 0]) ∧ Below w.heap.size w w' :=
  roll_2n 737484 2020 2 29 737483 0 none 0 0 [] (hide t29) rfl 737486 (hide (sk_up (by decide) (by decide) up29)) (hide (sameM_any 737484 737486 2020 2 29 2020 3 2 (hide t29) (hide t02))) (hide (sk_dn (by decide) (by decide) dn29)) w (row_nil w)
set_option maxRecDepth 20000 in
set_option maxHeartbeats 1000000 in
theorem alive_any (w : World) : Calls Try.prog 9 #[] w fun e w' => e = .returned (.bool true) ∧ Below w.heap.size w w' := by
  have h31 := hide on31
  have h29 := hide on29
  have hm31 := hide m31
  have hm29 := hide m29
  have hf := hide r29f
  have hm := hide r29m
  go_enter Try.func9, Try.ntmps9
  go_wp2_with fail
  refine (unhide h31 _).mono ?_
  rintro e w1 ⟨rfl, hb1⟩
  replace hb1 := hide hb1
  go_wp2_with fail
  refine (unhide hm31 _).mono ?_
  rintro e w2 ⟨rfl, hb2⟩
  replace hb2 := hide (below_via (unhide hb1) hb2)
  clear hb1
  go_wp2_with fail
  refine (unhide h29 _).mono ?_
  rintro e w3 ⟨rfl, hb3⟩
  replace hb3 := hide (below_via (unhide hb2) hb3)
  clear hb2
  go_wp2_with fail
  refine (unhide hm29 _).mono ?_
  rintro e w4 ⟨rfl, hb4⟩
  replace hb4 := hide (below_via (unhide hb3) hb4)
  clear hb3
  go_wp2_with fail
  refine (unhide h29 _).mono ?_
  rintro e w5 ⟨rfl, hb5⟩
  replace hb5 := hide (below_via (unhide hb4) hb5)
  clear hb4
  go_wp2_with fail
  refine (unhide hf _).mono ?_
  rintro e w6 ⟨rfl, hb6⟩
  replace hb6 := hide (below_via (unhide hb5) hb6)
  clear hb5
  go_wp2_with fail
  refine (unhide h29 _).mono ?_
  rintro e w7 ⟨rfl, hb7⟩
  replace hb7 := hide (below_via (unhide hb6) hb7)
  clear hb6
  go_wp2_with fail
  refine (unhide hm _).mono ?_
  rintro e w8 ⟨rfl, hb8⟩
  replace hb8 := hide (below_via (unhide hb7) hb8)
  clear hb7
  go_wp2_with fail
  refine (unhide h29 _).mono ?_
  rintro e w9 ⟨rfl, hb9⟩
  replace hb9 := hide (below_via (unhide hb8) hb9)
  clear hb8
  go_wp2_with fail
  go_ret
  exact ⟨rfl, unhide hb9⟩
end Go.Proofs.Ytmpalgfhamahnaa
