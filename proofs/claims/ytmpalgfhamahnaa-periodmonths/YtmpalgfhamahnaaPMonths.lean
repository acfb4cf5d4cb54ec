/- Proved here: PeriodMonths: at any day, any months and any row of such days, Months and Dates, or their errors, are the document's. No condition. -/
import Derived.Test.YtmpalgfhamahnaaAlive
import Derived.Test.YtmpalgfhamahnaaBoth
import Derived.Test.YtmpalgfhamahnaaAsked
import Derived.ProofKit
import Derived.OpenShut
import Derived.ShutString
import Derived.ChangeOld
import Derived.Below
namespace Go.Proofs.Ytmpalgfhamahnaa.periodMonths
open Go.ChangeShapes Go.WideShapes Go.ChangeAt Go.RowKit
set_option linter.unusedSimpArgs false
set_option linter.unusedVariables false in
set_option maxRecDepth 20000 in
set_option maxHeartbeats 2000000 in
theorem p_main (n k s t v g h : Int) (en : Bool) (zs : List Int) (hal : Hid (∀ w : World, Calls Try.prog 9 #[] w fun e w' => e = .returned (.bool true) ∧ Below w.heap.size w w')) (hA : Hid (MonsA n k en v g)) (hB : Hid (RMonsA n k en v g)) (hC : Hid (RowsA 12 n s t en zs h)) (hD : Hid (RowsA 13 n s t en zs h)) (w : World) : Calls Try.prog 3 #[.agg #[.int .i64 n, .int .i64 k, .int .i64 s, .int .i64 t, .bool en]] w fun e w' => e = .returned (.bool true) ∧ Below w.heap.size w w' := by
  have hR := hide (R5.new w n k s t en)
  have hb0 := hide ((Below.refl w.heap.size w).alloc (Nat.le_refl _) (.cells #[.int .i64 n, .int .i64 k, .int .i64 s, .int .i64 t, .bool en] 23))
  obtain ⟨b, eb⟩ : ∃ b, b = w.heap.size := ⟨_, rfl⟩
  go_enter Try.func3, Try.ntmps3
  go_wp2_with fail
  refine (unhide hal _).mono ?_
  rintro e w1 ⟨rfl, hb1⟩
  replace hR := hide ((unhide hR).keep hb1)
  replace hb1 := hide (below_via (unhide hb0) hb1)
  clear hb0
  have c0 := (unhide hR).c0
  have c1 := (unhide hR).c1
  have c2 := (unhide hR).c2
  have c3 := (unhide hR).c3
  have c4 := (unhide hR).c4
  go_wp2_with fail
  refine (unhide hA _).mono ?_
  rintro e w2 ⟨rfl, hb2⟩
  replace hR := hide ((unhide hR).keep hb2)
  replace hb2 := hide (below_via (unhide hb1) hb2)
  clear hb1 c0 c1 c2 c3 c4
  have c0 := (unhide hR).c0
  have c1 := (unhide hR).c1
  have c2 := (unhide hR).c2
  have c3 := (unhide hR).c3
  have c4 := (unhide hR).c4
  go_wp2_with fail
  refine (unhide hB _).mono ?_
  rintro e w3 ⟨rfl, hb3⟩
  replace hR := hide ((unhide hR).keep hb3)
  replace hb3 := hide (below_via (unhide hb2) hb3)
  clear hb2 c0 c1 c2 c3 c4
  have c0 := (unhide hR).c0
  have c1 := (unhide hR).c1
  have c2 := (unhide hR).c2
  have c3 := (unhide hR).c3
  have c4 := (unhide hR).c4
  go_wp2_with fail
  refine (unhide hC _).mono ?_
  rintro e w4 ⟨u4, rfl, hu4, hb4⟩
  replace hu4 := hide hu4
  replace hR := hide ((unhide hR).keep hb4)
  replace hb4 := hide (below_via (unhide hb3) hb4)
  clear hb3 c0 c1 c2 c3 c4
  have c0 := (unhide hR).c0
  have c1 := (unhide hR).c1
  have c2 := (unhide hR).c2
  have c3 := (unhide hR).c3
  have c4 := (unhide hR).c4
  go_wp2_with fail
  refine (unhide hD _).mono ?_
  rintro e w5 ⟨u5, rfl, hu5, hb5⟩
  replace hu4 := hide ((unhide hu4).below hb5 (Nat.le_refl _))
  replace hb5 := hide (below_via (unhide hb4) hb5)
  clear hb4 c0 c1 c2 c3 c4 hR
  have hS := same_any u4 u5 zs zs _ (unhide hu4) hu5
  rw [sameB_refl] at hS
  replace hS := hide hS
  clear hu4 hu5
  go_wp2_with fail
  refine (unhide hS).mono ?_
  rintro e w6 ⟨rfl, m, rfl⟩
  have hb6 := hide (below_drewN (unhide hb5) m)
  go_wp2_with fail
  go_ret
  exact ⟨rfl, unhide hb6⟩
theorem walk (n k s t : Int) (en : Bool) (w : World) (_h0 : (Lit.int .i64 n).wf = true) (_h1 : (Lit.int .i64 k).wf = true) (_h2 : (Lit.int .i64 s).wf = true) (_h3 : (Lit.int .i64 t).wf = true) : Calls Try.prog 3 #[.agg #[.int .i64 n, .int .i64 k, .int .i64 s, .int .i64 t, .bool en]] w fun e w' => e = .returned (.bool true) ∧ Below w.heap.size w w' := by
  obtain ⟨x, hA, hB, _⟩ := mons_any n k en
  obtain ⟨zs, h, hC, hD⟩ := rows_any n s t en
  exact p_main n k s t _ _ h en zs (hide alive_any) (hide hA) (hide hB) (hide hC) (hide hD) w
theorem own : ownKnob Try.prog.godebug = none := by kernel_rfl
set_option linter.unusedVariables false in
set_option maxRecDepth 100000 in
theorem lifted (os : Os) (started : os.Started) (H : Type) (enc : TypeId × Value → H) :
    ReturnsInHanded {} Try.checked os 3 .any (Rows.periodMonthsSpec.pre6 enc Try.prog Try.f3 Rows.periodMonthsRow.domain false) (Rows.periodMonthsSpec.post enc Try.prog Try.f3 false true false false) := by
  refine returnsInHanded_of_change (C := Try.checked) own started (by kernel_rfl) Try.func3
    (ChangeSpec.witness6 (enc := enc) (C := Try.checked) false ⟨#[], #[.agg #[.int .i64 0, .int .i64 0, .int .i64 0, .int .i64 0, .bool false]], []⟩ 8 (by kernel_rfl) (by kernel_rfl) (by kernel_rfl) (by kernel_rfl)) ?_
  intro W base args ds gs before hval0 hW hcnd _
  have hval : ∀ (j : Nat) t v, Try.f3.params[j]? = some t → args[j]? = some v → Value.okWide Try.prog W .any base t v := hval0
  have hW' := hW
  obtain ⟨p, q, hA0, hV, rfl, hfz, hnd⟩ := hW
  have hA : DataW.TrodAll enc Try.prog W 0 (fun _ => true) true Try.f3.params.toList args.toList ds p := hA0
  rw [Try.params3] at hA hval
  obtain ⟨v0, vs0, d0, ds0, p0, q0, hargs, rfl, rfl, h0, r0⟩ := trodAll_cons hA
  obtain ⟨rfl, rfl, rfl⟩ := trodAll_nil r0
  obtain rfl : args = #[v0] := by cases args; simp_all
  obtain ⟨rfl, rfl⟩ := trodVars_none hV
  obtain ⟨a00, a01, a02, a03, a04, rfl, rfl, rfl, w00, w01, w02, w03⟩ := open_asked (hval 0 23 v0 rfl rfl) h0
  clear hA0 hval0
  simp only [List.append_nil] at hW'
  refine (walk a00 a01 a02 a03 a04 W w00 w01 w02 w03).mono fun e W' ⟨he, bel⟩ => ?_
  subst he
  exact ⟨_, rfl, _, _, _, [], _, [], hW', trodAll_mk1 (shut_bool Try.underlying4 _), (trodAll_cons_mk (shut_asked w00 w01 w02 w03) trodAll_mk0), rfl, bel.frame _, fun h => by cases h⟩
theorem over : Rows.periodMonthsRow.holds Try.pinned (OpenSpec.ofChange Rows.periodMonthsSpec) :=
  OpenClaim.holds_of_wide 3 Try.f3 rfl rfl rfl rfl rfl rfl rfl ⟨rfl, rfl, rfl, rfl, rfl⟩ rfl rfl rfl rfl rfl (by kernel_rfl) Try.func3 (by kernel_rfl)
    (of_decide_eq_true (by kernel_rfl)) (by unfold Func.isWrapper; first | (rw [if_pos (by decide +kernel)]; kernel_rfl) | (rw [if_neg (by decide +kernel)]; exact ⟨rfl, rfl⟩))
    (fun os started H enc _ => lifted os started H enc)
/-- The statement. -/
theorem proved : Rows.PeriodMonthsSaid := over
#print axioms proved
end Go.Proofs.Ytmpalgfhamahnaa.periodMonths
namespace Go.Proofs.Ytmpalgfhamahnaa
theorem periodMonths_holds : Rows.PeriodMonthsSaid := periodMonths.proved
end Go.Proofs.Ytmpalgfhamahnaa
