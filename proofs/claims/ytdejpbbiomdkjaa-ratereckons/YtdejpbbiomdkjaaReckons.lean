/- Proved here: RateReckons: interest, growth, discount and what may be a rate are the reference's, or the error. No condition. -/
import Derived.Test.YtdejpbbiomdkjaaAlive
import Derived.Test.YtdejpbbiomdkjaaBits14
import Derived.ProofKit
import Derived.OpenShut
import Derived.ShutString
import Derived.ChangeOld
import Derived.Below
namespace Go.Proofs.Ytdejpbbiomdkjaa.rateReckons
open Go.ChangeShapes Go.WideShapes Go.ChangeAt Go.RowKit
set_option linter.unusedSimpArgs false
def Good (x r : Int) (w : World) : Prop := Calls Try.prog 3 #[.int .i64 x, .int .i64 r] w fun e w' => e = .returned (.bool true) ∧ Below w.heap.size w w'
set_option maxHeartbeats 4000000 in
theorem go (x r a e c g i j : Int) (L : Bool) (w : World) (h1 : Hid (Ans 10 x r a e)) (h2 : Hid (Ans 11 x r a e)) (h3 : Hid (Ans 12 x r c g)) (h4 : Hid (Ans 13 x r c g)) (h5 : Hid (Ans 14 x r i j)) (h6 : Hid (Ans 15 x r i j))
    (h7 : Hid (∀ w, Calls Try.prog 16 #[.int .i64 r] w fun e w' => e = .returned (.bool L) ∧ w = w')) (h8 : Hid (∀ w, Calls Try.prog 17 #[.int .i64 r] w fun e w' => e = .returned (.bool L) ∧ w = w')) : Good x r w := by
  unfold Good
  have hal := hide alive_any
  go_enter Try.func3, Try.ntmps3
  go_wp2_with fail
  refine (unhide hal _).mono ?_
  rintro e w1 ⟨rfl, hb1⟩
  replace hb1 := hide hb1
  go_wp2_with fail
  refine (unhide h1 _).mono ?_
  rintro e w2 ⟨rfl, hb2⟩
  replace hb2 := hide (below_via (unhide hb1) hb2)
  clear hb1
  go_wp2_with fail
  refine (unhide h2 _).mono ?_
  rintro e w3 ⟨rfl, hb3⟩
  replace hb3 := hide (below_via (unhide hb2) hb3)
  clear hb2
  go_wp2_with fail
  refine (unhide h3 _).mono ?_
  rintro e w4 ⟨rfl, hb4⟩
  replace hb4 := hide (below_via (unhide hb3) hb4)
  clear hb3
  go_wp2_with fail
  refine (unhide h4 _).mono ?_
  rintro e w5 ⟨rfl, hb5⟩
  replace hb5 := hide (below_via (unhide hb4) hb5)
  clear hb4
  go_wp2_with fail
  refine (unhide h5 _).mono ?_
  rintro e w6 ⟨rfl, hb6⟩
  replace hb6 := hide (below_via (unhide hb5) hb6)
  clear hb5
  go_wp2_with fail
  refine (unhide h6 _).mono ?_
  rintro e w7 ⟨rfl, hb7⟩
  replace hb7 := hide (below_via (unhide hb6) hb7)
  clear hb6
  go_wp2_with fail
  refine (unhide h7 _).mono ?_
  rintro e wq ⟨rfl, rfl⟩
  go_wp2_with fail
  refine (unhide h8 _).mono ?_
  rintro e wq ⟨rfl, rfl⟩
  go_wp2_with fail
  go_ret
  exact ⟨rfl, unhide hb7⟩
theorem walk (x r : Int) (w : World) (wx : (Lit.int .i64 x).wf = true) (_wr : (Lit.int .i64 r).wf = true) : Calls Try.prog 3 #[.int .i64 x, .int .i64 r] w fun e w' => e = .returned (.bool true) ∧ Below w.heap.size w w' := by
  have hx := in64_of wx
  have h7 := may_any r
  have h8 := rmay_any r
  by_cases h : May r
  · exact go x r _ _ _ _ _ _ _ w (hide (interest_ok hx h)) (hide (rint_ok hx h)) (hide (grow_ok hx h)) (hide (rgrow_ok hx h)) (hide (discount_ok hx h)) (hide (rdisc_ok hx h)) (hide h7) (hide h8)
  · exact go x r _ _ _ _ _ _ _ w (hide (interest_no x r h)) (hide (rint_no h)) (hide (grow_no h)) (hide (rgrow_no h)) (hide (discount_no h)) (hide (rdisc_no h)) (hide h7) (hide h8)
theorem own : ownKnob Try.prog.godebug = none := by kernel_rfl
set_option linter.unusedVariables false in
set_option maxRecDepth 100000 in
theorem lifted (os : Os) (started : os.Started) (H : Type) (enc : TypeId × Value → H) :
    ReturnsInHanded {} Try.checked os 3 .any (Rows.rateReckonsSpec.pre6 enc Try.prog Try.f3 Rows.rateReckonsRow.domain false) (Rows.rateReckonsSpec.post enc Try.prog Try.f3 false true false false) := by
  refine returnsInHanded_of_change (C := Try.checked) own started (by kernel_rfl) Try.func3
    (ChangeSpec.witness6 (enc := enc) (C := Try.checked) false ⟨#[], #[.int .i64 0, .int .i64 0], []⟩ 8 (by kernel_rfl) (by kernel_rfl) (by kernel_rfl) (by kernel_rfl)) ?_
  intro W base args ds gs before hval0 hW hcnd _
  have hval : ∀ (j : Nat) t v, Try.f3.params[j]? = some t → args[j]? = some v → Value.okWide Try.prog W .any base t v := hval0
  have hW' := hW
  obtain ⟨p, q, hA0, hV, rfl, hfz, hnd⟩ := hW
  have hA : DataW.TrodAll enc Try.prog W 0 (fun _ => true) true Try.f3.params.toList args.toList ds p := hA0
  rw [Try.params3] at hA hval
  obtain ⟨v0, vs0, d0, ds0, p0, q0, hargs, rfl, rfl, h0, r0⟩ := trodAll_cons hA
  obtain ⟨v1, vs1, d1, ds1, p1, q1, rfl, rfl, rfl, h1, r1⟩ := trodAll_cons r0
  obtain ⟨rfl, rfl, rfl⟩ := trodAll_nil r1
  obtain rfl : args = #[v0, v1] := by cases args; simp_all
  obtain ⟨rfl, rfl⟩ := trodVars_none hV
  obtain ⟨a0, rfl, rfl, rfl, w0⟩ := open_int Try.underlying2 (hval 0 2 v0 rfl rfl) h0
  obtain ⟨a1, rfl, rfl, rfl, w1⟩ := open_int Try.underlying2 (hval 1 2 v1 rfl rfl) h1
  clear hA0 hval0
  simp only [List.append_nil] at hW'
  refine (walk a0 a1 W w0 w1).mono fun e W' ⟨he, bel⟩ => ?_
  subst he
  exact ⟨_, rfl, _, _, _, [], _, [], hW', trodAll_mk1 (shut_bool Try.underlying4 _), (trodAll_cons_mk (shut_int Try.underlying2 w0) (trodAll_cons_mk (shut_int Try.underlying2 w1) trodAll_mk0)), rfl, bel.frame _, fun h => by cases h⟩
theorem over : Rows.rateReckonsRow.holds Try.pinned (OpenSpec.ofChange Rows.rateReckonsSpec) :=
  OpenClaim.holds_of_wide 3 Try.f3 rfl rfl rfl rfl rfl rfl rfl ⟨rfl, rfl, rfl, rfl, rfl⟩ rfl rfl rfl rfl rfl (by kernel_rfl) Try.func3 (by kernel_rfl)
    (of_decide_eq_true (by kernel_rfl)) (by unfold Func.isWrapper; first | (rw [if_pos (by decide +kernel)]; kernel_rfl) | (rw [if_neg (by decide +kernel)]; exact ⟨rfl, rfl⟩))
    (fun os started H enc _ => lifted os started H enc)
/-- The statement. -/
theorem proved : Rows.RateReckonsSaid := over
#print axioms proved
end Go.Proofs.Ytdejpbbiomdkjaa.rateReckons
namespace Go.Proofs.Ytdejpbbiomdkjaa
theorem rateReckons_holds : Rows.RateReckonsSaid := rateReckons.proved
end Go.Proofs.Ytdejpbbiomdkjaa
