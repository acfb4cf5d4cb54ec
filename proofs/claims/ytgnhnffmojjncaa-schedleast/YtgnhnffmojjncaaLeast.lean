/- Proved here: SchedLeast: at any amount, rate and periods the level payment pays off, one less does not; of more, of a greater rate, of fewer periods it is no less. No condition. -/
import Derived.Test.YtgnhnffmojjncaaLeastA
import Derived.Test.YtgnhnffmojjncaaLeastB
import Derived.Test.YtgnhnffmojjncaaLeastC
import Derived.ProofKit
import Derived.OpenShut
import Derived.ShutString
import Derived.ChangeOld
import Derived.Below
namespace Go.Proofs.Ytgnhnffmojjncaa.Mn.schedLeast
open Go.ChangeShapes Go.WideShapes Go.ChangeAt Go.RowKit
set_option linter.unusedSimpArgs false
theorem walk (x r p : Int) (w : World) (_w0 : (Lit.int .i64 x).wf = true) (_w1 : (Lit.int .i64 r).wf = true) (w2 : (Lit.int .u8 p).wf = true) : Calls Try.prog 7 #[.int .i64 x, .int .i64 r, .int .u8 p] w fun e w' => e = .returned (.bool true) ∧ Below w.heap.size w w' := by
  have hp : 0 ≤ p ∧ p ≤ 255 := by
    simp only [Lit.wf, IntKind.min, IntKind.max, IntKind.signed, IntKind.bits, Bool.and_eq_true, decide_eq_true_eq] at w2
    simp at w2
    omega
  obtain ⟨p0, p1⟩ := hp
  by_cases a : x < 1
  · by_cases c : r < 0
    · exact m00 x r p p0 p1 a c (hide alive_any) w
    by_cases d : 999999999999 < r
    · exact m02 x r p p0 p1 a d (hide alive_any) w
    · exact m01 x r p p0 p1 a (by omega) (by omega) (hide alive_any) w
  by_cases b : 9999999999999 < x
  · by_cases c : r < 0
    · exact m20 x r p p0 p1 b c (hide alive_any) w
    by_cases d : 999999999999 < r
    · exact m22 x r p p0 p1 b d (hide alive_any) w
    · exact m21 x r p p0 p1 b (by omega) (by omega) (hide alive_any) w
  · by_cases c : r < 0
    · exact m10 x r p p0 p1 (by omega) (by omega) c (hide alive_any) w
    by_cases d : 999999999999 < r
    · exact m12 x r p p0 p1 (by omega) (by omega) d (hide alive_any) w
    · exact m11 x r p p0 p1 (by omega) (by omega) (by omega) (by omega) (hide alive_any) w
theorem own : ownKnob Try.prog.godebug = none := by kernel_rfl
set_option linter.unusedVariables false in
set_option maxRecDepth 100000 in
theorem lifted (os : Os) (started : os.Started) (H : Type) (enc : TypeId × Value → H) :
    ReturnsInHanded {} Try.checked os 7 .any (Rows.schedLeastSpec.pre6 enc Try.prog Try.f7 Rows.schedLeastRow.domain false) (Rows.schedLeastSpec.post enc Try.prog Try.f7 false true false false) := by
  refine returnsInHanded_of_change (C := Try.checked) own started (by kernel_rfl) Try.func7
    (ChangeSpec.witness6 (enc := enc) (C := Try.checked) false ⟨#[], #[.int .i64 0, .int .i64 0, .int .u8 0], []⟩ 8 (by kernel_rfl) (by kernel_rfl) (by kernel_rfl) (by kernel_rfl)) ?_
  intro W base args ds gs before hval0 hW hcnd _
  have hval : ∀ (j : Nat) t v, Try.f7.params[j]? = some t → args[j]? = some v → Value.okWide Try.prog W .any base t v := hval0
  have hW' := hW
  obtain ⟨p, q, hA0, hV, rfl, hfz, hnd⟩ := hW
  have hA : DataW.TrodAll enc Try.prog W 0 (fun _ => true) true Try.f7.params.toList args.toList ds p := hA0
  rw [Try.params7] at hA hval
  obtain ⟨v0, vs0, d0, ds0, p0, q0, hargs, rfl, rfl, h0, r0⟩ := trodAll_cons hA
  obtain ⟨v1, vs1, d1, ds1, p1, q1, rfl, rfl, rfl, h1, r1⟩ := trodAll_cons r0
  obtain ⟨v2, vs2, d2, ds2, p2, q2, rfl, rfl, rfl, h2, r2⟩ := trodAll_cons r1
  obtain ⟨rfl, rfl, rfl⟩ := trodAll_nil r2
  obtain rfl : args = #[v0, v1, v2] := by cases args; simp_all
  obtain ⟨rfl, rfl⟩ := trodVars_none hV
  obtain ⟨a0, rfl, rfl, rfl, w0⟩ := open_int Try.underlying2 (hval 0 2 v0 rfl rfl) h0
  obtain ⟨a1, rfl, rfl, rfl, w1⟩ := open_int Try.underlying2 (hval 1 2 v1 rfl rfl) h1
  obtain ⟨a2, rfl, rfl, rfl, w2⟩ := open_int Try.underlying5 (hval 2 5 v2 rfl rfl) h2
  clear hA0 hval0
  simp only [List.append_nil] at hW'
  refine (walk a0 a1 a2 W w0 w1 w2).mono fun e W' ⟨he, bel⟩ => ?_
  subst he
  exact ⟨_, rfl, _, _, _, [], _, [], hW', trodAll_mk1 (shut_bool Try.underlying4 _), (trodAll_cons_mk (shut_int Try.underlying2 w0) (trodAll_cons_mk (shut_int Try.underlying2 w1) (trodAll_cons_mk (shut_int Try.underlying5 w2) trodAll_mk0))), rfl, bel.frame _, fun h => by cases h⟩
theorem over : Rows.schedLeastRow.holds Try.pinned (OpenSpec.ofChange Rows.schedLeastSpec) :=
  OpenClaim.holds_of_wide 7 Try.f7 rfl rfl rfl rfl rfl rfl rfl ⟨rfl, rfl, rfl, rfl, rfl⟩ rfl rfl rfl rfl rfl (by kernel_rfl) Try.func7 (by kernel_rfl)
    (of_decide_eq_true (by kernel_rfl)) (by unfold Func.isWrapper; first | (rw [if_pos (by decide +kernel)]; kernel_rfl) | (rw [if_neg (by decide +kernel)]; exact ⟨rfl, rfl⟩))
    (fun os started H enc _ => lifted os started H enc)
/-- The statement. -/
theorem proved : Rows.SchedLeastSaid := over
#print axioms proved
end Go.Proofs.Ytgnhnffmojjncaa.Mn.schedLeast
namespace Go.Proofs.Ytgnhnffmojjncaa
theorem schedLeast_holds : Rows.SchedLeastSaid := Mn.schedLeast.proved
end Go.Proofs.Ytgnhnffmojjncaa
