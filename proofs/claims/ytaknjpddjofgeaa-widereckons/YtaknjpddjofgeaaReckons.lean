/- Proved here: WideReckons: products, sums, negatives of any numbers of 128 bits, and how they stand, are the document's. No condition. -/
import Derived.Test.YtaknjpddjofgeaaRecW
import Derived.Test.YtaknjpddjofgeaaFour
import Derived.Test.YtaknjpddjofgeaaRAdd2
import Derived.Lib.SmallJoins
import Derived.ProofKit
import Derived.OpenShut
import Derived.ShutString
import Derived.ChangeOld
import Derived.Below
namespace Go.Proofs.Ytaknjpddjofgeaa.wideReckons
open Go.ChangeShapes Go.WideShapes Go.ChangeAt Go.RowKit
set_option linter.unusedSimpArgs false
theorem eql28 (p q : Int) (w : World) : (binOp .eql 28 (.agg #[.int .i64 p, .int .u64 q]) (.agg #[.int .i64 p, .int .u64 q])).run Try.prog w = .ok (.bool true) w := by
  have ht : Try.prog.underlying 28 = some (.struct (Try.prog.fieldsOf 28)) := by kernel_rfl
  have hp : Try.prog.stoodInHeld 28 = false := by kernel_rfl
  have hf := TypeDesc.struct.inj (Option.some.inj (ht.symm.trans Try.underlying28))
  rw [run_eql_struct, run_equalIn_agg w 9999 28 _ _ ht hp, hf]
  simp [Op.eqFields, part, isAgg, go_sem, Try.underlying2, Try.underlying22]
theorem walk (p q r s x y : Int) (w : World) (wp : (Lit.int .i64 p).wf = true) (wq : (Lit.int .u64 q).wf = true) (wr : (Lit.int .i64 r).wf = true) (ws : (Lit.int .u64 s).wf = true) (wx : (Lit.int .i64 x).wf = true) (wy : (Lit.int .i64 y).wf = true) : Calls Try.prog 3 #[.agg #[.int .i64 p, .int .u64 q, .int .i64 r, .int .u64 s, .int .i64 x, .int .i64 y]] w fun e w' => e = .returned (.bool true) ∧ Below w.heap.size w w' := by
  have hp := in64_of wp
  have hq := bounds_u64 wq
  have hr := in64_of wr
  have hs := bounds_u64 ws
  have hx := in64_of wx
  have hy := in64_of wy
  obtain ⟨e1, e2, hX⟩ := hi_mk (h := p) (l := q) hp.lo hp.hi (by omega) (by omega)
  obtain ⟨e3, e4, hY⟩ := hi_mk (h := r) (l := s) hr.lo hr.hi (by omega) (by omega)
  generalize p * 18446744073709551616 + q = X at e1 e2 hX
  generalize r * 18446744073709551616 + s = Y at e3 e4 hY
  subst e1 e2 e3 e4
  exact go _ _ _ _ x y _ _ _ _ _ _ _ _ _ _ _ w (hide (add_any X Y hX hY)) (hide (radd_any X Y hX hY)) (hide (neg_any X hX)) (hide (rneg_any X hX)) (hide (compare_any X Y hX hY)) (hide (rcmp_any X Y hX hY)) (hide (mul_any x y hx hy)) (hide (rmul_any x y hx hy)) (hide (of_any x hx)) (hide (rof_any x hx)) (eql28 _ _) (eql28 _ _) (eql28 _ _) (eql28 _ _)
theorem own : ownKnob Try.prog.godebug = none := by kernel_rfl
set_option linter.unusedVariables false in
set_option maxRecDepth 100000 in
theorem lifted (os : Os) (started : os.Started) (H : Type) (enc : TypeId × Value → H) :
    ReturnsInHanded {} Try.checked os 3 .any (Rows.wideReckonsSpec.pre6 enc Try.prog Try.f3 Rows.wideReckonsRow.domain false) (Rows.wideReckonsSpec.post enc Try.prog Try.f3 false true false false) := by
  refine returnsInHanded_of_change (C := Try.checked) own started (by kernel_rfl) Try.func3
    (ChangeSpec.witness6 (enc := enc) (C := Try.checked) false ⟨#[], #[.agg #[.int .i64 0, .int .u64 0, .int .i64 0, .int .u64 0, .int .i64 0, .int .i64 0]], []⟩ 8 (by kernel_rfl) (by kernel_rfl) (by kernel_rfl) (by kernel_rfl)) ?_
  intro W base args ds gs before hval0 hW hcnd _
  have hval : ∀ (j : Nat) t v, Try.f3.params[j]? = some t → args[j]? = some v → Value.okWide Try.prog W .any base t v := hval0
  have hW' := hW
  obtain ⟨p, q, hA0, hV, rfl, hfz, hnd⟩ := hW
  have hA : DataW.TrodAll enc Try.prog W 0 (fun _ => true) true Try.f3.params.toList args.toList ds p := hA0
  rw [Try.params3] at hA hval
  obtain ⟨v0, vs0, d0, ds0, p0, q0, hargs, rfl, rfl, h0, r0⟩ := trodAll_cons hA
  obtain ⟨rfl, rfl, rfl⟩ := trodAll_nil r0
  obtain rfl : args = #[v0] := by cases args; simp_all
  obtain ⟨rfl, rfl⟩ := trodVars_none hV
  obtain ⟨a00, a01, a02, a03, a04, a05, rfl, rfl, rfl, w00, w01, w02, w03, w04, w05⟩ := open_four (hval 0 26 v0 rfl rfl) h0
  clear hA0 hval0
  simp only [List.append_nil] at hW'
  refine (walk a00 a01 a02 a03 a04 a05 W w00 w01 w02 w03 w04 w05).mono fun e W' ⟨he, bel⟩ => ?_
  subst he
  exact ⟨_, rfl, _, _, _, [], _, [], hW', trodAll_mk1 (shut_bool Try.underlying4 _), (trodAll_cons_mk (shut_four w00 w01 w02 w03 w04 w05) trodAll_mk0), rfl, bel.frame _, fun h => by cases h⟩
theorem over : Rows.wideReckonsRow.holds Try.pinned (OpenSpec.ofChange Rows.wideReckonsSpec) :=
  OpenClaim.holds_of_wide 3 Try.f3 rfl rfl rfl rfl rfl rfl rfl ⟨rfl, rfl, rfl, rfl, rfl⟩ rfl rfl rfl rfl rfl (by kernel_rfl) Try.func3 (by kernel_rfl)
    (of_decide_eq_true (by kernel_rfl)) (by unfold Func.isWrapper; first | (rw [if_pos (by decide +kernel)]; kernel_rfl) | (rw [if_neg (by decide +kernel)]; exact ⟨rfl, rfl⟩))
    (fun os started H enc _ => lifted os started H enc)
/-- The statement. -/
theorem proved : Rows.WideReckonsSaid := over
#print axioms proved
end Go.Proofs.Ytaknjpddjofgeaa.wideReckons
namespace Go.Proofs.Ytaknjpddjofgeaa
theorem wideReckons_holds : Rows.WideReckonsSaid := wideReckons.proved
end Go.Proofs.Ytaknjpddjofgeaa
