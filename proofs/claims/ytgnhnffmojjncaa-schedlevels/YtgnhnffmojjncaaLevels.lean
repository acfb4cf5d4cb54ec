/- Proved here: SchedLevels: at any amount, any rate and any periods the least payment, or the error, is the document's. No condition. -/
import Derived.Test.YtgnhnffmojjncaaSAlive
import Derived.Test.YtgnhnffmojjncaaSRLev
import Derived.ProofKit
import Derived.OpenShut
import Derived.ShutString
import Derived.ChangeOld
import Derived.Below
namespace Go.Proofs.Ytgnhnffmojjncaa.Mn.schedLevels
open Go.ChangeShapes Go.WideShapes Go.ChangeAt Go.RowKit
set_option linter.unusedSimpArgs false
theorem w_great (x r k : Int) (t1 : decide (100 < k) = true) (t2 : decide (k ≤ 600) = true) (hal : Hid Alive) (w : World) : Calls Try.prog 4 #[.int .i64 x, .int .i64 r, .int .i64 k] w fun e w' => e = .returned (.bool true) ∧ Below w.heap.size w w' := by
  unfold Alive at hal
  go_enter Try.func4, Try.ntmps4
  go_wp2_with fail
  refine (unhide hal w).mono ?_
  rintro e w1 ⟨rfl, hb⟩
  go_wp2_with fail
  go_ret
  exact ⟨rfl, hb⟩
theorem w_main (x r k v g : Int) (ht : (100 < k ∧ k ≤ 600) = False) (h1 : Hid (LevelA 17 x r k v g)) (h2 : Hid (LevelA 18 x r k v g)) (hal : Hid Alive) (w : World) : Calls Try.prog 4 #[.int .i64 x, .int .i64 r, .int .i64 k] w fun e w' => e = .returned (.bool true) ∧ Below w.heap.size w w' := by
  unfold Alive at hal
  unfold LevelA at h1 h2
  have s1 : (v == v) = true := by simp
  have s2 : (g == g) = true := by simp
  have ht' := of_eq_false ht
  clear ht
  by_cases t1 : 100 < k
  · have t2 : decide (k ≤ 600) = false := decide_eq_false (fun c => ht' ⟨t1, c⟩)
    have t3 := decide_eq_true t1
    clear t1 ht'
    go_enter Try.func4, Try.ntmps4
    go_wp2_with fail
    refine (unhide hal w).mono ?_
    rintro e w1 ⟨rfl, hb⟩
    have HB := hide hb
    clear hb
    go_wp2_with fail
    refine (unhide h1 w1).mono ?_
    rintro e w2 ⟨rfl, hb⟩
    replace HB := hide (below_via (unhide HB) hb)
    clear hb
    go_wp2_with fail
    refine (unhide h2 w2).mono ?_
    rintro e w3 ⟨rfl, hb⟩
    replace HB := hide (below_via (unhide HB) hb)
    clear hb
    go_wp2_with fail
    go_ret
    exact ⟨rfl, unhide HB⟩
  · have t3 := decide_eq_false t1
    clear t1 ht'
    go_enter Try.func4, Try.ntmps4
    go_wp2_with fail
    refine (unhide hal w).mono ?_
    rintro e w1 ⟨rfl, hb⟩
    have HB := hide hb
    clear hb
    go_wp2_with fail
    refine (unhide h1 w1).mono ?_
    rintro e w2 ⟨rfl, hb⟩
    replace HB := hide (below_via (unhide HB) hb)
    clear hb
    go_wp2_with fail
    refine (unhide h2 w2).mono ?_
    rintro e w3 ⟨rfl, hb⟩
    replace HB := hide (below_via (unhide HB) hb)
    clear hb
    go_wp2_with fail
    go_ret
    exact ⟨rfl, unhide HB⟩
theorem walk (x r k : Int) (w : World) (_w0 : (Lit.int .i64 x).wf = true) (_w1 : (Lit.int .i64 r).wf = true) (_w2 : (Lit.int .i64 k).wf = true) : Calls Try.prog 4 #[.int .i64 x, .int .i64 r, .int .i64 k] w fun e w' => e = .returned (.bool true) ∧ Below w.heap.size w w' := by
  by_cases h : 100 < k ∧ k ≤ 600
  · exact w_great x r k (decide_eq_true h.1) (decide_eq_true h.2) (hide alive_any) w
  · exact w_main x r k _ _ (eq_false h) (hide (level_any x r k)) (hide (rlevel_any x r k)) (hide alive_any) w
theorem own : ownKnob Try.prog.godebug = none := by kernel_rfl
set_option linter.unusedVariables false in
set_option maxRecDepth 100000 in
theorem lifted (os : Os) (started : os.Started) (H : Type) (enc : TypeId × Value → H) :
    ReturnsInHanded {} Try.checked os 4 .any (Rows.schedLevelsSpec.pre6 enc Try.prog Try.f4 Rows.schedLevelsRow.domain false) (Rows.schedLevelsSpec.post enc Try.prog Try.f4 false true false false) := by
  refine returnsInHanded_of_change (C := Try.checked) own started (by kernel_rfl) Try.func4
    (ChangeSpec.witness6 (enc := enc) (C := Try.checked) false ⟨#[], #[.int .i64 0, .int .i64 0, .int .i64 0], []⟩ 8 (by kernel_rfl) (by kernel_rfl) (by kernel_rfl) (by kernel_rfl)) ?_
  intro W base args ds gs before hval0 hW hcnd _
  have hval : ∀ (j : Nat) t v, Try.f4.params[j]? = some t → args[j]? = some v → Value.okWide Try.prog W .any base t v := hval0
  have hW' := hW
  obtain ⟨p, q, hA0, hV, rfl, hfz, hnd⟩ := hW
  have hA : DataW.TrodAll enc Try.prog W 0 (fun _ => true) true Try.f4.params.toList args.toList ds p := hA0
  rw [Try.params4] at hA hval
  obtain ⟨v0, vs0, d0, ds0, p0, q0, hargs, rfl, rfl, h0, r0⟩ := trodAll_cons hA
  obtain ⟨v1, vs1, d1, ds1, p1, q1, rfl, rfl, rfl, h1, r1⟩ := trodAll_cons r0
  obtain ⟨v2, vs2, d2, ds2, p2, q2, rfl, rfl, rfl, h2, r2⟩ := trodAll_cons r1
  obtain ⟨rfl, rfl, rfl⟩ := trodAll_nil r2
  obtain rfl : args = #[v0, v1, v2] := by cases args; simp_all
  obtain ⟨rfl, rfl⟩ := trodVars_none hV
  obtain ⟨a0, rfl, rfl, rfl, w0⟩ := open_int Try.underlying2 (hval 0 2 v0 rfl rfl) h0
  obtain ⟨a1, rfl, rfl, rfl, w1⟩ := open_int Try.underlying2 (hval 1 2 v1 rfl rfl) h1
  obtain ⟨a2, rfl, rfl, rfl, w2⟩ := open_int Try.underlying3 (hval 2 3 v2 rfl rfl) h2
  clear hA0 hval0
  simp only [List.append_nil] at hW'
  refine (walk a0 a1 a2 W w0 w1 w2).mono fun e W' ⟨he, bel⟩ => ?_
  subst he
  exact ⟨_, rfl, _, _, _, [], _, [], hW', trodAll_mk1 (shut_bool Try.underlying4 _), (trodAll_cons_mk (shut_int Try.underlying2 w0) (trodAll_cons_mk (shut_int Try.underlying2 w1) (trodAll_cons_mk (shut_int Try.underlying3 w2) trodAll_mk0))), rfl, bel.frame _, fun h => by cases h⟩
theorem over : Rows.schedLevelsRow.holds Try.pinned (OpenSpec.ofChange Rows.schedLevelsSpec) :=
  OpenClaim.holds_of_wide 4 Try.f4 rfl rfl rfl rfl rfl rfl rfl ⟨rfl, rfl, rfl, rfl, rfl⟩ rfl rfl rfl rfl rfl (by kernel_rfl) Try.func4 (by kernel_rfl)
    (of_decide_eq_true (by kernel_rfl)) (by unfold Func.isWrapper; first | (rw [if_pos (by decide +kernel)]; kernel_rfl) | (rw [if_neg (by decide +kernel)]; exact ⟨rfl, rfl⟩))
    (fun os started H enc _ => lifted os started H enc)
/-- The statement. -/
theorem proved : Rows.SchedLevelsSaid := over
#print axioms proved
end Go.Proofs.Ytgnhnffmojjncaa.Mn.schedLevels
namespace Go.Proofs.Ytgnhnffmojjncaa
theorem schedLevels_holds : Rows.SchedLevelsSaid := Mn.schedLevels.proved
end Go.Proofs.Ytgnhnffmojjncaa
