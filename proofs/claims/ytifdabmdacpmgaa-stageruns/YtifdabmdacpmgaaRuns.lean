/- Proved here: StageRuns: the stages along any marks, or the error, are the document's. No condition. -/
import Derived.Test.YtifdabmdacpmgaaOp
namespace Go.Proofs.Ytifdabmdacpmgaa.stageRuns
open Go.ChangeShapes Go.WideShapes Go.ChangeAt Go.RowKit
set_option linter.unusedVariables false
set_option linter.unusedSimpArgs false
theorem s_long (a : Option Addr) (n c : Nat) (d1 : decide ((700 : Int) < (n : Int)) = true) (hal : Hid Alive) (w : World) : Calls Try.prog 4 #[.slice a n c] w fun e w' => e = .returned (.bool true) ∧ Below w.heap.size w w' := by
  go_enter Try.func4, Try.ntmps4
  go_wp2_with fail
  refine (unhide hal _).mono ?_
  rintro e w1 ⟨rfl, hb⟩
  replace hb := hide hb
  go_wp2_with fail
  go_ret
  exact ⟨rfl, unhide hb⟩
theorem s_ok (a : Option Addr) (n c : Nat) (ms : List Mk) (d1 : decide ((700 : Int) < (n : Int)) = false) (hm : Hid (ms.length ≤ 1000)) (hal : Hid Alive) (w : World) (hR : Hid (RowG 3 w (.slice a n c) (ms.map mkL))) : Calls Try.prog 4 #[.slice a n c] w fun e w' => e = .returned (.bool true) ∧ Below w.heap.size w w' := by
  go_enter Try.func4, Try.ntmps4
  go_wp2_with fail
  refine (unhide hal _).mono ?_
  rintro e w1 ⟨rfl, hb⟩
  have HB := hide hb
  replace hR := hide ((unhide hR).keep hb)
  have HT := hide (to_any _ _ _ (unhide hR) (unhide hm))
  clear hb
  go_wp2_with fail
  refine (unhide HT).mono ?_
  rintro e w2 ⟨u, rfl, hg⟩
  replace HB := hide (below_via (unhide HB) hg.below)
  replace hR := hide ((unhide hR).keep hg.below)
  have HQ := hide (run_any _ _ _ hg.row)
  clear hg HT
  go_wp2_with fail
  refine (unhide HQ).mono ?_
  rintro e w3 ⟨v, zs, e1, rfl, hb, hr, ho⟩
  replace HB := hide (below_via (unhide HB) hb)
  replace hR := hide ((unhide hR).keep hb)
  have HV := hide hr
  have HO := hide ho
  have HQ2 := hide (rrun_any _ _ _ (unhide hR))
  clear hb hr ho HQ
  go_wp2_with fail
  refine (unhide HQ2).mono ?_
  rintro e w4 ⟨v2, zs2, e2, rfl, hb, hr, ho⟩
  obtain ⟨rfl, rfl⟩ := ho.only (unhide HO)
  replace HB := hide (below_via (unhide HB) hb)
  have HS := hide (same_any _ _ _ _ _ ((unhide HV).below hb (Nat.le_refl _)) hr)
  have e3 : (e2 == e2) = true := by simp
  clear hb hr ho HQ2 HV HO
  go_wp2_with fail
  refine (unhide HS).mono ?_
  rintro e w5 ⟨rfl, n5, rfl⟩
  replace HB := hide (below_drewN (unhide HB) n5)
  rw [sameB_refl]
  clear HS
  go_wp2_with fail
  go_ret
  exact ⟨rfl, unhide HB⟩
theorem walk (a : Option Addr) (n c : Nat) (ms : List Mk) (w : World) (hR : RowG 3 w (.slice a n c) (ms.map mkL)) : Calls Try.prog 4 #[.slice a n c] w fun e w' => e = .returned (.bool true) ∧ Below w.heap.size w w' := by
  have hl := rowG_len hR
  rw [List.length_map] at hl
  by_cases h1 : 700 < n
  · exact s_long a n c (decide_eq_true (by omega)) (hide alive_any) w
  · exact s_ok a n c ms (decide_eq_false (by omega)) (hide (by omega)) (hide alive_any) w (hide hR)
theorem own : ownKnob Try.prog.godebug = none := by kernel_rfl
theorem laidOut : laidOutB Try.prog = true := by kernel_rfl
set_option linter.unusedVariables false in
set_option maxRecDepth 100000 in
theorem lifted (os : Os) (started : os.Started) (H : Type) (enc : TypeId × Value → H) :
    ReturnsInHanded {} Try.checked os 4 .any (Rows.stageRunsSpec.pre6 enc Try.prog Try.f4 Rows.stageRunsRow.domain false) (Rows.stageRunsSpec.post enc Try.prog Try.f4 false true false false) := by
  refine returnsInHanded_of_change (C := Try.checked) own started (by kernel_rfl) Try.func4
    (ChangeSpec.witness6 (enc := enc) (C := Try.checked) false ⟨#[], #[.slice none 0 0], []⟩ 8 (by kernel_rfl) (by kernel_rfl) (by kernel_rfl) (by kernel_rfl)) ?_
  intro W base args ds gs before hval0 hW hcnd _
  have hval : ∀ (j : Nat) t v, Try.f4.params[j]? = some t → args[j]? = some v → Value.okWide Try.prog W .any base t v := hval0
  have hW' := hW
  obtain ⟨p, q, hA0, hV, rfl, hfz, hnd⟩ := hW
  have hA : DataW.TrodAll enc Try.prog W 0 (fun _ => true) true Try.f4.params.toList args.toList ds p := hA0
  rw [Try.params4] at hA hval
  obtain ⟨v0, vs0, d0, ds0, p0, q0, hargs, rfl, rfl, h0, r0⟩ := trodAll_cons hA
  obtain ⟨rfl, rfl, rfl⟩ := trodAll_nil r0
  obtain rfl : args = #[v0] := by cases args; simp_all
  obtain ⟨rfl, rfl⟩ := trodVars_none hV
  have k0 := h0
  have lt0 : ∀ x ∈ p0, x.block < W.heap.size := by obtain ⟨m, hm⟩ := k0; exact DataW.trod_lt m _ _ _ hm
  obtain ⟨a0, len0, cap0, rfl⟩ := okWide_slice Try.underlying37 (hval 0 37 v0 rfl rfl)
  obtain ⟨ms0, hr0⟩ : ∃ ms : List Mk, RowG 3 W (.slice a0 len0 cap0) (ms.map mkL) := by
    obtain ⟨fuel, hf⟩ := h0
    exact marks_open hf
  clear hA0 hval0
  refine (walk a0 len0 cap0 ms0 W hr0).mono fun e W' ⟨he, bel⟩ => ?_
  subst he
  exact ⟨_, rfl, _, _, _, [], _, [], hW', trodAll_mk1 (shut_bool Try.underlying4 _), (trodAll_cons_mk (Below.trod laidOut (by kernel_rfl) (of_decide_eq_true (by kernel_rfl)) k0 bel lt0) trodAll_mk0), rfl, bel.frame _, fun h => by cases h⟩
theorem over : Rows.stageRunsRow.holds Try.pinned (OpenSpec.ofChange Rows.stageRunsSpec) :=
  OpenClaim.holds_of_wide 4 Try.f4 rfl rfl rfl rfl rfl rfl rfl ⟨rfl, rfl, rfl, rfl, rfl⟩ rfl rfl rfl rfl rfl (by kernel_rfl) Try.func4 (by kernel_rfl)
    (of_decide_eq_true (by kernel_rfl)) (by unfold Func.isWrapper; first | (rw [if_pos (by decide +kernel)]; kernel_rfl) | (rw [if_neg (by decide +kernel)]; exact ⟨rfl, rfl⟩))
    (fun os started H enc _ => lifted os started H enc)
theorem proved : Rows.StageRunsSaid := over
end Go.Proofs.Ytifdabmdacpmgaa.stageRuns
namespace Go.Proofs.Ytifdabmdacpmgaa
theorem stageRuns_holds : Rows.StageRunsSaid := stageRuns.proved
end Go.Proofs.Ytifdabmdacpmgaa
