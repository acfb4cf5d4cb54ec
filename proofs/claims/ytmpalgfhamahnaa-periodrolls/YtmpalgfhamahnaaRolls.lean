/- Proved here: PeriodRolls: at any day, any way and any holidays, whether the day works and what Roll takes in its place, or the error, is the document's. No condition. -/
import Derived.Test.YtmpalgfhamahnaaRolled
import Derived.ProofKit
import Derived.OpenShut
import Derived.ShutString
import Derived.ChangeOld
import Derived.Below
namespace Go.Proofs.Ytmpalgfhamahnaa.periodRolls
open Go.ChangeShapes Go.WideShapes Go.ChangeAt Go.RowKit
set_option linter.unusedSimpArgs false
set_option maxRecDepth 20000 in
set_option maxHeartbeats 2000000 in
theorem p_long (n way : Int) (a : Option Addr) (l c : Nat) (hal : Hid (∀ w : World, Calls Try.prog 9 #[] w fun e w' => e = .returned (.bool true) ∧ Below w.heap.size w w')) (d1 : decide ((1000 : Int) < (l : Int)) = true) (w : World) : Calls Try.prog 4 #[.int .i64 n, .int .i64 way, .slice a l c] w fun e w' => e = .returned (.bool true) ∧ Below w.heap.size w w' := by
  go_enter Try.func4, Try.ntmps4
  go_wp2_with fail
  refine (unhide hal _).mono ?_
  rintro e w1 ⟨rfl, hb1⟩
  replace hb1 := hide hb1
  go_wp2_with fail
  go_ret
  exact ⟨rfl, unhide hb1⟩
set_option maxRecDepth 20000 in
set_option maxHeartbeats 2000000 in
theorem p_main (n way r g : Int) (a : Option Addr) (l c : Nat) (hs : List Int) (hal : Hid (∀ w : World, Calls Try.prog 9 #[] w fun e w' => e = .returned (.bool true) ∧ Below w.heap.size w w')) (d1 : decide ((1000 : Int) < (l : Int)) = false) (hA : Hid (RollA n way a l c hs r g)) (hB : Hid (RRollA n way a l c hs r g)) (hW : Hid (∀ W : World, Row W (.slice a l c) hs → WorksA 17 (.slice a l c) hs W)) (hV : Hid (∀ W : World, Row W (.slice a l c) hs → WorksA 18 (.slice a l c) hs W)) (w : World) (hR : Hid (Row w (.slice a l c) hs)) : Calls Try.prog 4 #[.int .i64 n, .int .i64 way, .slice a l c] w fun e w' => e = .returned (.bool true) ∧ Below w.heap.size w w' := by
  go_enter Try.func4, Try.ntmps4
  go_wp2_with fail
  refine (unhide hal _).mono ?_
  rintro e w1 ⟨rfl, hb1⟩
  replace hb1 := hide hb1
  have hR1 := hide ((unhide hR).below (unhide hb1) (Nat.le_refl _))
  go_wp2_with fail
  refine (unhide hA _ (unhide hR1)).mono ?_
  rintro e w2 ⟨rfl, hb2⟩
  have hR2 := hide ((unhide hR1).below hb2 (Nat.le_refl _))
  replace hb2 := hide (below_via (unhide hb1) hb2)
  go_wp2_with fail
  refine (unhide hB _ (unhide hR2)).mono ?_
  rintro e w3 ⟨rfl, hb3⟩
  have hR3 := hide ((unhide hR2).below hb3 (Nat.le_refl _))
  replace hb3 := hide (below_via (unhide hb2) hb3)
  clear hb1 hb2 hR1 hR2 hR hA hB
  have hX := hide (unhide hW _ (unhide hR3) n)
  have hY := hide (unhide hV _ (unhide hR3) n)
  generalize works hs n = b at *
  have hbb : (b == b) = true := by simp
  go_wp2_with fail
  refine (unhide hX).mono ?_
  rintro e w4 ⟨rfl, rfl⟩
  go_wp2_with fail
  refine (unhide hY).mono ?_
  rintro e w5 ⟨rfl, rfl⟩
  go_wp2_with fail
  go_ret
  exact ⟨rfl, unhide hb3⟩
theorem walk (n way : Int) (a : Option Addr) (l c : Nat) (hs : List Int) (w : World) (_hn : (Lit.int .i64 n).wf = true) (_hw : (Lit.int .i64 way).wf = true) (hR : Row w (.slice a l c) hs) : Calls Try.prog 4 #[.int .i64 n, .int .i64 way, .slice a l c] w fun e w' => e = .returned (.bool true) ∧ Below w.heap.size w w' := by
  have hal := hide alive_any
  by_cases h : (1000 : Int) < (l : Int)
  · exact p_long n way a l c hal (decide_eq_true h) w
  · obtain ⟨r, g, hA, hB⟩ := rolls_any n way a l c hs
    exact p_main n way r g a l c hs hal (decide_eq_false h) (hide hA) (hide hB) (hide fun W h => works_any _ hs W h) (hide fun W h => rworks_any _ hs W h) w (hide hR)
theorem own : ownKnob Try.prog.godebug = none := by kernel_rfl
theorem laidOut : laidOutB Try.prog = true := by kernel_rfl
set_option linter.unusedVariables false in
set_option maxRecDepth 100000 in
theorem lifted (os : Os) (started : os.Started) (H : Type) (enc : TypeId × Value → H) :
    ReturnsInHanded {} Try.checked os 4 .any (Rows.periodRollsSpec.pre6 enc Try.prog Try.f4 Rows.periodRollsRow.domain false) (Rows.periodRollsSpec.post enc Try.prog Try.f4 false true false false) := by
  refine returnsInHanded_of_change (C := Try.checked) own started (by kernel_rfl) Try.func4
    (ChangeSpec.witness6 (enc := enc) (C := Try.checked) false ⟨#[], #[.int .i64 0, .int .i64 0, .slice none 0 0], []⟩ 8 (by kernel_rfl) (by kernel_rfl) (by kernel_rfl) (by kernel_rfl)) ?_
  intro W base args ds gs before hval0 hW hcnd _
  have hval : ∀ (j : Nat) t v, Try.f4.params[j]? = some t → args[j]? = some v → Value.okWide Try.prog W .any base t v := hval0
  have hW' := hW
  obtain ⟨p, q, hA0, hV, rfl, hfz, hnd⟩ := hW
  have hA : DataW.TrodAll enc Try.prog W 0 (fun _ => true) true Try.f4.params.toList args.toList ds p := hA0
  rw [Try.params4] at hA hval
  obtain ⟨v0, vs0, d0, ds0, p0, q0, hargs, rfl, rfl, h0, r0⟩ := trodAll_cons hA
  obtain ⟨v1, vs1, d1, ds1, p1, q1, rfl, rfl, rfl, h1, r1⟩ := trodAll_cons r0
  obtain ⟨v2, vs2, d2, ds2, p2, q2, rfl, rfl, rfl, h2, r2⟩ := trodAll_cons r1
  obtain ⟨rfl, rfl, rfl⟩ := trodAll_nil r2
  obtain rfl : args = #[v0, v1, v2] := by cases args; simp_all
  obtain ⟨rfl, rfl⟩ := trodVars_none hV
  obtain ⟨a0, rfl, rfl, rfl, w0⟩ := open_int Try.underlying3 (hval 0 3 v0 rfl rfl) h0
  obtain ⟨a1, rfl, rfl, rfl, w1⟩ := open_int Try.underlying3 (hval 1 3 v1 rfl rfl) h1
  obtain ⟨a2, len2, cap2, rfl⟩ := okWide_slice Try.underlying28 (hval 2 28 v2 rfl rfl)
  have k2 := h2
  have lt2 : ∀ x ∈ p2, x.block < W.heap.size := by obtain ⟨m, hm⟩ := k2; exact DataW.trod_lt m _ _ _ hm
  obtain ⟨z2, w2⟩ : ∃ zs : List Int, Row W (.slice a2 len2 cap2) zs := by
    obtain ⟨fuel, hf⟩ := h2
    rcases open_ints Try.underlying28 Try.underlying3 (by kernel_rfl) hf with ⟨hcs, _⟩ | ⟨x, l, c, zs, hcs, _, hl, hm, hz, _, hcell, hwz⟩
    · simp [Value.cells] at hcs
      obtain ⟨rfl, rfl, rfl⟩ := hcs
      exact ⟨[], .inl ⟨_, _, rfl, rfl⟩⟩
    · simp [Value.cells] at hcs
      obtain ⟨rfl, rfl, rfl⟩ := hcs
      exact row_open hl hm (by simpa using hz) hcell hwz
  clear hA0 hval0
  refine (walk a0 a1 a2 len2 cap2 z2 W w0 w1 w2).mono fun e W' ⟨he, bel⟩ => ?_
  subst he
  exact ⟨_, rfl, _, _, _, [], _, [], hW', trodAll_mk1 (shut_bool Try.underlying4 _), (trodAll_cons_mk (shut_int Try.underlying3 w0) (trodAll_cons_mk (shut_int Try.underlying3 w1) (trodAll_cons_mk (Below.trod laidOut (by kernel_rfl) (of_decide_eq_true (by kernel_rfl)) k2 bel lt2) trodAll_mk0))), rfl, bel.frame _, fun h => by cases h⟩
theorem over : Rows.periodRollsRow.holds Try.pinned (OpenSpec.ofChange Rows.periodRollsSpec) :=
  OpenClaim.holds_of_wide 4 Try.f4 rfl rfl rfl rfl rfl rfl rfl ⟨rfl, rfl, rfl, rfl, rfl⟩ rfl rfl rfl rfl rfl (by kernel_rfl) Try.func4 (by kernel_rfl)
    (of_decide_eq_true (by kernel_rfl)) (by unfold Func.isWrapper; first | (rw [if_pos (by decide +kernel)]; kernel_rfl) | (rw [if_neg (by decide +kernel)]; exact ⟨rfl, rfl⟩))
    (fun os started H enc _ => lifted os started H enc)
/-- The statement. -/
theorem proved : Rows.PeriodRollsSaid := over
#print axioms proved
end Go.Proofs.Ytmpalgfhamahnaa.periodRolls
namespace Go.Proofs.Ytmpalgfhamahnaa
theorem periodRolls_holds : Rows.PeriodRollsSaid := periodRolls.proved
end Go.Proofs.Ytmpalgfhamahnaa
