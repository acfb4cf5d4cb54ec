/- Proved here: FlowSpreads: at any flows and any days what Spread answers, amounts or the error, is the document's. No condition. -/
import Derived.Test.YtkjbkppjebljpaaAlive
import Derived.Test.YtkjbkppjebljpaaRSpr
namespace Go.Proofs.Ytkjbkppjebljpaa.flowSpreads
open Go.ChangeShapes Go.WideShapes Go.ChangeAt Go.RowKit
set_option linter.unusedSimpArgs false
theorem s_long1 (a0 : Option Addr) (l0 c0 : Nat) (a1 : Option Addr) (l1 c1 : Nat) (d1 : decide ((700 : Int) < (l0 : Int)) = true) (hal : Hid Alive) (w : World) : Calls Try.prog 4 #[.slice a0 l0 c0, .slice a1 l1 c1] w fun e w' => e = .returned (.bool true) ∧ Below w.heap.size w w' := by
  go_enter Try.func4, Try.ntmps4
  go_wp2_with fail
  refine (unhide hal _).mono ?_
  rintro e w1 ⟨rfl, hb1⟩
  replace hb1 := hide hb1
  go_wp2_with fail
  go_ret
  exact ⟨rfl, unhide hb1⟩
theorem s_long2 (a0 : Option Addr) (l0 c0 : Nat) (a1 : Option Addr) (l1 c1 : Nat) (d1 : decide ((700 : Int) < (l0 : Int)) = false) (d2 : decide ((700 : Int) < (l1 : Int)) = true) (hal : Hid Alive) (w : World) : Calls Try.prog 4 #[.slice a0 l0 c0, .slice a1 l1 c1] w fun e w' => e = .returned (.bool true) ∧ Below w.heap.size w w' := by
  go_enter Try.func4, Try.ntmps4
  go_wp2_with fail
  refine (unhide hal _).mono ?_
  rintro e w1 ⟨rfl, hb1⟩
  replace hb1 := hide hb1
  go_wp2_with fail
  go_ret
  exact ⟨rfl, unhide hb1⟩
set_option maxRecDepth 20000 in
set_option maxHeartbeats 1000000 in
theorem s_main (a0 : Option Addr) (l0 c0 : Nat) (z0 : List (Int × Int)) (a1 : Option Addr) (l1 c1 : Nat) (z1 : List Int) (d1 : decide ((700 : Int) < (l0 : Int)) = false) (d2 : decide ((700 : Int) < (l1 : Int)) = false) (hal : Hid Alive) (w : World) (hR : Hid (RowF w (.slice a0 l0 c0) z0)) (hS : Hid (Row w (.slice a1 l1 c1) z1)) (hl : Hid (z0.length ≤ 1000)) : Calls Try.prog 4 #[.slice a0 l0 c0, .slice a1 l1 c1] w fun e w' => e = .returned (.bool true) ∧ Below w.heap.size w w' := by
  go_enter Try.func4, Try.ntmps4
  go_wp2_with fail
  refine (unhide hal _).mono ?_
  rintro e w1 ⟨rfl, hb1⟩
  replace hR := hide ((unhide hR).keep hb1)
  replace hS := hide ((unhide hS).below hb1 (Nat.le_refl _))
  have HB := hide hb1
  clear hb1
  go_wp2_with fail
  refine (to_any _ z0 w1 (unhide hR) (unhide hl)).mono ?_
  rintro e w2 ⟨x, rfl, g2⟩
  replace hR := hide ((unhide hR).keep g2.below)
  replace hS := hide ((unhide hS).below g2.below (Nat.le_refl _))
  replace HB := hide (below_via (unhide HB) g2.below)
  have HX := hide g2.row
  clear g2
  go_wp2_with fail
  refine (spread_all x _ z0 z1 w2 (unhide HX) (unhide hS)).mono ?_
  rintro e w3 ⟨y, rfl, r3, b3⟩
  replace hR := hide ((unhide hR).keep b3)
  replace hS := hide ((unhide hS).below b3 (Nat.le_refl _))
  replace HB := hide (below_via (unhide HB) b3)
  replace r3 := hide r3
  clear b3 HX
  go_wp2_with fail
  refine (rspread_all _ _ z0 z1 w3 (unhide hR) (unhide hS)).mono ?_
  rintro e w4 ⟨y2, rfl, r4, b4⟩
  replace HB := hide (below_via (unhide HB) b4)
  replace r3 := hide ((unhide r3).below b4 (Nat.le_refl _))
  replace r4 := hide r4
  clear b4 hR hS
  have hF := hide (same_any _ _ _ _ _ (unhide r3) (unhide r4))
  rw [sameB_refl] at hF
  have e9 : (sE z0 z1 == sE z0 z1) = true := by simp
  generalize sE z0 z1 = en at *
  go_wp2_with fail
  refine (unhide hF).mono ?_
  rintro e w5 ⟨rfl, n, rfl⟩
  replace HB := hide (below_drewN (unhide HB) n)
  go_wp2_with fail
  go_ret
  exact ⟨rfl, unhide HB⟩
theorem walk (a0 : Option Addr) (l0 c0 : Nat) (z0 : List (Int × Int)) (a1 : Option Addr) (l1 c1 : Nat) (z1 : List Int) (w : World) (h0 : RowF w (.slice a0 l0 c0) z0) (h1 : Row w (.slice a1 l1 c1) z1) : Calls Try.prog 4 #[.slice a0 l0 c0, .slice a1 l1 c1] w fun e w' => e = .returned (.bool true) ∧ Below w.heap.size w w' := by
  have hal := hide alive_any
  have e0 := rowF_len h0
  by_cases q : (700 : Int) < (l0 : Int)
  · exact s_long1 a0 l0 c0 a1 l1 c1 (decide_eq_true q) hal w
  · by_cases q2 : (700 : Int) < (l1 : Int)
    · exact s_long2 a0 l0 c0 a1 l1 c1 (decide_eq_false q) (decide_eq_true q2) hal w
    · exact s_main a0 l0 c0 z0 a1 l1 c1 z1 (decide_eq_false q) (decide_eq_false q2) hal w (hide h0) (hide h1) (hide (by omega))
theorem own : ownKnob Try.prog.godebug = none := by kernel_rfl
theorem laidOut : laidOutB Try.prog = true := by kernel_rfl
set_option linter.unusedVariables false in
set_option maxRecDepth 100000 in
theorem lifted (os : Os) (started : os.Started) (H : Type) (enc : TypeId × Value → H) :
    ReturnsInHanded {} Try.checked os 4 .any (Rows.flowSpreadsSpec.pre6 enc Try.prog Try.f4 Rows.flowSpreadsRow.domain false) (Rows.flowSpreadsSpec.post enc Try.prog Try.f4 false true false false) := by
  refine returnsInHanded_of_change (C := Try.checked) own started (by kernel_rfl) Try.func4
    (ChangeSpec.witness6 (enc := enc) (C := Try.checked) false ⟨#[], #[.slice none 0 0, .slice none 0 0], []⟩ 8 (by kernel_rfl) (by kernel_rfl) (by kernel_rfl) (by kernel_rfl)) ?_
  intro W base args ds gs before hval0 hW hcnd _
  have hval : ∀ (j : Nat) t v, Try.f4.params[j]? = some t → args[j]? = some v → Value.okWide Try.prog W .any base t v := hval0
  have hW' := hW
  obtain ⟨p, q, hA0, hV, rfl, hfz, hnd⟩ := hW
  have hA : DataW.TrodAll enc Try.prog W 0 (fun _ => true) true Try.f4.params.toList args.toList ds p := hA0
  rw [Try.params4] at hA hval
  obtain ⟨v0, vs0, d0, ds0, p0, q0, hargs, rfl, rfl, h0, r0⟩ := trodAll_cons hA
  obtain ⟨v1, vs1, d1, ds1, p1, q1, rfl, rfl, rfl, h1, r1⟩ := trodAll_cons r0
  obtain ⟨rfl, rfl, rfl⟩ := trodAll_nil r1
  obtain rfl : args = #[v0, v1] := by cases args; simp_all
  obtain ⟨rfl, rfl⟩ := trodVars_none hV
  obtain ⟨a0, len0, cap0, rfl⟩ := okWide_slice Try.underlying22 (hval 0 22 v0 rfl rfl)
  have k0 := h0
  have lt0 : ∀ x ∈ p0, x.block < W.heap.size := by obtain ⟨m, hm⟩ := k0; exact DataW.trod_lt m _ _ _ hm
  obtain ⟨z0, w0⟩ : ∃ l : List (Int × Int), RowF W (.slice a0 len0 cap0) l := by
    obtain ⟨fuel, hf⟩ := h0
    exact rowF_open Try.underlying22 Try.underlying40 (by kernel_rfl) rfl rfl (by kernel_rfl) (by kernel_rfl) Try.underlying3 Try.underlying2 hf
  obtain ⟨a1, len1, cap1, rfl⟩ := okWide_slice Try.underlying46 (hval 1 46 v1 rfl rfl)
  have k1 := h1
  have lt1 : ∀ x ∈ p1, x.block < W.heap.size := by obtain ⟨m, hm⟩ := k1; exact DataW.trod_lt m _ _ _ hm
  obtain ⟨z1, w1⟩ : ∃ zs : List Int, Row W (.slice a1 len1 cap1) zs := by
    obtain ⟨fuel, hf⟩ := h1
    rcases open_ints Try.underlying46 Try.underlying3 (by kernel_rfl) hf with ⟨hcs, _⟩ | ⟨x, l, c, zs, hcs, _, hl, hm, hz, _, hcell, hwz⟩
    · simp [Value.cells] at hcs
      obtain ⟨rfl, rfl, rfl⟩ := hcs
      exact ⟨[], .inl ⟨_, _, rfl, rfl⟩⟩
    · simp [Value.cells] at hcs
      obtain ⟨rfl, rfl, rfl⟩ := hcs
      exact row_open hl hm (by simpa using hz) hcell hwz
  clear hA0 hval0
  refine (walk a0 len0 cap0 z0 a1 len1 cap1 z1 W w0 w1).mono fun e W' ⟨he, bel⟩ => ?_
  subst he
  exact ⟨_, rfl, _, _, _, [], _, [], hW', trodAll_mk1 (shut_bool Try.underlying4 _), (trodAll_cons_mk (Below.trod laidOut (by kernel_rfl) (of_decide_eq_true (by kernel_rfl)) k0 bel lt0) (trodAll_cons_mk (Below.trod laidOut (by kernel_rfl) (of_decide_eq_true (by kernel_rfl)) k1 bel lt1) trodAll_mk0)), rfl, bel.frame _, fun h => by cases h⟩
theorem over : Rows.flowSpreadsRow.holds Try.pinned (OpenSpec.ofChange Rows.flowSpreadsSpec) :=
  OpenClaim.holds_of_wide 4 Try.f4 rfl rfl rfl rfl rfl rfl rfl ⟨rfl, rfl, rfl, rfl, rfl⟩ rfl rfl rfl rfl rfl (by kernel_rfl) Try.func4 (by kernel_rfl)
    (of_decide_eq_true (by kernel_rfl)) (by unfold Func.isWrapper; first | (rw [if_pos (by decide +kernel)]; kernel_rfl) | (rw [if_neg (by decide +kernel)]; exact ⟨rfl, rfl⟩))
    (fun os started H enc _ => lifted os started H enc)
/-- The statement. -/
theorem proved : Rows.FlowSpreadsSaid := over
#print axioms proved
end Go.Proofs.Ytkjbkppjebljpaa.flowSpreads
namespace Go.Proofs.Ytkjbkppjebljpaa
theorem flowSpreads_holds : Rows.FlowSpreadsSaid := flowSpreads.proved
end Go.Proofs.Ytkjbkppjebljpaa
