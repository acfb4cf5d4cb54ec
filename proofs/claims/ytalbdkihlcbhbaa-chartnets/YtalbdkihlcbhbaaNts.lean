/- Proved here: ChartNets: whether any lines may be, and their sums by accounts, are the document's. No condition. -/
import Derived.Test.YtalbdkihlcbhbaaAl
import Derived.Test.YtalbdkihlcbhbaaAr
import Derived.Test.YtalbdkihlcbhbaaSm
import Derived.Test.YtalbdkihlcbhbaaRt
namespace Go.Proofs.Ytalbdkihlcbhbaa.chartNets
open Go.ChangeShapes Go.WideShapes Go.ChangeAt Go.RowKit
set_option linter.unusedVariables false
set_option linter.unusedSimpArgs false
theorem net_len (l : List Li) : (netL l).length ≤ 10000 := by
  unfold netL
  split
  · have := netT_len l 7; omega
  · simp
theorem s_long (x : Option Addr) (n cap : Nat) (d1 : decide ((300 : Int) < (n : Int)) = true) (w : World) : Calls Try.prog 4 #[.slice x n cap] w fun e w' => e = .returned (.bool true) ∧ Below w.heap.size w w' := by
  go_enter Try.func4, Try.ntmps4
  go_wp2_with fail
  refine (alive_any _).mono ?_
  rintro e w1 ⟨rfl, hb⟩
  replace hb := hide hb
  go_wp2_with fail
  go_ret
  exact ⟨rfl, unhide hb⟩
set_option maxHeartbeats 2000000 in
theorem s_ok (x : Option Addr) (n cap : Nat) (l : List Li) (d1 : decide ((300 : Int) < (n : Int)) = false) (w : World) (HR : Hid (RowG 2 w (.slice x n cap) (l.map liL))) (Hle : Hid (l.length ≤ 10000)) (Hl1 : Hid (l.length ≤ 1000)) (Hin : Hid (AllIn l)) (Hln : Hid ((netL l).length ≤ 10000)) : Calls Try.prog 4 #[.slice x n cap] w fun e w' => e = .returned (.bool true) ∧ Below w.heap.size w w' := by
  go_enter Try.func4, Try.ntmps4
  go_wp2_with fail
  refine (alive_any _).mono ?_
  rintro e w1 ⟨rfl, hb⟩
  have HB := hide hb
  replace HR := hide ((show RowG _ _ _ _ from unhide HR).keep hb)
  clear hb
  go_wp2_with fail
  refine (to_any _ _ _ (unhide HR) (unhide Hle)).mono ?_
  rintro e w2 ⟨v, rfl, hG⟩
  replace HR := hide ((show RowG _ _ _ _ from unhide HR).keep hG.below)
  replace HB := hide (below_via (unhide HB) hG.below)
  have HI := hide hG.row
  clear hG
  go_wp2_with fail
  refine (net_any _ _ _ (unhide HI) (unhide Hl1) (unhide Hin)).mono ?_
  rintro e w3 ⟨a, rfl, hG⟩
  replace HR := hide ((show RowG _ _ _ _ from unhide HR).keep hG.below)
  replace HI := hide ((show RowG _ _ _ _ from unhide HI).keep hG.below)
  replace HB := hide (below_via (unhide HB) hG.below)
  have HA := hide hG.row
  clear hG
  go_wp2_with fail
  refine (rnet_any _ _ _ (unhide HR) (unhide Hl1) (unhide Hin)).mono ?_
  rintro e w4 ⟨b, rfl, hG⟩
  replace HR := hide ((show RowG _ _ _ _ from unhide HR).keep hG.below)
  replace HI := hide ((show RowG _ _ _ _ from unhide HI).keep hG.below)
  replace HA := hide ((show RowG _ _ _ _ from unhide HA).keep hG.below)
  replace HB := hide (below_via (unhide HB) hG.below)
  have HC := hide hG.row
  clear hG
  go_wp2_with fail
  refine (from_any _ _ _ (unhide HA) (unhide Hln)).mono ?_
  rintro e w5 ⟨u, rfl, hG⟩
  replace HR := hide ((show RowG _ _ _ _ from unhide HR).keep hG.below)
  replace HI := hide ((show RowG _ _ _ _ from unhide HI).keep hG.below)
  replace HA := hide ((show RowG _ _ _ _ from unhide HA).keep hG.below)
  replace HC := hide ((show RowG _ _ _ _ from unhide HC).keep hG.below)
  replace HB := hide (below_via (unhide HB) hG.below)
  have HU := hide hG.row
  clear hG
  clear HA
  go_wp2_with fail
  refine (same_to _ _ _ _ (unhide HU) (unhide HC)).mono ?_
  rintro e w6 ⟨rfl, hb⟩
  replace HR := hide ((show RowG _ _ _ _ from unhide HR).keep hb)
  replace HI := hide ((show RowG _ _ _ _ from unhide HI).keep hb)
  replace HC := hide ((show RowG _ _ _ _ from unhide HC).keep hb)
  replace HU := hide ((show RowG _ _ _ _ from unhide HU).keep hb)
  replace HB := hide (below_via (unhide HB) hb)
  clear hb
  clear HU HC
  go_wp2_with fail
  refine (chk_any _ _ _ (unhide HI)).mono ?_
  rintro e w7 ⟨rfl, hb⟩
  replace HR := hide ((show RowG _ _ _ _ from unhide HR).keep hb)
  replace HI := hide ((show RowG _ _ _ _ from unhide HI).keep hb)
  replace HB := hide (below_via (unhide HB) hb)
  clear hb
  go_wp2_with fail
  refine (rchk_any _ _ _ (unhide HR)).mono ?_
  rintro e w8 ⟨rfl, hb⟩
  replace HR := hide ((show RowG _ _ _ _ from unhide HR).keep hb)
  replace HI := hide ((show RowG _ _ _ _ from unhide HI).keep hb)
  replace HB := hide (below_via (unhide HB) hb)
  clear hb
  go_wp2_with fail
  refine (from_any _ _ _ (unhide HI) (unhide Hle)).mono ?_
  rintro e w9 ⟨y, rfl, hG⟩
  replace HR := hide ((show RowG _ _ _ _ from unhide HR).keep hG.below)
  replace HI := hide ((show RowG _ _ _ _ from unhide HI).keep hG.below)
  replace HB := hide (below_via (unhide HB) hG.below)
  have HU := hide hG.row
  clear hG
  clear HI
  go_wp2_with fail
  refine (same_to _ _ _ _ (unhide HU) (unhide HR)).mono ?_
  rintro e w10 ⟨rfl, hb⟩
  replace HR := hide ((show RowG _ _ _ _ from unhide HR).keep hb)
  replace HU := hide ((show RowG _ _ _ _ from unhide HU).keep hb)
  replace HB := hide (below_via (unhide HB) hb)
  clear hb
  clear HU HR
  go_wp2_with fail
  go_ret
  exact ⟨rfl, unhide HB⟩
theorem walk (x : Option Addr) (n cap : Nat) (l : List Li) (w : World) (h : RowG 2 w (.slice x n cap) (l.map liL)) (hi : AllIn l) : Calls Try.prog 4 #[.slice x n cap] w fun e w' => e = .returned (.bool true) ∧ Below w.heap.size w w' := by
  have hl := rowG_len h
  rw [List.length_map] at hl
  by_cases h1 : 300 < n
  · exact s_long x n cap (decide_eq_true (by omega)) w
  · exact s_ok x n cap l (decide_eq_false (by omega)) w (hide h) (hide (by omega)) (hide (by omega)) (hide hi) (hide (net_len l))
theorem own : ownKnob Try.prog.godebug = none := by kernel_rfl
theorem laidOut : laidOutB Try.prog = true := by kernel_rfl
set_option linter.unusedVariables false in
set_option maxRecDepth 100000 in
theorem lifted (os : Os) (started : os.Started) (H : Type) (enc : TypeId × Value → H) :
    ReturnsInHanded {} Try.checked os 4 .any (Rows.chartNetsSpec.pre6 enc Try.prog Try.f4 Rows.chartNetsRow.domain false) (Rows.chartNetsSpec.post enc Try.prog Try.f4 false true false false) := by
  refine returnsInHanded_of_change (C := Try.checked) own started (by kernel_rfl) Try.func4
    (ChangeSpec.witness6 (enc := enc) (C := Try.checked) false ⟨#[], #[.slice none 0 0], []⟩ 8 (by kernel_rfl) (by kernel_rfl) (by kernel_rfl) (by kernel_rfl)) ?_
  intro W base args ds gs before hval0 hW hcnd _
  have hval : ∀ (j : Nat) t v, Try.f4.params[j]? = some t → args[j]? = some v → Value.okWide Try.prog W .any base t v := hval0
  have hW' := hW
  obtain ⟨p, q, hA0, hV, rfl, hfz, hnd⟩ := hW
  have hA : DataW.TrodAll enc Try.prog W 0 (fun _ => true) true Try.f4.params.toList args.toList ds p := hA0
  rw [Try.params4] at hA hval
  obtain ⟨v0, vs0, d0, ds0, p0, q0, hargs, rfl, rfl, h0, r0⟩ := trodAll_cons hA
  obtain ⟨rfl, rfl, rfl⟩ := trodAll_nil r0
  obtain rfl : args = #[v0] := by cases args; simp_all
  obtain ⟨rfl, rfl⟩ := trodVars_none hV
  have k0 := h0
  have lt0 : ∀ x ∈ p0, x.block < W.heap.size := by obtain ⟨m, hm⟩ := k0; exact DataW.trod_lt m _ _ _ hm
  obtain ⟨a0, len0, cap0, rfl⟩ := okWide_slice Try.underlying29 (hval 0 29 v0 rfl rfl)
  obtain ⟨l0, hr0, ii0⟩ : ∃ l : List Li, RowG 2 W (.slice a0 len0 cap0) (l.map liL) ∧ AllIn l := by
    obtain ⟨fuel, hf⟩ := h0
    exact lis_open hf
  clear hA0 hval0
  refine (walk a0 len0 cap0 l0 W hr0 ii0).mono fun e W' ⟨he, bel⟩ => ?_
  subst he
  exact ⟨_, rfl, _, _, _, [], _, [], hW', trodAll_mk1 (shut_bool Try.underlying4 _), (trodAll_cons_mk (Below.trod laidOut (by kernel_rfl) (of_decide_eq_true (by kernel_rfl)) k0 bel lt0) trodAll_mk0), rfl, bel.frame _, fun h => by cases h⟩
theorem over : Rows.chartNetsRow.holds Try.pinned (OpenSpec.ofChange Rows.chartNetsSpec) :=
  OpenClaim.holds_of_wide 4 Try.f4 rfl rfl rfl rfl rfl rfl rfl ⟨rfl, rfl, rfl, rfl, rfl⟩ rfl rfl rfl rfl rfl (by kernel_rfl) Try.func4 (by kernel_rfl)
    (of_decide_eq_true (by kernel_rfl)) (by unfold Func.isWrapper; first | (rw [if_pos (by decide +kernel)]; kernel_rfl) | (rw [if_neg (by decide +kernel)]; exact ⟨rfl, rfl⟩))
    (fun os started H enc _ => lifted os started H enc)
theorem proved : Rows.ChartNetsSaid := over
end Go.Proofs.Ytalbdkihlcbhbaa.chartNets
namespace Go.Proofs.Ytalbdkihlcbhbaa
theorem chartNets_holds : Rows.ChartNetsSaid := chartNets.proved
end Go.Proofs.Ytalbdkihlcbhbaa
