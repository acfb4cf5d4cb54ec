/- Proved here: BatchGets: the batch of any bytes, or the error, is the document's, and the bytes stay. No condition. -/
import Derived.Test.YtfahgphkceilkaaYl
import Derived.Deep.QuietTactic
import Derived.BigQuiet
import Derived.Deep.RegionHeld
import Derived.Deep.MidRow
namespace Go.Proofs.Ytfahgphkceilkaa.batchGets
open Go.ChangeShapes Go.WideShapes Go.ChangeAt Go.RowKit
set_option linter.unusedVariables false
set_option linter.unusedSimpArgs false
theorem s_long (x : Option Addr) (n cap : Nat) (d1 : decide ((3000 : Int) < (n : Int)) = true) (w : World) : Calls Try.prog 4 #[.slice x n cap] w fun e w' => e = .returned (.bool true) ∧ Below w.heap.size w w' := by
  go_enter Try.func4, Try.ntmps4
  go_wp2_with fail
  refine (alive_any _).mono ?_
  rintro e w1 ⟨rfl, hb⟩
  replace hb := hide hb
  go_wp2_with fail
  go_ret
  exact ⟨rfl, unhide hb⟩
set_option maxHeartbeats 8000000 in
theorem s_ok (x : Option Addr) (n cap : Nat) (xs : List Nat) (d1 : decide ((3000 : Int) < (n : Int)) = false) (w : World) (HR : Hid (RowG 1 w (.slice x n cap) (bys xs))) (Hb : Hid (Bytes xs)) (Hn : Hid (xs.length = n)) (Hl1 : Hid (([] : List Nat).length + xs.length ≤ 1000000)) (Hlg : Hid ((getL xs).length ≤ 10000)) : Calls Try.prog 4 #[.slice x n cap] w fun e w' => e = .returned (.bool true) ∧ Below w.heap.size w w' := by
  have HB := hide (Below.refl w.heap.size w)
  go_enter Try.func4, Try.ntmps4
  go_wp2_with fail
  refine (alive_any _).mono ?_
  rintro e w1 ⟨rfl, hb⟩
  replace HR := hide ((show RowG _ _ _ _ from unhide HR).keep hb)
  replace HB := hide (below_via (unhide HB) hb)
  have HG0 := hide (grow_new w1 [] (by simp [maxLen]) #[] rfl)
  have HR0 := hide ((show RowG _ _ _ _ from unhide HR).alloc (.cells #[] 5))
  go_wp2_with (at_builtin; refine pushB rfl _ _ rfl w1 _ _ _ [] xs (unhide HG0) rfl rfl (by simpa [Act.eval, Act.put] using unhide HR0) (unhide Hl1) ?_)
  intro v w2 hG hS2
  replace HR := hide ((show RowG _ _ _ _ from unhide HR).keep hG.below)
  replace HB := hide (below_via (unhide HB) hG.below)
  have HV := hide hG.row
  clear hG hS2 HG0 HR0
  obtain ⟨av, cv, rfl⟩ := rowG_slice (unhide HV)
  rw [bys_len, unhide Hn] at HV ⊢
  go_wp2_with fail
  refine (get_any _ xs _ (unhide HV) (unhide Hb)).mono ?_
  rintro e w3 ⟨u, rfl, hG⟩
  replace HR := hide ((show RowG _ _ _ _ from unhide HR).keep hG.below)
  replace HV := hide ((show RowG _ _ _ _ from unhide HV).keep hG.below)
  replace HB := hide (below_via (unhide HB) hG.below)
  have HU := hide (hG.row)
  clear hG
  obtain ⟨au, cu, rfl⟩ := rowG_slice (unhide HU)
  rw [List.length_map] at HU ⊢
  have HX0 := hide (Blk.new w3 #[.int .i64 0, .int .i64 0, .slice none 0 0] 32)
  have HA0 := hide (below1 w3 (.cells #[.int .i64 0, .int .i64 0, .slice none 0 0] 32))
  go_wp2_with (refine store_blk rfl 32 _ _ rfl (show Blk _ _ _ _ from unhide HX0) rfl rfl size32 rfl rfl rfl ?_)
  intro w4 kX kp
  have hb := kp.bel (Nat.le_refl _) (unhide HA0)
  replace HR := hide ((show RowG _ _ _ _ from unhide HR).keep hb)
  replace HV := hide ((show RowG _ _ _ _ from unhide HV).keep hb)
  replace HU := hide ((show RowG _ _ _ _ from unhide HU).keep hb)
  replace HB := hide (below_via (unhide HB) hb)
  have HX := hide kX
  clear kp kX HX0 HA0 hb
  generalize w3.heap.size = cb at *
  go_wp2_with fail
  refine (rget_any _ xs _ (unhide HR) (unhide Hb)).mono ?_
  rintro e w5 ⟨y, rfl, hG⟩
  replace HR := hide ((show RowG _ _ _ _ from unhide HR).keep hG.below)
  replace HV := hide ((show RowG _ _ _ _ from unhide HV).keep hG.below)
  replace HU := hide ((show RowG _ _ _ _ from unhide HU).keep hG.below)
  replace HX := hide ((show Blk _ _ _ _ from unhide HX).keep hG.below)
  replace HB := hide (below_via (unhide HB) hG.below)
  have HY := hide (hG.row)
  clear hG
  obtain ⟨ay, cy, rfl⟩ := rowG_slice (unhide HY)
  rw [List.length_map] at HY ⊢
  have HX0 := hide (Blk.new w5 #[.int .i64 0, .int .i64 0, .slice none 0 0] 24)
  have HA0 := hide (below1 w5 (.cells #[.int .i64 0, .int .i64 0, .slice none 0 0] 24))
  go_wp2_with (refine store_blk rfl 24 _ _ rfl (show Blk _ _ _ _ from unhide HX0) rfl rfl size24 rfl rfl rfl ?_)
  intro w6 kX kp
  have hb := kp.bel (Nat.le_refl _) (unhide HA0)
  replace HR := hide ((show RowG _ _ _ _ from unhide HR).keep hb)
  replace HV := hide ((show RowG _ _ _ _ from unhide HV).keep hb)
  replace HU := hide ((show RowG _ _ _ _ from unhide HU).keep hb)
  replace HX := hide ((show Blk _ _ _ _ from unhide HX).keep hb)
  replace HY := hide ((show RowG _ _ _ _ from unhide HY).keep hb)
  replace HB := hide (below_via (unhide HB) hb)
  have HZ := hide kX
  clear kp kX HX0 HA0 hb
  generalize w5.heap.size = cd at *
  go_wp2_with fail
  generalize getS xs = gs at *
  generalize getV xs = gv at *
  generalize getE xs = ge at *
  refine wp_region_noPanic ?_
  refine wp_region_held_drew (S := fun W => Below w6.heap.size w6 W) (by kernel_rfl) (Below.refl _ _).drew (fun hS => ?_)
  have HXV := HX
  have HZV := HZ
  have hb := hS
  replace HR := hide ((show RowG _ _ _ _ from unhide HR).keep hb)
  replace HV := hide ((show RowG _ _ _ _ from unhide HV).keep hb)
  replace HU := hide ((show RowG _ _ _ _ from unhide HU).keep hb)
  replace HX := hide ((show Blk _ _ _ _ from unhide HX).keep hb)
  replace HY := hide ((show RowG _ _ _ _ from unhide HY).keep hb)
  replace HZ := hide ((show Blk _ _ _ _ from unhide HZ).keep hb)
  replace HB := hide (below_via (unhide HB) hb)
  clear hb
  generalize w6.drew = w7 at *
  refine anyH_at (i := 0) (v := .agg #[.int .i64 gs, .int .i64 gv, .slice au (getL xs).length cu]) 26 rfl (by kernel_rfl) (by kernel_rfl) (by kernel_rfl) (by kernel_rfl) (fun _ _ _ h => h) (yl_blk (by kernel_rfl) 32 _ rfl rfl (fun W hS => (show Blk _ _ _ _ from unhide HXV).keep hS) row32 size32 rfl) hS ?_
  try simp only [Act.put, List.setIfInBounds_toArray, List.set_cons_zero, List.set_cons_succ]
  refine anyH_at (i := 2) (v := .agg #[.int .i64 gs, .int .i64 gv, .slice ay (getL xs).length cy]) 28 rfl (by kernel_rfl) (by kernel_rfl) (by kernel_rfl) (by kernel_rfl) (fun _ _ _ h => h) (yl_blk (by kernel_rfl) 24 _ rfl rfl (fun W hS => (show Blk _ _ _ _ from unhide HZV).keep hS) row24 size24 rfl) hS ?_
  try simp only [Act.put, List.setIfInBounds_toArray, List.set_cons_zero, List.set_cons_succ]
  refine wpAnyH_all (rs := [1]) (by kernel_rfl) (by simp) (AllReadyH.cons (i := 1) rfl (fun KK hK => ?_) AllReadyH.nil)
  rw [if_pos (by kernel_rfl)]
  have hS0 := hide hS
  clear hS
  go_wp2_with fail
  refine (fromb_any gs gv _ _ _ (unhide HU) (unhide Hlg)).mono ?_
  rintro e w8 ⟨t, rfl, hG⟩
  replace HR := hide ((show RowG _ _ _ _ from unhide HR).keep hG.below)
  replace HV := hide ((show RowG _ _ _ _ from unhide HV).keep hG.below)
  replace HU := hide ((show RowG _ _ _ _ from unhide HU).keep hG.below)
  replace HX := hide ((show Blk _ _ _ _ from unhide HX).keep hG.below)
  replace HY := hide ((show RowG _ _ _ _ from unhide HY).keep hG.below)
  replace HZ := hide ((show Blk _ _ _ _ from unhide HZ).keep hG.below)
  replace HB := hide (below_via (unhide HB) hG.below)
  have HT := hide (hG.row)
  have hS1 := hide (below_via (unhide hS0) hG.below)
  clear hS0 hG
  go_wp2_with fail
  refine hK.out _ _ (unhide hS1) (fun hS => ?_)
  clear hK hS1
  try simp only [Act.put, List.setIfInBounds_toArray, List.set_cons_zero, List.set_cons_succ]
  refine wpAnyH_all (rs := [3]) (by kernel_rfl) (by simp) (AllReadyH.cons (i := 3) rfl (fun KK hK => ?_) AllReadyH.nil)
  rw [if_pos (by kernel_rfl)]
  have hS0 := hide hS
  clear hS
  go_wp2_with fail
  refine (eqb_to gs gv _ _ _ _ (unhide HT) (unhide HY)).mono ?_
  rintro e w9 ⟨rfl, hb⟩
  replace HR := hide ((show RowG _ _ _ _ from unhide HR).keep hb)
  replace HV := hide ((show RowG _ _ _ _ from unhide HV).keep hb)
  replace HU := hide ((show RowG _ _ _ _ from unhide HU).keep hb)
  replace HX := hide ((show Blk _ _ _ _ from unhide HX).keep hb)
  replace HY := hide ((show RowG _ _ _ _ from unhide HY).keep hb)
  replace HZ := hide ((show Blk _ _ _ _ from unhide HZ).keep hb)
  replace HT := hide ((show RowG _ _ _ _ from unhide HT).keep hb)
  replace HB := hide (below_via (unhide HB) hb)
  have hS1 := hide (below_via (unhide hS0) hb)
  clear hS0 hb
  go_wp2_with fail
  refine hK.out _ _ (unhide hS1) (fun hS => ?_)
  clear hK hS1
  try simp only [Act.put, List.setIfInBounds_toArray, List.set_cons_zero, List.set_cons_succ]
  refine anyH_at (i := 4) (v := .bool true) 30 rfl (by kernel_rfl) (by kernel_rfl) (by kernel_rfl) (by kernel_rfl) (fun _ _ _ h => h) (Or.inl ⟨by kernel_rfl, fun W hS => by go_simp⟩) hS ?_
  try simp only [Act.put, List.setIfInBounds_toArray, List.set_cons_zero, List.set_cons_succ]
  refine anyH_at (i := 5) (v := .int .i64 ge) 31 rfl (by kernel_rfl) (by kernel_rfl) (by kernel_rfl) (by kernel_rfl) (fun _ _ _ h => h) (Or.inl ⟨by kernel_rfl, fun W hS => by go_simp⟩) hS ?_
  try simp only [Act.put, List.setIfInBounds_toArray, List.set_cons_zero, List.set_cons_succ]
  refine anyH_at (i := 6) (v := .int .i64 ge) 32 rfl (by kernel_rfl) (by kernel_rfl) (by kernel_rfl) (by kernel_rfl) (fun _ _ _ h => h) (Or.inl ⟨by kernel_rfl, fun W hS => by go_simp⟩) hS ?_
  try simp only [Act.put, List.setIfInBounds_toArray, List.set_cons_zero, List.set_cons_succ]
  refine anyH_at (i := 7) (v := .bool true) 33 rfl (by kernel_rfl) (by kernel_rfl) (by kernel_rfl) (by kernel_rfl) (fun _ _ _ h => h) (Or.inl ⟨by kernel_rfl, fun W hS => by go_simp⟩) hS ?_
  try simp only [Act.put, List.setIfInBounds_toArray, List.set_cons_zero, List.set_cons_succ]
  refine anyH_at (i := 8) (v := .bool true) 34 rfl (by kernel_rfl) (by kernel_rfl) (by kernel_rfl) (by kernel_rfl) (fun _ _ _ h => h) (Or.inl ⟨by kernel_rfl, fun W hS => by go_simp⟩) hS ?_
  try simp only [Act.put, List.setIfInBounds_toArray, List.set_cons_zero, List.set_cons_succ]
  refine anyH_at (i := 9) (v := .bool true) 35 rfl (by kernel_rfl) (by kernel_rfl) (by kernel_rfl) (by kernel_rfl) (fun _ _ _ h => h) (Or.inl ⟨by kernel_rfl, fun W hS => by go_simp⟩) hS ?_
  try simp only [Act.put, List.setIfInBounds_toArray, List.set_cons_zero, List.set_cons_succ]
  refine anyH_at (i := 10) (v := .slice av n cv) 36 rfl (by kernel_rfl) (by kernel_rfl) (by kernel_rfl) (by kernel_rfl) (fun _ _ _ h => h) (Or.inl ⟨by kernel_rfl, fun W hS => by go_simp⟩) hS ?_
  try simp only [Act.put, List.setIfInBounds_toArray, List.set_cons_zero, List.set_cons_succ]
  refine anyH_at (i := 11) (v := .slice x n cap) 37 rfl (by kernel_rfl) (by kernel_rfl) (by kernel_rfl) (by kernel_rfl) (fun _ _ _ h => h) (Or.inl ⟨by kernel_rfl, fun W hS => by go_simp⟩) hS ?_
  try simp only [Act.put, List.setIfInBounds_toArray, List.set_cons_zero, List.set_cons_succ]
  refine wpAnyH_all (rs := [12]) (by kernel_rfl) (by simp) (AllReadyH.cons (i := 12) rfl (fun KK hK => ?_) AllReadyH.nil)
  rw [if_pos (by kernel_rfl)]
  have hS0 := hide hS
  clear hS
  go_wp2_with fail
  refine (beq_to _ _ xs _ (unhide HV) (unhide HR)).mono ?_
  rintro e w10 ⟨rfl, hb⟩
  replace HR := hide ((show RowG _ _ _ _ from unhide HR).keep hb)
  replace HV := hide ((show RowG _ _ _ _ from unhide HV).keep hb)
  replace HU := hide ((show RowG _ _ _ _ from unhide HU).keep hb)
  replace HX := hide ((show Blk _ _ _ _ from unhide HX).keep hb)
  replace HY := hide ((show RowG _ _ _ _ from unhide HY).keep hb)
  replace HZ := hide ((show Blk _ _ _ _ from unhide HZ).keep hb)
  replace HT := hide ((show RowG _ _ _ _ from unhide HT).keep hb)
  replace HB := hide (below_via (unhide HB) hb)
  have hS1 := hide (below_via (unhide hS0) hb)
  clear hS0 hb
  go_wp2_with fail
  refine hK.out _ _ (unhide hS1) (fun hS => ?_)
  clear hK hS1
  try simp only [Act.put, List.setIfInBounds_toArray, List.set_cons_zero, List.set_cons_succ]
  refine anyH_at (i := 13) (v := .bool true) 39 rfl (by kernel_rfl) (by kernel_rfl) (by kernel_rfl) (by kernel_rfl) (fun _ _ _ h => h) (Or.inl ⟨by kernel_rfl, fun W hS => by go_simp⟩) hS ?_
  try simp only [Act.put, List.setIfInBounds_toArray, List.set_cons_zero, List.set_cons_succ]
  refine anyH_at (i := 14) (v := .bool true) 2 rfl (by kernel_rfl) (by kernel_rfl) (by kernel_rfl) (by kernel_rfl) (fun _ _ _ h => h) (Or.inl ⟨by kernel_rfl, fun W hS => by go_simp⟩) hS ?_
  try simp only [Act.put, List.setIfInBounds_toArray, List.set_cons_zero, List.set_cons_succ]
  refine wpAnyH_done (by kernel_rfl) ?_ _
  clear hS
  refine noPanic_out ?_
  clear HXV
  clear HZV
  go_wp2_with fail
  go_ret
  exact ⟨rfl, unhide HB⟩
theorem walk (x : Option Addr) (n cap : Nat) (xs : List Nat) (w : World) (h : RowG 1 w (.slice x n cap) (bys xs)) (hb : Bytes xs) : Calls Try.prog 4 #[.slice x n cap] w fun e w' => e = .returned (.bool true) ∧ Below w.heap.size w w' := by
  have hl := rowB_len h
  by_cases h1 : 3000 < n
  · exact s_long x n cap (decide_eq_true (by omega)) w
  · exact s_ok x n cap xs (decide_eq_false (by omega)) w (hide h) (hide hb) (hide hl.symm) (hide (by simp; omega)) (hide (getL_len xs hb))
theorem own : ownKnob Try.prog.godebug = none := by kernel_rfl
theorem laidOut : laidOutB Try.prog = true := by kernel_rfl
set_option linter.unusedVariables false in
set_option maxRecDepth 100000 in
theorem lifted (os : Os) (started : os.Started) (H : Type) (enc : TypeId × Value → H) :
    ReturnsInHanded {} Try.checked os 4 .any (Rows.batchGetsSpec.pre6 enc Try.prog Try.f4 Rows.batchGetsRow.domain false) (Rows.batchGetsSpec.post enc Try.prog Try.f4 false true false false) := by
  refine returnsInHanded_of_change (C := Try.checked) own started (by kernel_rfl) Try.func4
    (ChangeSpec.witness6 (enc := enc) (C := Try.checked) false ⟨#[], #[.slice none 0 0], []⟩ 8 (by kernel_rfl) (by kernel_rfl) (by kernel_rfl) (by kernel_rfl)) ?_
  intro W base args ds gs before hval0 hW hcnd _
  have hval : ∀ (j : Nat) t v, Try.f4.params[j]? = some t → args[j]? = some v → Value.okWide Try.prog W .any base t v := hval0
  have hW' := hW
  obtain ⟨p, q, hA0, hV, rfl, hfz, hnd⟩ := hW
  have hA : DataW.TrodAll enc Try.prog W 0 (fun _ => true) true Try.f4.params.toList args.toList ds p := hA0
  rw [Try.params4] at hA hval
  obtain ⟨v0, vs0, d0, ds0, p0, q0, hargs, rfl, rfl, h0, r0⟩ := trodAll_cons hA
  obtain ⟨rfl, rfl, rfl⟩ := trodAll_nil r0
  obtain rfl : args = #[v0] := by cases args; simp_all
  obtain ⟨rfl, rfl⟩ := trodVars_none hV
  have k0 := h0
  have lt0 : ∀ x ∈ p0, x.block < W.heap.size := by obtain ⟨m, hm⟩ := k0; exact DataW.trod_lt m _ _ _ hm
  obtain ⟨a0, len0, cap0, rfl⟩ := okWide_slice Try.underlying25 (hval 0 25 v0 rfl rfl)
  obtain ⟨l0, hr0, ii0⟩ : ∃ l : List Nat, RowG 1 W (.slice a0 len0 cap0) (bys l) ∧ Bytes l := by
    obtain ⟨fuel, hf⟩ := h0
    exact bys_open hf
  clear hA0 hval0
  refine (walk a0 len0 cap0 l0 W hr0 ii0).mono fun e W' ⟨he, bel⟩ => ?_
  subst he
  exact ⟨_, rfl, _, _, _, [], _, [], hW', trodAll_mk1 (shut_bool Try.underlying4 _), (trodAll_cons_mk (Below.trod laidOut (by kernel_rfl) (of_decide_eq_true (by kernel_rfl)) k0 bel lt0) trodAll_mk0), rfl, bel.frame _, fun h => by cases h⟩
theorem over : Rows.batchGetsRow.holds Try.pinned (OpenSpec.ofChange Rows.batchGetsSpec) :=
  OpenClaim.holds_of_wide 4 Try.f4 rfl rfl rfl rfl rfl rfl rfl ⟨rfl, rfl, rfl, rfl, rfl⟩ rfl rfl rfl rfl rfl (by kernel_rfl) Try.func4 (by kernel_rfl)
    (of_decide_eq_true (by kernel_rfl)) (by unfold Func.isWrapper; first | (rw [if_pos (by decide +kernel)]; kernel_rfl) | (rw [if_neg (by decide +kernel)]; exact ⟨rfl, rfl⟩))
    (fun os started H enc _ => lifted os started H enc)
theorem proved : Rows.BatchGetsSaid := over
end Go.Proofs.Ytfahgphkceilkaa.batchGets
namespace Go.Proofs.Ytfahgphkceilkaa
theorem batchGets_holds : Rows.BatchGetsSaid := batchGets.proved
end Go.Proofs.Ytfahgphkceilkaa
