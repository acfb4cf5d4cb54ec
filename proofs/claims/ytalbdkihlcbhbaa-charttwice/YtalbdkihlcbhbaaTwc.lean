/- Proved here: ChartTwice: what is posted may be; its negative is nothing with it. No condition. -/
import Derived.Test.YtalbdkihlcbhbaaAl
import Derived.Test.YtalbdkihlcbhbaaAr
import Derived.Test.YtalbdkihlcbhbaaNt
namespace Go.Proofs.Ytalbdkihlcbhbaa.chartTwice
open Go.ChangeShapes Go.WideShapes Go.ChangeAt Go.RowKit
set_option linter.unusedVariables false
set_option linter.unusedSimpArgs false
theorem kind_ex {k : Int} (h : accB k = true) : ∃ j : Nat, j < 7 ∧ k = (j : Int) + 1 := by
  unfold accB at h
  simp at h
  exact ⟨(k - 1).toNat, by omega, by omega⟩
theorem pA_acc {k : Int} (h : accB k = true) : accB (pA k) = true ∧ accB (pB k) = true := by
  obtain ⟨j, hj, rfl⟩ := kind_ex h
  match j, hj with
  | 0, _ => decide
  | 1, _ => decide
  | 2, _ => decide
  | 3, _ => decide
  | 4, _ => decide
  | 5, _ => decide
  | 6, _ => decide
theorem post_ok {k n : Int} (h : postE k n = 0) : accB k = true ∧ -1125899906842624 ≤ n ∧ n ≤ 1125899906842624 := by
  unfold postE at h
  split at h
  · next h1 => have := pM_bd k; exact ⟨h1.1, by omega, by omega⟩
  · cases h
theorem post_or (k n : Int) : postE k n = 0 ∨ postE k n = 2 := by
  unfold postE
  split
  · exact .inl rfl
  · exact .inr rfl
theorem chk_two {p q n : Int} (hp : accB p = true) (hq : accB q = true) (h0 : ¬ n = 0) (h1 : -1125899906842624 ≤ n) (h2 : n ≤ 1125899906842624) : chkE [(p, n), (q, -n)] = 0 := by
  unfold chkE
  rw [if_neg (by simp)]
  rw [if_pos]
  refine ⟨?_, by simp, by simp [tot, Mn.total]; omega⟩
  simp only [List.all_cons, List.all_nil, Bool.and_true]
  rw [line_yes hp h0 (by omega) (by omega), line_yes hq (by omega) (by omega) (by omega)]
  rfl
theorem sum_four (p q n a : Int) : sumA ([(p, n), (q, -n)] ++ [(p, -n), (q, - -n)]) a = 0 := by
  unfold sumA am
  by_cases h1 : p = a
  · by_cases h2 : q = a
    · simp [h1, h2, Mn.total]; omega
    · simp [h1, h2, Mn.total]; omega
  · by_cases h2 : q = a
    · simp [h1, h2, Mn.total]; omega
    · simp [h1, h2, Mn.total]
theorem none_T {l : List Li} (h : ∀ a, sumA l a = 0) : ∀ j, netT l j = [] ∧ okT l j = true
  | 0 => ⟨rfl, rfl⟩
  | j + 1 => by
    obtain ⟨h1, h2⟩ := none_T h j
    have e := h ((j : Int) + 1)
    exact ⟨by rw [netT_zero e, h1], okT_next h2 (by rw [e]; exact turn_in ⟨by decide, by decide⟩)⟩
theorem net_none {l : List Li} (h : ∀ a, sumA l a = 0) (ha : accAll l = true) : netE l = 0 ∧ netL l = [] := by
  have hE : netE l = 0 := by unfold netE; rw [if_pos ha, if_pos (none_T h 7).2]
  exact ⟨hE, by unfold netL; rw [if_pos hE, (none_T h 7).1]⟩
theorem acc_four {p q n : Int} (hp : accB p = true) (hq : accB q = true) : accAll ([(p, n), (q, -n)] ++ [(p, -n), (q, - -n)]) = true := by
  unfold accAll
  simp [hp, hq]
theorem row_nil {m : Nat} {w : World} {v : Value} (h : RowG m w v []) : ∃ a c, v = .slice a 0 c := rowG_slice h
set_option maxHeartbeats 2000000 in
theorem s_bad (k n : Int) (i : In64 n) (w : World) (HE : Hid (postE k n = 2)) (HL : Hid (postL k n = [])) : Calls Try.prog 5 #[.int .i64 k, .int .i64 n] w fun e w' => e = .returned (.bool true) ∧ Below w.heap.size w w' := by
  go_enter Try.func5, Try.ntmps5
  go_wp2_with fail
  refine (alive_any _).mono ?_
  rintro e w1 ⟨rfl, hb⟩
  have HB := hide hb
  clear hb
  go_wp2_with fail
  refine (post_any k n i _).mono ?_
  rw [unhide HE]
  rintro e w2 ⟨v, rfl, hG⟩
  rw [unhide HL] at hG
  replace HB := hide (below_via (unhide HB) hG.below)
  obtain ⟨a, c, rfl⟩ := row_nil hG.row
  clear hG HE HL
  go_wp2_with fail
  go_ret
  exact ⟨rfl, unhide HB⟩
set_option maxHeartbeats 2000000 in
theorem s_zero (k n : Int) (i : In64 n) (hn : n = 0) (w : World) (HE : Hid (postE k n = 0)) (HL : Hid (postL k n = [])) : Calls Try.prog 5 #[.int .i64 k, .int .i64 n] w fun e w' => e = .returned (.bool true) ∧ Below w.heap.size w w' := by
  have d0 : (n == 0) = true := by simp [hn]
  clear hn
  go_enter Try.func5, Try.ntmps5
  go_wp2_with fail
  refine (alive_any _).mono ?_
  rintro e w1 ⟨rfl, hb⟩
  have HB := hide hb
  clear hb
  go_wp2_with fail
  refine (post_any k n i _).mono ?_
  rw [unhide HE]
  rintro e w2 ⟨v, rfl, hG⟩
  rw [unhide HL] at hG
  replace HB := hide (below_via (unhide HB) hG.below)
  obtain ⟨a, c, rfl⟩ := row_nil hG.row
  clear hG HE HL
  go_wp2_with fail
  go_ret
  exact ⟨rfl, unhide HB⟩
set_option maxHeartbeats 4000000 in
theorem s_two (k n p q E : Int) (L : List Li) (i : In64 n) (d0 : (n == 0) = false) (hneg : IntKind.i64.wrap (-n) = -n) (i' : In64 (-n)) (w : World) (HE : Hid (postE k n = 0)) (HL : Hid (postL k n = [(p, n), (q, -n)])) (HE2 : Hid (postE k (-n) = E)) (HL2 : Hid (postL k (-n) = L)) (HC : Hid (chkE [(p, n), (q, -n)] = 0))
    (HO : Hid (E = 2 ∨ E = 0 ∧ L = [(p, -n), (q, - -n)])) (HN : Hid (netE ([(p, n), (q, -n)] ++ [(p, -n), (q, - -n)]) = 0 ∧ netL ([(p, n), (q, -n)] ++ [(p, -n), (q, - -n)]) = [])) : Calls Try.prog 5 #[.int .i64 k, .int .i64 n] w fun e w' => e = .returned (.bool true) ∧ Below w.heap.size w w' := by
  go_enter Try.func5, Try.ntmps5
  go_wp2_with fail
  refine (alive_any _).mono ?_
  rintro e w1 ⟨rfl, hb⟩
  have HB := hide hb
  clear hb
  go_wp2_with fail
  have HB1 := HB
  refine (post_any k n i _).mono ?_
  rw [unhide HE]
  rintro e w2 ⟨v, rfl, hG⟩
  rw [unhide HL] at hG
  replace HB := hide (below_via (unhide HB) hG.below)
  clear HE HL
  have i3 := i.lo
  have i4 := i.hi
  have i5 := i'.lo
  have i6 := i'.hi
  have HG := hide hG
  have HR := hide hG.row
  obtain ⟨b, off, c, e, _, _⟩ := hG.row.open (by simp)
  clear hG
  have e' : v = .slice (some ⟨b, off, none⟩) 2 c := e
  clear e
  subst e'
  go_wp2_with fail
  refine (post_any k (-n) i' _).mono ?_
  rw [unhide HE2]
  rintro e w3 ⟨u, rfl, hM⟩
  rw [unhide HL2] at hM
  replace HB := hide (below_via (unhide HB) hM.below)
  replace HR := hide ((show RowG _ _ _ _ from unhide HR).keep hM.below)
  replace HG := hide ((show GrowG _ _ _ _ _ _ from unhide HG).keep hM.below)
  have HM := hide hM.row
  clear hM HE2 HL2
  go_wp2_with fail
  refine (chk_any _ _ _ (unhide HR)).mono ?_
  rw [unhide HC]
  rintro e w4 ⟨rfl, hb⟩
  replace HB := hide (below_via (unhide HB) hb)
  replace HR := hide ((show RowG _ _ _ _ from unhide HR).keep hb)
  replace HG := hide ((show GrowG _ _ _ _ _ _ from unhide HG).keep hb)
  replace HM := hide ((show RowG _ _ _ _ from unhide HM).keep hb)
  clear hb HC
  have m := (RowG.li (l := [(p, n), (q, -n)]) (unhide HR) (k := 0) (by simp)).2
  have m1 : w4.cell? ⟨b, off + 1, none⟩ = some (.int .i64 n) := by simpa using m
  clear m
  have dn : (n != n) = false := by simp
  rcases unhide HO with rfl | ⟨rfl, rfl⟩
  · clear HR HG HM HO HN
    go_wp2_with fail
    go_ret
    exact ⟨rfl, unhide HB⟩
  · obtain ⟨b2, off2, c2, e, _, _⟩ := (show RowG _ _ _ _ from unhide HM).open (by simp)
    have e' : u = .slice (some ⟨b2, off2, none⟩) 2 c2 := e
    clear e
    subst e'
    have HCe := hide (row_cells (show RowG 2 _ _ _ from unhide HM) (by decide))
    have HF := hide (show RowG 2 _ _ _ from unhide HM).fit
    have HIn : Hid (AllIn ([(p, n), (q, -n)] ++ [(p, -n), (q, - -n)])) := hide (fun x hx => by simp at hx; rcases hx with rfl | rfl | rfl | rfl <;> first | exact i | exact i' )
    have HLen : Hid ((([(p, n), (q, -n)] : List Li).map liL).length + (([(p, -n), (q, - -n)] : List Li).map liL).length ≤ 1000000) := hide (by simp)
    have HL0 : Hid (0 < (([(p, -n), (q, - -n)] : List Li).map liL).length) := hide (by simp)
    clear HR HM HO
    generalize hZ : ([(p, n), (q, -n)] : List Li) = Z at *
    generalize hY : ([(p, -n), (q, - -n)] : List Li) = Y at *
    have hyl : Hid (2 = (Y.map liL).length) := hide (by rw [← hY]; rfl)
    have HLn : Hid ((Z ++ Y).length ≤ 1000) := hide (by rw [← hZ, ← hY]; simp)
    clear hZ hY
    go_wp2_with (at_builtin; refine pushG_law (ad := ⟨b2, off2, none⟩) (c := c2) (n := 2) 44 25 2 16 (.agg #[.int .i64 0, .int .i64 0]) (by decide) (by decide) rfl Try.underlying25 info44 rfl _ _ rfl w1 _ _ (Z.map liL) (Y.map liL) (unhide HG) rfl (unhide hyl) (unhide HL0) rfl (unhide HCe) (unhide HF) (unhide HLen) ?_)
    intro v' w5 hG5 hgr
    have HB5 : Hid (Below w.heap.size w w5) := hide (below_via (unhide HB1) hG5.below)
    have HR : Hid (RowG 2 w5 v' ((Z ++ Y).map liL)) := hide (by rw [List.map_append]; exact hG5.row)
    clear hG5 hgr HG HCe HF HLen HL0 hyl
    go_wp2_with fail
    refine (net_any _ _ _ (unhide HR) (unhide HLn) (unhide HIn)).mono ?_
    rw [(unhide HN).1]
    rintro e w6 ⟨z, rfl, hG⟩
    rw [(unhide HN).2] at hG
    have HB := hide (below_via (unhide HB5) hG.below)
    obtain ⟨a, c, rfl⟩ := row_nil hG.row
    clear hG HR HN HIn HLn HB5
    go_wp2_with fail
    go_ret
    exact ⟨rfl, unhide HB⟩
theorem walk (k n : Int) (w : World) (ik : In64 k) (i : In64 n) : Calls Try.prog 5 #[.int .i64 k, .int .i64 n] w fun e w' => e = .returned (.bool true) ∧ Below w.heap.size w w' := by
  rcases post_or k n with hE | hE
  · obtain ⟨hk, h1, h2⟩ := post_ok hE
    by_cases h0 : n = 0
    · have hL : postL k n = [] := by unfold postL; rw [if_neg (fun h => h.2 h0)]
      exact s_zero k n i h0 w (hide hE) (hide hL)
    · have hL : postL k n = [(pA k, n), (pB k, -n)] := by unfold postL; rw [if_pos ⟨hE, h0⟩]
      have i' : In64 (-n) := ⟨by omega, by omega⟩
      obtain ⟨hp, hq⟩ := pA_acc hk
      refine s_two k n (pA k) (pB k) _ _ i (by simpa using h0) (wrap_in' i') i' w (hide hE) (hide hL) (hide rfl) (hide rfl) (hide (chk_two hp hq h0 h1 h2)) (hide ?_) (hide (net_none (fun a => sum_four _ _ _ a) (acc_four hp hq)))
      rcases post_or k (-n) with h3 | h3
      · exact .inr ⟨h3, by unfold postL; rw [if_pos ⟨h3, by omega⟩]⟩
      · exact .inl h3
  · have hL : postL k n = [] := by unfold postL; rw [hE]; rfl
    exact s_bad k n i w (hide hE) (hide hL)
theorem own : ownKnob Try.prog.godebug = none := by kernel_rfl
theorem laidOut : laidOutB Try.prog = true := by kernel_rfl
set_option linter.unusedVariables false in
set_option maxRecDepth 100000 in
theorem lifted (os : Os) (started : os.Started) (H : Type) (enc : TypeId × Value → H) :
    ReturnsInHanded {} Try.checked os 5 .any (Rows.chartTwiceSpec.pre6 enc Try.prog Try.f5 Rows.chartTwiceRow.domain false) (Rows.chartTwiceSpec.post enc Try.prog Try.f5 false true false false) := by
  refine returnsInHanded_of_change (C := Try.checked) own started (by kernel_rfl) Try.func5
    (ChangeSpec.witness6 (enc := enc) (C := Try.checked) false ⟨#[], #[.int .i64 0, .int .i64 0], []⟩ 8 (by kernel_rfl) (by kernel_rfl) (by kernel_rfl) (by kernel_rfl)) ?_
  intro W base args ds gs before hval0 hW hcnd _
  have hval : ∀ (j : Nat) t v, Try.f5.params[j]? = some t → args[j]? = some v → Value.okWide Try.prog W .any base t v := hval0
  have hW' := hW
  obtain ⟨p, q, hA0, hV, rfl, hfz, hnd⟩ := hW
  have hA : DataW.TrodAll enc Try.prog W 0 (fun _ => true) true Try.f5.params.toList args.toList ds p := hA0
  rw [Try.params5] at hA hval
  obtain ⟨v0, vs0, d0, ds0, p0, q0, hargs, rfl, rfl, h0, r0⟩ := trodAll_cons hA
  obtain ⟨v1, vs1, d1, ds1, p1, q1, rfl, rfl, rfl, h1, r1⟩ := trodAll_cons r0
  obtain ⟨rfl, rfl, rfl⟩ := trodAll_nil r1
  obtain rfl : args = #[v0, v1] := by cases args; simp_all
  obtain ⟨rfl, rfl⟩ := trodVars_none hV
  have k0 := h0
  have lt0 : ∀ x ∈ p0, x.block < W.heap.size := by obtain ⟨m, hm⟩ := k0; exact DataW.trod_lt m _ _ _ hm
  obtain ⟨n0, rfl, i0⟩ : ∃ n : Int, v0 = .int .i64 n ∧ In64 n := by
    obtain ⟨n, rfl⟩ := okWide_int Try.underlying3 (hval 0 3 v0 rfl rfl)
    obtain ⟨m, hm⟩ := h0
    obtain ⟨z, e, _, w⟩ := DataW.trod_int Try.underlying3 (by simpa [Value.cells] using hm)
    simp at e
    subst e
    exact ⟨_, rfl, in64_of w⟩
  have k1 := h1
  have lt1 : ∀ x ∈ p1, x.block < W.heap.size := by obtain ⟨m, hm⟩ := k1; exact DataW.trod_lt m _ _ _ hm
  obtain ⟨n1, rfl, i1⟩ : ∃ n : Int, v1 = .int .i64 n ∧ In64 n := by
    obtain ⟨n, rfl⟩ := okWide_int Try.underlying2 (hval 1 2 v1 rfl rfl)
    obtain ⟨m, hm⟩ := h1
    obtain ⟨z, e, _, w⟩ := DataW.trod_int Try.underlying2 (by simpa [Value.cells] using hm)
    simp at e
    subst e
    exact ⟨_, rfl, in64_of w⟩
  clear hA0 hval0
  refine (walk n0 n1 W i0 i1).mono fun e W' ⟨he, bel⟩ => ?_
  subst he
  exact ⟨_, rfl, _, _, _, [], _, [], hW', trodAll_mk1 (shut_bool Try.underlying4 _), (trodAll_cons_mk (Below.trod laidOut (by kernel_rfl) (of_decide_eq_true (by kernel_rfl)) k0 bel lt0) (trodAll_cons_mk (Below.trod laidOut (by kernel_rfl) (of_decide_eq_true (by kernel_rfl)) k1 bel lt1) trodAll_mk0)), rfl, bel.frame _, fun h => by cases h⟩
theorem over : Rows.chartTwiceRow.holds Try.pinned (OpenSpec.ofChange Rows.chartTwiceSpec) :=
  OpenClaim.holds_of_wide 5 Try.f5 rfl rfl rfl rfl rfl rfl rfl ⟨rfl, rfl, rfl, rfl, rfl⟩ rfl rfl rfl rfl rfl (by kernel_rfl) Try.func5 (by kernel_rfl)
    (of_decide_eq_true (by kernel_rfl)) (by unfold Func.isWrapper; first | (rw [if_pos (by decide +kernel)]; kernel_rfl) | (rw [if_neg (by decide +kernel)]; exact ⟨rfl, rfl⟩))
    (fun os started H enc _ => lifted os started H enc)
theorem proved : Rows.ChartTwiceSaid := over
end Go.Proofs.Ytalbdkihlcbhbaa.chartTwice
namespace Go.Proofs.Ytalbdkihlcbhbaa
theorem chartTwice_holds : Rows.ChartTwiceSaid := chartTwice.proved
end Go.Proofs.Ytalbdkihlcbhbaa
