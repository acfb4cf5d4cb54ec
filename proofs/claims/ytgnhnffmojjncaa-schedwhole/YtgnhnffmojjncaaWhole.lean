/- Proved here: SchedWhole: at any terms nothing is left at the end; all Principals are the Principal; what is paid is that and all interest; each row follows from the one ahead. No condition. -/
import Derived.Test.YtgnhnffmojjncaaSRes
import Derived.ProofKit
import Derived.OpenShut
import Derived.ShutString
import Derived.ChangeOld
import Derived.Below
namespace Go.Proofs.Ytgnhnffmojjncaa.Mn.schedWhole
open Go.ChangeShapes Go.WideShapes Go.ChangeAt Go.RowKit
set_option linter.unusedSimpArgs false
theorem w_great (kd P : Int) (a : Option Addr) (len cap : Nat) (n : Int) (hal : Hid Alive) (HG : Hid (∀ w : World, Calls Try.prog 10 #[.agg #[.int .i64 kd, .int .i64 P, .slice a len cap, .int .i64 n]] w fun e w' => e = .returned (.bool true) ∧ Below w.heap.size w w')) (w : World) : Calls Try.prog 5 #[.agg #[.int .i64 kd, .int .i64 P, .slice a len cap, .int .i64 n]] w fun e w' => e = .returned (.bool true) ∧ Below w.heap.size w w' := by
  unfold Alive at hal
  have HT := hide (Tm.new w 24 kd P (.slice a len cap) n)
  have HB := hide (below1 w (.cells #[.int .i64 kd, .int .i64 P, .slice a len cap, .int .i64 n] 24))
  go_enter Try.func5, Try.ntmps5
  go_wp2_with fail
  refine (unhide hal _).mono ?_
  rintro e1 w1 ⟨rfl, hb⟩
  replace HT := hide ((unhide HT).keep hb)
  replace HB := hide (below_via (unhide HB) hb)
  clear hb
  have c0 := (unhide HT).c0
  have c1 := (unhide HT).c1
  have c2 := (unhide HT).c2
  have c3 := (unhide HT).c3
  go_wp2_with fail
  refine (unhide HG w1).mono ?_
  rintro e1 w2 ⟨rfl, hb⟩
  replace HT := hide ((unhide HT).keep hb)
  replace HB := hide (below_via (unhide HB) hb)
  clear hb HG c0 c1 c2 c3
  go_wp2_with fail
  go_ret
  exact ⟨rfl, unhide HB⟩
theorem w_err (kd P : Int) (a : Option Addr) (len cap : Nat) (n : Int) (rs : List Int) (e : Int) (he : (e != 0) = true) (hal : Hid Alive) (HG : Hid (∀ w : World, Calls Try.prog 10 #[.agg #[.int .i64 kd, .int .i64 P, .slice a len cap, .int .i64 n]] w fun e w' => e = .returned (.bool false) ∧ Below w.heap.size w w')) (w : World) (HR : Hid (Row w (.slice a len cap) rs)) (HBd : Hid (∀ W : World, Row W (.slice a len cap) rs → BuildA 11 W kd P (.slice a len cap) n [] e)) : Calls Try.prog 5 #[.agg #[.int .i64 kd, .int .i64 P, .slice a len cap, .int .i64 n]] w fun e w' => e = .returned (.bool true) ∧ Below w.heap.size w w' := by
  unfold BuildA at HBd
  unfold Alive at hal
  have HT := hide (Tm.new w 24 kd P (.slice a len cap) n)
  have HB := hide (below1 w (.cells #[.int .i64 kd, .int .i64 P, .slice a len cap, .int .i64 n] 24))
  go_enter Try.func5, Try.ntmps5
  go_wp2_with fail
  refine (unhide hal _).mono ?_
  rintro e1 w1 ⟨rfl, hb⟩
  replace HT := hide ((unhide HT).keep hb)
  replace HB := hide (below_via (unhide HB) hb)
  clear hb
  have c0 := (unhide HT).c0
  have c1 := (unhide HT).c1
  have c2 := (unhide HT).c2
  have c3 := (unhide HT).c3
  go_wp2_with fail
  refine (unhide HG w1).mono ?_
  rintro e1 w2 ⟨rfl, hb⟩
  replace HT := hide ((unhide HT).keep hb)
  replace HB := hide (below_via (unhide HB) hb)
  clear hb HG c0 c1 c2 c3
  have c0 := (unhide HT).c0
  have c1 := (unhide HT).c1
  have c2 := (unhide HT).c2
  have c3 := (unhide HT).c3
  go_wp2_with fail
  refine (unhide HBd w2 ((unhide HR).below (unhide HB) (Nat.le_refl _))).mono ?_
  rintro e1 w3 ⟨u, rfl, hu, hb⟩
  replace HT := hide ((unhide HT).keep hb)
  replace HB := hide (below_via (unhide HB) hb)
  have HU := hide hu
  clear hb hu HBd c0 c1 c2 c3
  obtain ⟨ua, uc, rfl⟩ := rowN_slice (unhide HU)
  go_wp2_with fail
  go_ret
  exact ⟨rfl, unhide HB⟩
set_option maxRecDepth 20000 in
set_option maxHeartbeats 4000000 in
theorem w_main (kd P : Int) (ab ao len cap n : Nat) (rs : List Int) (hT : TermsOk kd P rs n) (hl : rs.length = len) (ho : ∀ j, j < n → ¬ over qI (loanOf kd P rs n) j) (n1 : n ≤ 60) (hal : Hid Alive) (HG : Hid (∀ w : World, Calls Try.prog 10 #[.agg #[.int .i64 kd, .int .i64 P, .slice (some ⟨ab, ao, none⟩) len cap, .int .i64 n]] w fun e w' => e = .returned (.bool false) ∧ Below w.heap.size w w')) (w : World) (HR : Hid (Row w (.slice (some ⟨ab, ao, none⟩) len cap) rs)) (HBd : Hid (∀ W : World, Row W (.slice (some ⟨ab, ao, none⟩) len cap) rs → BuildA 11 W kd P (.slice (some ⟨ab, ao, none⟩) len cap) n (rowsUp (loanOf kd P rs n) n) 0)) : Calls Try.prog 5 #[.agg #[.int .i64 kd, .int .i64 P, .slice (some ⟨ab, ao, none⟩) len cap, .int .i64 n]] w fun e w' => e = .returned (.bool true) ∧ Below w.heap.size w w' := by
  have HTm := hide hT
  have HO := hide ho
  have n0 := hT.n0
  have p0 := hT.p0
  have p1 := hT.p1
  have l0 : 0 < len := by rw [← hl]; exact hT.r0
  have l1 : len ≤ n := by rw [← hl]; exact hT.r1
  have HL := hide hl
  clear hT ho hl
  unfold BuildA at HBd
  unfold Alive at hal
  have HT := hide (Tm.new w 24 kd P (.slice (some ⟨ab, ao, none⟩) len cap) n)
  have HB := hide (below1 w (.cells #[.int .i64 kd, .int .i64 P, .slice (some ⟨ab, ao, none⟩) len cap, .int .i64 n] 24))
  go_enter Try.func5, Try.ntmps5
  go_wp2_with fail
  refine (unhide hal _).mono ?_
  rintro e1 w1 ⟨rfl, hb⟩
  replace HT := hide ((unhide HT).keep hb)
  replace HB := hide (below_via (unhide HB) hb)
  clear hb
  have c0 := (unhide HT).c0
  have c1 := (unhide HT).c1
  have c2 := (unhide HT).c2
  have c3 := (unhide HT).c3
  go_wp2_with fail
  refine (unhide HG w1).mono ?_
  rintro e1 w2 ⟨rfl, hb⟩
  replace HT := hide ((unhide HT).keep hb)
  replace HB := hide (below_via (unhide HB) hb)
  clear hb HG c0 c1 c2 c3
  have c0 := (unhide HT).c0
  have c1 := (unhide HT).c1
  have c2 := (unhide HT).c2
  have c3 := (unhide HT).c3
  go_wp2_with fail
  refine (unhide HBd w2 ((unhide HR).below (unhide HB) (Nat.le_refl _))).mono ?_
  rintro e1 w3 ⟨u, rfl, hu, hb⟩
  replace HT := hide ((unhide HT).keep hb)
  replace HB := hide (below_via (unhide HB) hb)
  have HU := hide hu
  clear hb hu HBd c0 c1 c2 c3
  obtain ⟨ub, uo, uc, rfl, hu1, hu2⟩ := (unhide HU).open (by rw [rowsUp_len]; exact n0)
  rw [rowsUp_len] at HU hu1 ⊢
  replace HR := hide ((unhide HR).below (unhide HB) (Nat.le_refl _))
  have c1 := (unhide HT).c1
  go_wp2_with fail
  clear c1
  go_loopw [5, 6, 7, 8, 31] (fun l p s d i wr => ∃ (k : Nat) (x pp ss dd : Int), k ≤ n ∧ i = .int .i64 k ∧ l = .int .i64 x ∧ p = .int .i64 pp ∧ s = .int .i64 ss ∧ d = .int .i64 dd ∧ 0 ≤ x ∧ x ≤ 10000000000000 ∧ -10000000000000 ≤ pp ∧ pp ≤ 10000000000000 ∧ 0 ≤ ss ∧ ss ≤ 10000000000000 * (k : Int) ∧ -10000000000000 ≤ dd ∧ dd ≤ 10000000000000 * (k : Int) + 10000000000000 ∧ Hid (x = left qI (loanOf kd P rs n) k) ∧ Hid (pp = P - x) ∧ Hid (dd = pp + ss) ∧ Hid (Tm wr w.heap.size 24 kd P (.slice (some ⟨ab, ao, none⟩) len cap) n) ∧ Hid (RowN 4 wr (.slice (some ⟨ub, uo, none⟩) n uc) (rowsUp (loanOf kd P rs n) n)) ∧ Hid (Row wr (.slice (some ⟨ab, ao, none⟩) len cap) rs) ∧ Hid (Below w.heap.size w wr)) (fun _ _ _ _ i _ => n - (intOf i).toNat)
  case atStart => exact ⟨0, P, 0, 0, 0, by omega, rfl, rfl, rfl, rfl, rfl, by omega, by omega, by omega, by omega, by omega, by omega, by omega, by omega, hide rfl, hide (by omega), hide (by omega), HT, HU, HR, HB⟩
  case round =>
    clear HT HU HR HB
    obtain ⟨k, x, pp, ss, dd, hk, rfl, rfl, rfl, rfl, rfl, x0, x1, q1, q2, s1, s2, d1, d2, HX, HPP, HDD, HT, HU, HR, HB⟩ := hrel
    by_cases hlt : k < n
    · obtain ⟨x', A, B, C, D, f1, f2, f3, f4, f5, f6, f7, f8, f9, g1, g2, g3, g4, g5, g6, g7, g8⟩ := row_facts (unhide HTm).loan (n := n) rfl hlt (unhide HO)
      have exx : x' = x := by rw [unhide HX, f1]
      subst exx
      obtain ⟨r0, r1⟩ := bearB_bd ((unhide HTm).at k)
      have HI := hide (ask19 x0 (by omega) r0 r1)
      have er : (loanOf kd P rs n).rt k = rtAt rs k := rfl
      rw [er] at f3
      rw [← f3] at HI
      unfold Ans at HI
      have HD := hide f6
      obtain ⟨e0, e1, e2, e3⟩ := row_cells (unhide HU) hlt f2
      have HC := hide f4
      have HE := hide f5
      have t1 : (B != A + C) = false := by rw [f4]; simp
      have t2 : (D != x' - C) = false := by rw [f5]; simp
      have HU2 := hide ((unhide HU).alloc (.cells #[.int .i64 A, .int .i64 B, .int .i64 C, .int .i64 D] 43))
      have HT2 := hide ((unhide HT).alloc (.cells #[.int .i64 A, .int .i64 B, .int .i64 C, .int .i64 D] 43))
      have HR2 := hide ((unhide HR).alloc (.cells #[.int .i64 A, .int .i64 B, .int .i64 C, .int .i64 D] 43))
      have HB2 := hide ((unhide HB).alloc (unhide HB).size (.cells #[.int .i64 A, .int .i64 B, .int .i64 C, .int .i64 D] 43))
      have HRw := hide (show Rw (wr.alloc (.cells #[.int .i64 A, .int .i64 B, .int .i64 C, .int .i64 D] 43)) wr.heap.size A B C D from heap_alloc_new wr _)
      have c2 := (unhide HT).c2
      have hgl := (unhide HT).lt
      have k1 : (k : Int) < (n : Int) := by omega
      have HS1 : Hid (P - D = pp + C) := hide (by rw [f5, unhide HPP]; omega)
      have HS2 : Hid (dd + B = pp + C + (ss + A)) := hide (by rw [f4, unhide HDD]; omega)
      have gc1 : -10000000000000 ≤ C := by omega
      have gc2 : C ≤ 10000000000000 := by omega
      clear f1 f2 f3 f4 f5 f6 f7 f8 f9 er HX HPP HDD HU HR HT HB
      by_cases hm : k ≤ len - 1
      · have cr := row_cell (unhide HR2) (j := k) (by rw [unhide HL]; omega)
        rw [show rs.getD (k) 0 = rtAt rs k from by unfold rtAt; rw [unhide HL, Nat.min_eq_left hm]] at cr
        have m1 : (k : Int) ≤ (len : Int) - 1 := by omega
        have m2 : (k : Int) < (len : Int) := by omega
        generalize rtAt rs k = r at *
        go_wp2_with fail
        refine (unhide HI _).mono ?_
        rintro e1 w4 ⟨rfl, hb⟩
        replace HU2 := hide ((unhide HU2).keep hb)
        replace HT2 := hide ((unhide HT2).keep hb)
        replace HR2 := hide ((unhide HR2).below hb (Nat.le_refl _))
        replace HB2 := hide (below_via (unhide HB2) hb)
        replace HRw := hide (show Rw w4 wr.heap.size A B C D from (hb.block wr.heap.size (unhide HRw).lt).trans (unhide HRw))
        clear hb cr c2 e0 e1 e2 e3 HI
        have g0 := (unhide HRw).c0
        have g1' := (unhide HRw).c1
        have g2' := (unhide HRw).c2
        have g3' := (unhide HRw).c3
        go_wp2_with fail
        go_quiet (fail)
        go_wp2_with fail
        go_roundw
        case rel => exact ⟨k + 1, D, pp + C, ss + A, dd + B, by omega, by go_num, rfl, rfl, rfl, rfl, g7, g8, by have := unhide HS1; omega, by have := unhide HS1; omega, by omega, by omega, by have := unhide HC; omega, by have := unhide HC; omega, hide (unhide HD).symm, hide (unhide HS1).symm, HS2, hide ((unhide HT2).drewN _), hide ((unhide HU2).later (fun _ _ h => h)), hide ((unhide HR2).drewN _), hide (below_drewN (unhide HB2) _)⟩
        case measure => simp [intOf]; omega
      · have cr := row_cell (unhide HR2) (j := len - 1) (by rw [unhide HL]; omega)
        rw [show rs.getD (len - 1) 0 = rtAt rs k from by unfold rtAt; rw [unhide HL, Nat.min_eq_right (by omega)]] at cr
        have m1 : (len : Int) - 1 < (k : Int) := by omega
        have m2 : ((len : Int) - 1).toNat = len - 1 := by omega
        have m3 : (0 : Int) ≤ (len : Int) - 1 := by omega
        generalize rtAt rs k = r at *
        go_wp2_with fail
        refine (unhide HI _).mono ?_
        rintro e1 w4 ⟨rfl, hb⟩
        replace HU2 := hide ((unhide HU2).keep hb)
        replace HT2 := hide ((unhide HT2).keep hb)
        replace HR2 := hide ((unhide HR2).below hb (Nat.le_refl _))
        replace HB2 := hide (below_via (unhide HB2) hb)
        replace HRw := hide (show Rw w4 wr.heap.size A B C D from (hb.block wr.heap.size (unhide HRw).lt).trans (unhide HRw))
        clear hb cr c2 e0 e1 e2 e3 HI
        have g0 := (unhide HRw).c0
        have g1' := (unhide HRw).c1
        have g2' := (unhide HRw).c2
        have g3' := (unhide HRw).c3
        go_wp2_with fail
        go_quiet (fail)
        go_wp2_with fail
        go_roundw
        case rel => exact ⟨k + 1, D, pp + C, ss + A, dd + B, by omega, by go_num, rfl, rfl, rfl, rfl, g7, g8, by have := unhide HS1; omega, by have := unhide HS1; omega, by omega, by omega, by have := unhide HC; omega, by have := unhide HC; omega, hide (unhide HD).symm, hide (unhide HS1).symm, HS2, hide ((unhide HT2).drewN _), hide ((unhide HU2).later (fun _ _ h => h)), hide ((unhide HR2).drewN _), hide (below_drewN (unhide HB2) _)⟩
        case measure => simp [intOf]; omega
    · have ek : k = n := by omega
      subst ek
      have z1 : x = 0 := by rw [unhide HX]; exact left_end (L := loanOf kd P rs k) n0
      subst z1
      have z2 : pp = P := by rw [unhide HPP]; omega
      have HZ := hide z2
      have t3 : (pp == P) = true := by rw [z2]; simp
      have t4 : (dd == pp + ss) = true := by rw [unhide HDD]; simp
      have c1 := (unhide HT).c1
      have c3 := (unhide HT).c3
      clear z2
      go_wp2_with fail
      go_ret
      exact ⟨rfl, unhide HB⟩
theorem walk (kd P : Int) (a : Option Addr) (len cap : Nat) (n : Int) (rs : List Int) (w : World) (hR : Row w (.slice a len cap) rs) : Calls Try.prog 5 #[.agg #[.int .i64 kd, .int .i64 P, .slice a len cap, .int .i64 n]] w fun e w' => e = .returned (.bool true) ∧ Below w.heap.size w w' := by
  have hl : rs.length = len := by
    obtain ⟨x, c, h⟩ := row_slice hR
    cases h; rfl
  have hg := great_any kd P n a len cap
  cases hq : grB len n with
  | true =>
    rw [hq] at hg
    exact w_great kd P a len cap n (hide alive_any) (hide hg) w
  | false =>
    rw [hq] at hg
    have hn := grB_no hq
    obtain ⟨l, e, hr⟩ := res_ex kd P rs n
    by_cases he : e = 0
    · obtain ⟨m, rfl, hT, rfl, ho⟩ := hr.fine he
      subst he
      have := hT.n1
      obtain ⟨ab, ao, rfl⟩ : ∃ ab ao, a = some ⟨ab, ao, none⟩ := by
        rcases hR with ⟨x, c, h, h2⟩ | ⟨b, off, c, h, _⟩
        · have := hT.r0; rw [h2] at this; exact absurd this (by decide)
        · cases h; exact ⟨b, off, rfl⟩
      exact w_main kd P ab ao len cap m rs hT hl ho (by omega) (hide alive_any) (hide hg) w (hide hR) (hide (fun W h => build_any hr h))
    · have := hr.none he
      subst this
      exact w_err kd P a len cap n rs e (by rw [bne_iff_ne]; exact he) (hide alive_any) (hide hg) w (hide hR) (hide (fun W h => build_any hr h))
theorem own : ownKnob Try.prog.godebug = none := by kernel_rfl
theorem laidOut : laidOutB Try.prog = true := by kernel_rfl
set_option linter.unusedVariables false in
set_option maxRecDepth 100000 in
theorem lifted (os : Os) (started : os.Started) (H : Type) (enc : TypeId × Value → H) :
    ReturnsInHanded {} Try.checked os 5 .any (Rows.schedWholeSpec.pre6 enc Try.prog Try.f5 Rows.schedWholeRow.domain false) (Rows.schedWholeSpec.post enc Try.prog Try.f5 false true false false) := by
  refine returnsInHanded_of_change (C := Try.checked) own started (by kernel_rfl) Try.func5
    (ChangeSpec.witness6 (enc := enc) (C := Try.checked) false ⟨#[], #[.agg #[.int .i64 0, .int .i64 0, .slice none 0 0, .int .i64 0]], []⟩ 8 (by kernel_rfl) (by kernel_rfl) (by kernel_rfl) (by kernel_rfl)) ?_
  intro W base args ds gs before hval0 hW hcnd _
  have hval : ∀ (j : Nat) t v, Try.f5.params[j]? = some t → args[j]? = some v → Value.okWide Try.prog W .any base t v := hval0
  have hW' := hW
  obtain ⟨p, q, hA0, hV, rfl, hfz, hnd⟩ := hW
  have hA : DataW.TrodAll enc Try.prog W 0 (fun _ => true) true Try.f5.params.toList args.toList ds p := hA0
  rw [Try.params5] at hA hval
  obtain ⟨v0, vs0, d0, ds0, p0, q0, hargs, rfl, rfl, h0, r0⟩ := trodAll_cons hA
  obtain ⟨rfl, rfl, rfl⟩ := trodAll_nil r0
  obtain rfl : args = #[v0] := by cases args; simp_all
  obtain ⟨rfl, rfl⟩ := trodVars_none hV
  have k0 := h0
  have lt0 : ∀ x ∈ p0, x.block < W.heap.size := by obtain ⟨m, hm⟩ := k0; exact DataW.trod_lt m _ _ _ hm
  obtain ⟨kd0, pp0, a0, len0, cap0, n0, z0, rfl, _, _, _, w0, _, _⟩ := open_terms (E := 2) Try.underlying24 (by kernel_rfl) rfl rfl rfl rfl (by kernel_rfl) (by kernel_rfl) (by kernel_rfl) (by kernel_rfl) Try.underlying3 Try.underlying2 Try.underlying22 Try.underlying3 Try.underlying2 (by kernel_rfl) (hval 0 24 v0 rfl rfl) h0
  clear hA0 hval0
  refine (walk kd0 pp0 a0 len0 cap0 n0 z0 W w0).mono fun e W' ⟨he, bel⟩ => ?_
  subst he
  exact ⟨_, rfl, _, _, _, [], _, [], hW', trodAll_mk1 (shut_bool Try.underlying4 _), (trodAll_cons_mk (Below.trod laidOut (by kernel_rfl) (of_decide_eq_true (by kernel_rfl)) k0 bel lt0) trodAll_mk0), rfl, bel.frame _, fun h => by cases h⟩
theorem over : Rows.schedWholeRow.holds Try.pinned (OpenSpec.ofChange Rows.schedWholeSpec) :=
  OpenClaim.holds_of_wide 5 Try.f5 rfl rfl rfl rfl rfl rfl rfl ⟨rfl, rfl, rfl, rfl, rfl⟩ rfl rfl rfl rfl rfl (by kernel_rfl) Try.func5 (by kernel_rfl)
    (of_decide_eq_true (by kernel_rfl)) (by unfold Func.isWrapper; first | (rw [if_pos (by decide +kernel)]; kernel_rfl) | (rw [if_neg (by decide +kernel)]; exact ⟨rfl, rfl⟩))
    (fun os started H enc _ => lifted os started H enc)
/-- The statement. -/
theorem proved : Rows.SchedWholeSaid := over
#print axioms proved
end Go.Proofs.Ytgnhnffmojjncaa.Mn.schedWhole
namespace Go.Proofs.Ytgnhnffmojjncaa
theorem schedWhole_holds : Rows.SchedWholeSaid := Mn.schedWhole.proved
end Go.Proofs.Ytgnhnffmojjncaa
