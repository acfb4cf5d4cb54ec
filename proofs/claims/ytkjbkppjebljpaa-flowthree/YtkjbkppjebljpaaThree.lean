/- Proved here: FlowThree: three rows of flows, merged from the left or from the right, are the same. No condition. -/
import Derived.Test.YtkjbkppjebljpaaLaws
namespace Go.Proofs.Ytkjbkppjebljpaa.flowThree
open Go.ChangeShapes Go.WideShapes Go.ChangeAt Go.RowKit
set_option linter.unusedSimpArgs false
theorem three_same {a b c : List (Int × Int)} (h1 : mE a b = 0) (h2 : mE b c = 0) (h3 : mE (mL a b) c = 0) (h4 : mE a (mL b c) = 0) : mL (mL a b) c = mL a (mL b c) := by
  obtain ⟨ca, cb, e1, _, _⟩ := mE_zero h1
  obtain ⟨_, cc, e2, _, _⟩ := mE_zero h2
  obtain ⟨_, _, e3, _, _⟩ := mE_zero h3
  obtain ⟨_, _, e4, _, _⟩ := mE_zero h4
  rw [e3, e4, e1, e2]
  exact both_assoc (two_of ca cb).ra (two_of ca cb).rb (two_of cb cc).rb
theorem l_1 (a0 : Option Addr) (l0 c0 : Nat) (a1 : Option Addr) (l1 c1 : Nat) (a2 : Option Addr) (l2 c2 : Nat) (d0 : decide ((100 : Int) < (l0 : Int)) = true) (hal : Hid Alive) (w : World) : Calls Try.prog 7 #[.slice a0 l0 c0, .slice a1 l1 c1, .slice a2 l2 c2] w fun e w' => e = .returned (.bool true) ∧ Below w.heap.size w w' := by
  go_enter Try.func7, Try.ntmps7
  go_wp2_with fail
  refine (unhide hal w).mono ?_
  rintro e w1 ⟨rfl, b⟩
  have HB := hide b
  clear b
  go_wp2_with fail
  go_ret
  exact ⟨rfl, unhide HB⟩
theorem l_2 (a0 : Option Addr) (l0 c0 : Nat) (a1 : Option Addr) (l1 c1 : Nat) (a2 : Option Addr) (l2 c2 : Nat) (d0 : decide ((100 : Int) < (l0 : Int)) = false) (d1 : decide ((100 : Int) < (l1 : Int)) = true) (hal : Hid Alive) (w : World) : Calls Try.prog 7 #[.slice a0 l0 c0, .slice a1 l1 c1, .slice a2 l2 c2] w fun e w' => e = .returned (.bool true) ∧ Below w.heap.size w w' := by
  go_enter Try.func7, Try.ntmps7
  go_wp2_with fail
  refine (unhide hal w).mono ?_
  rintro e w1 ⟨rfl, b⟩
  have HB := hide b
  clear b
  go_wp2_with fail
  go_ret
  exact ⟨rfl, unhide HB⟩
theorem l_3 (a0 : Option Addr) (l0 c0 : Nat) (a1 : Option Addr) (l1 c1 : Nat) (a2 : Option Addr) (l2 c2 : Nat) (d0 : decide ((100 : Int) < (l0 : Int)) = false) (d1 : decide ((100 : Int) < (l1 : Int)) = false) (d2 : decide ((100 : Int) < (l2 : Int)) = true) (hal : Hid Alive) (w : World) : Calls Try.prog 7 #[.slice a0 l0 c0, .slice a1 l1 c1, .slice a2 l2 c2] w fun e w' => e = .returned (.bool true) ∧ Below w.heap.size w w' := by
  go_enter Try.func7, Try.ntmps7
  go_wp2_with fail
  refine (unhide hal w).mono ?_
  rintro e w1 ⟨rfl, b⟩
  have HB := hide b
  clear b
  go_wp2_with fail
  go_ret
  exact ⟨rfl, unhide HB⟩
set_option maxRecDepth 20000 in
set_option maxHeartbeats 2000000 in
theorem main_ (a0 : Option Addr) (l0 c0 : Nat) (z0 : List (Int × Int)) (a1 : Option Addr) (l1 c1 : Nat) (z1 : List (Int × Int)) (a2 : Option Addr) (l2 c2 : Nat) (z2 : List (Int × Int)) (d0 : decide ((100 : Int) < (l0 : Int)) = false) (d1 : decide ((100 : Int) < (l1 : Int)) = false) (d2 : decide ((100 : Int) < (l2 : Int)) = false) (hal : Hid Alive) (w : World) (A : Hid (RowF w (.slice a0 l0 c0) z0)) (B : Hid (RowF w (.slice a1 l1 c1) z1)) (C : Hid (RowF w (.slice a2 l2 c2) z2)) (LA : Hid (z0.length ≤ 1000)) (LB : Hid (z1.length ≤ 1000)) (LC : Hid (z2.length ≤ 1000)) : Calls Try.prog 7 #[.slice a0 l0 c0, .slice a1 l1 c1, .slice a2 l2 c2] w fun e w' => e = .returned (.bool true) ∧ Below w.heap.size w w' := by
  have hsame := hide (three_same (a := z0) (b := z1) (c := z2))
  have HL : Hid (∀ a b, (mL a b).length ≤ 1000) := hide mL_len
  go_enter Try.func7, Try.ntmps7
  go_wp2_with fail
  refine (unhide hal w).mono ?_
  rintro e w1 ⟨rfl, b⟩
  replace A := hide ((unhide A).keep b)
  replace B := hide ((unhide B).keep b)
  replace C := hide ((unhide C).keep b)
  have HB := hide b
  clear b
  go_wp2_with fail
  refine (to_any _ z0 w1 (unhide A) (unhide LA)).mono ?_
  rintro e w2 ⟨xa, rfl, g⟩
  replace A := hide ((unhide A).keep g.below)
  replace B := hide ((unhide B).keep g.below)
  replace C := hide ((unhide C).keep g.below)
  replace HB := hide (below_via (unhide HB) g.below)
  have Rxa := hide g.row
  clear g
  go_wp2_with fail
  refine (to_any _ z1 w2 (unhide B) (unhide LB)).mono ?_
  rintro e w3 ⟨xb, rfl, g⟩
  replace A := hide ((unhide A).keep g.below)
  replace B := hide ((unhide B).keep g.below)
  replace C := hide ((unhide C).keep g.below)
  replace Rxa := hide ((unhide Rxa).keep g.below)
  replace HB := hide (below_via (unhide HB) g.below)
  have Rxb := hide g.row
  clear g
  go_wp2_with fail
  refine (merge_all _ _ z0 z1 w3 (unhide Rxa) (unhide Rxb)).mono ?_
  rintro e w4 ⟨ab, rfl, r, b⟩
  replace A := hide ((unhide A).keep b)
  replace B := hide ((unhide B).keep b)
  replace C := hide ((unhide C).keep b)
  replace Rxa := hide ((unhide Rxa).keep b)
  replace Rxb := hide ((unhide Rxb).keep b)
  replace HB := hide (below_via (unhide HB) b)
  have Rab := hide r
  clear r b
  clear Rxa Rxb
  go_wp2_with fail
  refine (to_any _ z1 w4 (unhide B) (unhide LB)).mono ?_
  rintro e w5 ⟨xb, rfl, g⟩
  replace A := hide ((unhide A).keep g.below)
  replace B := hide ((unhide B).keep g.below)
  replace C := hide ((unhide C).keep g.below)
  replace Rab := hide ((unhide Rab).keep g.below)
  replace HB := hide (below_via (unhide HB) g.below)
  have Rxb := hide g.row
  clear g
  go_wp2_with fail
  refine (to_any _ z2 w5 (unhide C) (unhide LC)).mono ?_
  rintro e w6 ⟨xc, rfl, g⟩
  replace A := hide ((unhide A).keep g.below)
  replace B := hide ((unhide B).keep g.below)
  replace C := hide ((unhide C).keep g.below)
  replace Rab := hide ((unhide Rab).keep g.below)
  replace Rxb := hide ((unhide Rxb).keep g.below)
  replace HB := hide (below_via (unhide HB) g.below)
  have Rxc := hide g.row
  clear g
  go_wp2_with fail
  refine (merge_all _ _ z1 z2 w6 (unhide Rxb) (unhide Rxc)).mono ?_
  rintro e w7 ⟨bc, rfl, r, b⟩
  replace A := hide ((unhide A).keep b)
  replace B := hide ((unhide B).keep b)
  replace C := hide ((unhide C).keep b)
  replace Rab := hide ((unhide Rab).keep b)
  replace Rxb := hide ((unhide Rxb).keep b)
  replace Rxc := hide ((unhide Rxc).keep b)
  replace HB := hide (below_via (unhide HB) b)
  have Rbc := hide r
  clear r b
  clear Rxb Rxc
  obtain ⟨m1, e1⟩ : ∃ m, m = mL z0 z1 := ⟨_, rfl⟩
  obtain ⟨m2, e2⟩ : ∃ m, m = mL z1 z2 := ⟨_, rfl⟩
  rw [← e1] at Rab hsame
  rw [← e2] at Rbc hsame
  have K1 : Hid (m1.length ≤ 1000) := hide (by rw [e1]; exact unhide HL _ _)
  have K2 : Hid (m2.length ≤ 1000) := hide (by rw [e2]; exact unhide HL _ _)
  clear e1 e2
  generalize mE z0 z1 = n1 at *
  generalize mE z1 z2 = n2 at *
  by_cases q1 : n1 = 0
  · have b1 : (n1 != 0) = false := by simp [q1]
    replace hsame := hide (unhide hsame q1)
    replace q1 := hide q1
    by_cases q2 : n2 = 0
    · have b2 : (n2 != 0) = false := by simp [q2]
      replace hsame := hide (unhide hsame q2)
      replace q2 := hide q2
      go_wp2_with fail
      refine (to_any _ z2 w7 (unhide C) (unhide LC)).mono ?_
      rintro e w8 ⟨xc, rfl, g⟩
      replace A := hide ((unhide A).keep g.below)
      replace B := hide ((unhide B).keep g.below)
      replace C := hide ((unhide C).keep g.below)
      replace Rab := hide ((unhide Rab).keep g.below)
      replace Rbc := hide ((unhide Rbc).keep g.below)
      replace HB := hide (below_via (unhide HB) g.below)
      have Rxc := hide g.row
      clear g
      go_wp2_with fail
      refine (merge_all _ _ m1 z2 w8 (unhide Rab) (unhide Rxc)).mono ?_
      rintro e w9 ⟨le, rfl, r, b⟩
      replace A := hide ((unhide A).keep b)
      replace B := hide ((unhide B).keep b)
      replace C := hide ((unhide C).keep b)
      replace Rab := hide ((unhide Rab).keep b)
      replace Rbc := hide ((unhide Rbc).keep b)
      replace Rxc := hide ((unhide Rxc).keep b)
      replace HB := hide (below_via (unhide HB) b)
      have Rle := hide r
      clear r b
      clear Rxc
      go_wp2_with fail
      refine (to_any _ z0 w9 (unhide A) (unhide LA)).mono ?_
      rintro e w10 ⟨xa, rfl, g⟩
      replace A := hide ((unhide A).keep g.below)
      replace B := hide ((unhide B).keep g.below)
      replace C := hide ((unhide C).keep g.below)
      replace Rab := hide ((unhide Rab).keep g.below)
      replace Rbc := hide ((unhide Rbc).keep g.below)
      replace Rle := hide ((unhide Rle).keep g.below)
      replace HB := hide (below_via (unhide HB) g.below)
      have Rxa := hide g.row
      clear g
      go_wp2_with fail
      refine (merge_all _ _ z0 m2 w10 (unhide Rxa) (unhide Rbc)).mono ?_
      rintro e w11 ⟨ri, rfl, r, b⟩
      replace A := hide ((unhide A).keep b)
      replace B := hide ((unhide B).keep b)
      replace C := hide ((unhide C).keep b)
      replace Rab := hide ((unhide Rab).keep b)
      replace Rbc := hide ((unhide Rbc).keep b)
      replace Rle := hide ((unhide Rle).keep b)
      replace Rxa := hide ((unhide Rxa).keep b)
      replace HB := hide (below_via (unhide HB) b)
      have Rri := hide r
      clear r b
      clear Rxa
      obtain ⟨m3, e3⟩ : ∃ m, m = mL m1 z2 := ⟨_, rfl⟩
      obtain ⟨m4, e4⟩ : ∃ m, m = mL z0 m2 := ⟨_, rfl⟩
      rw [← e3] at Rle hsame
      rw [← e4] at Rri hsame
      have K3 : m3.length ≤ 1000 := by rw [e3]; exact unhide HL _ _
      have K4 : m4.length ≤ 1000 := by rw [e4]; exact unhide HL _ _
      clear e3 e4 K1 K2 HL
      replace K3 := hide K3
      replace K4 := hide K4
      generalize mE m1 z2 = n3 at *
      generalize mE z0 m2 = n4 at *
      by_cases q3 : n3 = 0
      · have b3 : (n3 != 0) = false := by simp [q3]
        replace hsame := hide (unhide hsame q3)
        replace q3 := hide q3
        by_cases q4 : n4 = 0
        · have b4 : (n4 != 0) = false := by simp [q4]
          replace hsame := hide (unhide hsame q4)
          replace q4 := hide q4
          have e5 := unhide hsame
          subst e5
          clear hsame A B C Rab Rbc LA LB LC
          go_wp2_with fail
          refine (from_any _ m3 w11 (unhide Rle) (unhide K3)).mono ?_
          rintro e w12 ⟨u1, rfl, g⟩
          replace Rle := hide ((unhide Rle).keep g.below)
          replace Rri := hide ((unhide Rri).keep g.below)
          replace HB := hide (below_via (unhide HB) g.below)
          have Ru1 := hide g.row
          clear g
          go_wp2_with fail
          refine (from_any _ m3 w12 (unhide Rri) (unhide K4)).mono ?_
          rintro e w13 ⟨u2, rfl, g⟩
          replace Rle := hide ((unhide Rle).keep g.below)
          replace Rri := hide ((unhide Rri).keep g.below)
          replace Ru1 := hide ((unhide Ru1).keep g.below)
          replace HB := hide (below_via (unhide HB) g.below)
          have Ru2 := hide g.row
          clear g
          have hF := hide (fsame_any _ _ m3 m3 w13 (unhide Ru1) (unhide Ru2))
          rw [sameF_refl] at hF
          go_wp2_with fail
          refine (unhide hF).mono ?_
          rintro e w14 ⟨rfl, n14, rfl⟩
          replace Ru1 := hide ((unhide Ru1).later (w' := w13.drewN n14) (fun _ _ h => h))
          replace Ru2 := hide ((unhide Ru2).later (w' := w13.drewN n14) (fun _ _ h => h))
          replace HB := hide (below_drewN (unhide HB) n14)
          clear hF
          generalize w13.drewN n14 = v14 at *
          go_wp2_with fail
          go_ret
          exact ⟨rfl, unhide HB⟩
        · have b4 : (n4 != 0) = true := by simp [q4]
          go_wp2_with fail
          go_ret
          exact ⟨rfl, unhide HB⟩
      · have b3 : (n3 != 0) = true := by simp [q3]
        go_wp2_with fail
        go_ret
        exact ⟨rfl, unhide HB⟩
    · have b2 : (n2 != 0) = true := by simp [q2]
      go_wp2_with fail
      go_ret
      exact ⟨rfl, unhide HB⟩
  · have b1 : (n1 != 0) = true := by simp [q1]
    go_wp2_with fail
    go_ret
    exact ⟨rfl, unhide HB⟩
theorem walk (a0 : Option Addr) (l0 c0 : Nat) (z0 : List (Int × Int)) (a1 : Option Addr) (l1 c1 : Nat) (z1 : List (Int × Int)) (a2 : Option Addr) (l2 c2 : Nat) (z2 : List (Int × Int)) (w : World) (h0 : RowF w (.slice a0 l0 c0) z0) (h1 : RowF w (.slice a1 l1 c1) z1) (h2 : RowF w (.slice a2 l2 c2) z2) : Calls Try.prog 7 #[.slice a0 l0 c0, .slice a1 l1 c1, .slice a2 l2 c2] w fun e w' => e = .returned (.bool true) ∧ Below w.heap.size w w' := by
  have hal := hide alive_any
  have e0 := rowF_len h0
  have e1 := rowF_len h1
  have e2 := rowF_len h2
  by_cases q0 : (100 : Int) < (l0 : Int)
  · exact l_1 a0 l0 c0 a1 l1 c1 a2 l2 c2 (decide_eq_true q0) hal w
  · by_cases q1 : (100 : Int) < (l1 : Int)
    · exact l_2 a0 l0 c0 a1 l1 c1 a2 l2 c2 (decide_eq_false q0) (decide_eq_true q1) hal w
    · by_cases q2 : (100 : Int) < (l2 : Int)
      · exact l_3 a0 l0 c0 a1 l1 c1 a2 l2 c2 (decide_eq_false q0) (decide_eq_false q1) (decide_eq_true q2) hal w
      · exact main_ a0 l0 c0 z0 a1 l1 c1 z1 a2 l2 c2 z2 (decide_eq_false q0) (decide_eq_false q1) (decide_eq_false q2) hal w (hide h0) (hide h1) (hide h2) (hide (by omega)) (hide (by omega)) (hide (by omega))
theorem own : ownKnob Try.prog.godebug = none := by kernel_rfl
theorem laidOut : laidOutB Try.prog = true := by kernel_rfl
set_option linter.unusedVariables false in
set_option maxRecDepth 100000 in
theorem lifted (os : Os) (started : os.Started) (H : Type) (enc : TypeId × Value → H) :
    ReturnsInHanded {} Try.checked os 7 .any (Rows.flowThreeSpec.pre6 enc Try.prog Try.f7 Rows.flowThreeRow.domain false) (Rows.flowThreeSpec.post enc Try.prog Try.f7 false true false false) := by
  refine returnsInHanded_of_change (C := Try.checked) own started (by kernel_rfl) Try.func7
    (ChangeSpec.witness6 (enc := enc) (C := Try.checked) false ⟨#[], #[.slice none 0 0, .slice none 0 0, .slice none 0 0], []⟩ 8 (by kernel_rfl) (by kernel_rfl) (by kernel_rfl) (by kernel_rfl)) ?_
  intro W base args ds gs before hval0 hW hcnd _
  have hval : ∀ (j : Nat) t v, Try.f7.params[j]? = some t → args[j]? = some v → Value.okWide Try.prog W .any base t v := hval0
  have hW' := hW
  obtain ⟨p, q, hA0, hV, rfl, hfz, hnd⟩ := hW
  have hA : DataW.TrodAll enc Try.prog W 0 (fun _ => true) true Try.f7.params.toList args.toList ds p := hA0
  rw [Try.params7] at hA hval
  obtain ⟨v0, vs0, d0, ds0, p0, q0, hargs, rfl, rfl, h0, r0⟩ := trodAll_cons hA
  obtain ⟨v1, vs1, d1, ds1, p1, q1, rfl, rfl, rfl, h1, r1⟩ := trodAll_cons r0
  obtain ⟨v2, vs2, d2, ds2, p2, q2, rfl, rfl, rfl, h2, r2⟩ := trodAll_cons r1
  obtain ⟨rfl, rfl, rfl⟩ := trodAll_nil r2
  obtain rfl : args = #[v0, v1, v2] := by cases args; simp_all
  obtain ⟨rfl, rfl⟩ := trodVars_none hV
  obtain ⟨a0, len0, cap0, rfl⟩ := okWide_slice Try.underlying22 (hval 0 22 v0 rfl rfl)
  have k0 := h0
  have lt0 : ∀ x ∈ p0, x.block < W.heap.size := by obtain ⟨m, hm⟩ := k0; exact DataW.trod_lt m _ _ _ hm
  obtain ⟨z0, w0⟩ : ∃ l : List (Int × Int), RowF W (.slice a0 len0 cap0) l := by
    obtain ⟨fuel, hf⟩ := h0
    exact rowF_open Try.underlying22 Try.underlying40 (by kernel_rfl) rfl rfl (by kernel_rfl) (by kernel_rfl) Try.underlying3 Try.underlying2 hf
  obtain ⟨a1, len1, cap1, rfl⟩ := okWide_slice Try.underlying22 (hval 1 22 v1 rfl rfl)
  have k1 := h1
  have lt1 : ∀ x ∈ p1, x.block < W.heap.size := by obtain ⟨m, hm⟩ := k1; exact DataW.trod_lt m _ _ _ hm
  obtain ⟨z1, w1⟩ : ∃ l : List (Int × Int), RowF W (.slice a1 len1 cap1) l := by
    obtain ⟨fuel, hf⟩ := h1
    exact rowF_open Try.underlying22 Try.underlying40 (by kernel_rfl) rfl rfl (by kernel_rfl) (by kernel_rfl) Try.underlying3 Try.underlying2 hf
  obtain ⟨a2, len2, cap2, rfl⟩ := okWide_slice Try.underlying22 (hval 2 22 v2 rfl rfl)
  have k2 := h2
  have lt2 : ∀ x ∈ p2, x.block < W.heap.size := by obtain ⟨m, hm⟩ := k2; exact DataW.trod_lt m _ _ _ hm
  obtain ⟨z2, w2⟩ : ∃ l : List (Int × Int), RowF W (.slice a2 len2 cap2) l := by
    obtain ⟨fuel, hf⟩ := h2
    exact rowF_open Try.underlying22 Try.underlying40 (by kernel_rfl) rfl rfl (by kernel_rfl) (by kernel_rfl) Try.underlying3 Try.underlying2 hf
  clear hA0 hval0
  refine (walk a0 len0 cap0 z0 a1 len1 cap1 z1 a2 len2 cap2 z2 W w0 w1 w2).mono fun e W' ⟨he, bel⟩ => ?_
  subst he
  exact ⟨_, rfl, _, _, _, [], _, [], hW', trodAll_mk1 (shut_bool Try.underlying4 _), (trodAll_cons_mk (Below.trod laidOut (by kernel_rfl) (of_decide_eq_true (by kernel_rfl)) k0 bel lt0) (trodAll_cons_mk (Below.trod laidOut (by kernel_rfl) (of_decide_eq_true (by kernel_rfl)) k1 bel lt1) (trodAll_cons_mk (Below.trod laidOut (by kernel_rfl) (of_decide_eq_true (by kernel_rfl)) k2 bel lt2) trodAll_mk0))), rfl, bel.frame _, fun h => by cases h⟩
theorem over : Rows.flowThreeRow.holds Try.pinned (OpenSpec.ofChange Rows.flowThreeSpec) :=
  OpenClaim.holds_of_wide 7 Try.f7 rfl rfl rfl rfl rfl rfl rfl ⟨rfl, rfl, rfl, rfl, rfl⟩ rfl rfl rfl rfl rfl (by kernel_rfl) Try.func7 (by kernel_rfl)
    (of_decide_eq_true (by kernel_rfl)) (by unfold Func.isWrapper; first | (rw [if_pos (by decide +kernel)]; kernel_rfl) | (rw [if_neg (by decide +kernel)]; exact ⟨rfl, rfl⟩))
    (fun os started H enc _ => lifted os started H enc)
/-- The statement. -/
theorem proved : Rows.FlowThreeSaid := over
#print axioms proved
end Go.Proofs.Ytkjbkppjebljpaa.flowThree
namespace Go.Proofs.Ytkjbkppjebljpaa
theorem flowThree_holds : Rows.FlowThreeSaid := flowThree.proved
end Go.Proofs.Ytkjbkppjebljpaa
