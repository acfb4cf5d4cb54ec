/- Proved here: RateSteps: one period more is grown once more; interest and amount are what it grows to. No condition. -/
import Derived.Test.YtdejpbbiomdkjaaAlive
import Derived.ProofKit
import Derived.OpenShut
import Derived.ShutString
import Derived.ChangeOld
import Derived.Below
namespace Go.Proofs.Ytdejpbbiomdkjaa.rateSteps
open Go.ChangeShapes Go.WideShapes Go.ChangeAt Go.RowKit
set_option linter.unusedSimpArgs false
def Good (r : Int) (n : Nat) (x : Int) (w : World) : Prop := Calls Try.prog 7 #[.int .i64 r, .int .u8 n, .int .i64 x] w fun e w' => e = .returned (.bool true) ∧ Below w.heap.size w w'
set_option maxHeartbeats 1600000 in
theorem go_ab (r : Int) (n : Nat) (x a b f i y h : Int) (hn : n ≤ 255) (w : World) (hw : wrap64 ((n : Int) + 1) = (n : Int) + 1) (hG : Hid (Ans 12 a r b f)) 
    (h1 : Hid (Pows r n a 0)) (h2 : Hid (Pows r ((n : Int) + 1) b f)) (h3 : Hid (Ans 10 x r i 3)) (h4 : Hid (Ans 12 x r y h)) : Good r n x w := by
  unfold Good
  have hal := hide alive_any
  go_enter Try.func7, Try.ntmps7
  go_wp2_with fail
  refine (unhide hal _).mono ?_
  rintro e w1 ⟨rfl, hb1⟩
  replace hb1 := hide hb1
  go_wp2_with fail
  refine (unhide h1 _).mono ?_
  rintro e w2 ⟨rfl, hb2⟩
  replace hb2 := hide (below_via (unhide hb1) hb2)
  clear hb1

  go_wp2_with fail
  refine (unhide h2 _).mono ?_
  rintro e w3 ⟨rfl, hb3⟩
  replace hb3 := hide (below_via (unhide hb2) hb3)
  clear hb2
  go_wp2_with fail
  refine (unhide hG _).mono ?_
  rintro e w4 ⟨rfl, hb4⟩
  replace hb4 := hide (below_via (unhide hb3) hb4)
  clear hb3
  go_wp2_with fail
  refine (unhide h3 _).mono ?_
  rintro e w5 ⟨rfl, hb5⟩
  replace hb5 := hide (below_via (unhide hb4) hb5)
  clear hb4
  go_wp2_with fail
  refine (unhide h4 _).mono ?_
  rintro e w6 ⟨rfl, hb6⟩
  replace hb6 := hide (below_via (unhide hb5) hb6)
  clear hb5
  go_wp2_with fail
  go_ret
  exact ⟨rfl, unhide hb6⟩
set_option maxHeartbeats 1600000 in
theorem go_ac (r : Int) (n : Nat) (x a b f i y : Int) (hn : n ≤ 255) (w : World) (hw : wrap64 ((n : Int) + 1) = (n : Int) + 1) (hG : Hid (Ans 12 a r b f)) 
    (h1 : Hid (Pows r n a 0)) (h2 : Hid (Pows r ((n : Int) + 1) b f)) (h3 : Hid (Ans 10 x r i 0)) (h4 : Hid (Ans 12 x r y 3)) : Good r n x w := by
  unfold Good
  have hal := hide alive_any
  go_enter Try.func7, Try.ntmps7
  go_wp2_with fail
  refine (unhide hal _).mono ?_
  rintro e w1 ⟨rfl, hb1⟩
  replace hb1 := hide hb1
  go_wp2_with fail
  refine (unhide h1 _).mono ?_
  rintro e w2 ⟨rfl, hb2⟩
  replace hb2 := hide (below_via (unhide hb1) hb2)
  clear hb1

  go_wp2_with fail
  refine (unhide h2 _).mono ?_
  rintro e w3 ⟨rfl, hb3⟩
  replace hb3 := hide (below_via (unhide hb2) hb3)
  clear hb2
  go_wp2_with fail
  refine (unhide hG _).mono ?_
  rintro e w4 ⟨rfl, hb4⟩
  replace hb4 := hide (below_via (unhide hb3) hb4)
  clear hb3
  go_wp2_with fail
  refine (unhide h3 _).mono ?_
  rintro e w5 ⟨rfl, hb5⟩
  replace hb5 := hide (below_via (unhide hb4) hb5)
  clear hb4
  go_wp2_with fail
  refine (unhide h4 _).mono ?_
  rintro e w6 ⟨rfl, hb6⟩
  replace hb6 := hide (below_via (unhide hb5) hb6)
  clear hb5
  go_wp2_with fail
  go_ret
  exact ⟨rfl, unhide hb6⟩
set_option maxHeartbeats 1600000 in
theorem go_ad (r : Int) (n : Nat) (x a b f i y d : Int) (hn : n ≤ 255) (w : World) (hw : wrap64 ((n : Int) + 1) = (n : Int) + 1) (hG : Hid (Ans 12 a r b f)) (hs : wrap64 (wrap64 (y - x) - i) = d) (hl : decide (-1 ≤ d) = true) (hu : decide (d ≤ 1) = true)
    (h1 : Hid (Pows r n a 0)) (h2 : Hid (Pows r ((n : Int) + 1) b f)) (h3 : Hid (Ans 10 x r i 0)) (h4 : Hid (Ans 12 x r y 0)) : Good r n x w := by
  unfold Good
  have hal := hide alive_any
  go_enter Try.func7, Try.ntmps7
  go_wp2_with fail
  refine (unhide hal _).mono ?_
  rintro e w1 ⟨rfl, hb1⟩
  replace hb1 := hide hb1
  go_wp2_with fail
  refine (unhide h1 _).mono ?_
  rintro e w2 ⟨rfl, hb2⟩
  replace hb2 := hide (below_via (unhide hb1) hb2)
  clear hb1

  go_wp2_with fail
  refine (unhide h2 _).mono ?_
  rintro e w3 ⟨rfl, hb3⟩
  replace hb3 := hide (below_via (unhide hb2) hb3)
  clear hb2
  go_wp2_with fail
  refine (unhide hG _).mono ?_
  rintro e w4 ⟨rfl, hb4⟩
  replace hb4 := hide (below_via (unhide hb3) hb4)
  clear hb3
  go_wp2_with fail
  refine (unhide h3 _).mono ?_
  rintro e w5 ⟨rfl, hb5⟩
  replace hb5 := hide (below_via (unhide hb4) hb5)
  clear hb4
  go_wp2_with fail
  refine (unhide h4 _).mono ?_
  rintro e w6 ⟨rfl, hb6⟩
  replace hb6 := hide (below_via (unhide hb5) hb6)
  clear hb5
  go_wp2_with fail
  go_ret
  exact ⟨rfl, unhide hb6⟩
set_option maxHeartbeats 1600000 in
theorem go_ba (r : Int) (n : Nat) (x a b i y h : Int) (hn : n ≤ 255) (w : World) (hw : wrap64 ((n : Int) + 1) = (n : Int) + 1)  
    (h1 : Hid (Pows r n a 2)) (h2 : Hid (Pows r ((n : Int) + 1) b 2)) (h3 : Hid (Ans 10 x r i 2)) (h4 : Hid (Ans 12 x r y h)) : Good r n x w := by
  unfold Good
  have hal := hide alive_any
  go_enter Try.func7, Try.ntmps7
  go_wp2_with fail
  refine (unhide hal _).mono ?_
  rintro e w1 ⟨rfl, hb1⟩
  replace hb1 := hide hb1
  go_wp2_with fail
  refine (unhide h1 _).mono ?_
  rintro e w2 ⟨rfl, hb2⟩
  replace hb2 := hide (below_via (unhide hb1) hb2)
  clear hb1

  go_wp2_with fail
  refine (unhide h2 _).mono ?_
  rintro e w3 ⟨rfl, hb3⟩
  replace hb3 := hide (below_via (unhide hb2) hb3)
  clear hb2
  go_wp2_with fail
  refine (unhide h3 _).mono ?_
  rintro e w4 ⟨rfl, hb4⟩
  replace hb4 := hide (below_via (unhide hb3) hb4)
  clear hb3
  go_wp2_with fail
  refine (unhide h4 _).mono ?_
  rintro e w5 ⟨rfl, hb5⟩
  replace hb5 := hide (below_via (unhide hb4) hb5)
  clear hb4
  go_wp2_with fail
  go_ret
  exact ⟨rfl, unhide hb5⟩
set_option maxHeartbeats 1600000 in
theorem go_cb (r : Int) (n : Nat) (x a b i y h : Int) (hn : n ≤ 255) (w : World) (hw : wrap64 ((n : Int) + 1) = (n : Int) + 1)  
    (h1 : Hid (Pows r n a 3)) (h2 : Hid (Pows r ((n : Int) + 1) b 3)) (h3 : Hid (Ans 10 x r i 3)) (h4 : Hid (Ans 12 x r y h)) : Good r n x w := by
  unfold Good
  have hal := hide alive_any
  go_enter Try.func7, Try.ntmps7
  go_wp2_with fail
  refine (unhide hal _).mono ?_
  rintro e w1 ⟨rfl, hb1⟩
  replace hb1 := hide hb1
  go_wp2_with fail
  refine (unhide h1 _).mono ?_
  rintro e w2 ⟨rfl, hb2⟩
  replace hb2 := hide (below_via (unhide hb1) hb2)
  clear hb1

  go_wp2_with fail
  refine (unhide h2 _).mono ?_
  rintro e w3 ⟨rfl, hb3⟩
  replace hb3 := hide (below_via (unhide hb2) hb3)
  clear hb2
  go_wp2_with fail
  refine (unhide h3 _).mono ?_
  rintro e w4 ⟨rfl, hb4⟩
  replace hb4 := hide (below_via (unhide hb3) hb4)
  clear hb3
  go_wp2_with fail
  refine (unhide h4 _).mono ?_
  rintro e w5 ⟨rfl, hb5⟩
  replace hb5 := hide (below_via (unhide hb4) hb5)
  clear hb4
  go_wp2_with fail
  go_ret
  exact ⟨rfl, unhide hb5⟩
set_option maxHeartbeats 1600000 in
theorem go_cc (r : Int) (n : Nat) (x a b i y : Int) (hn : n ≤ 255) (w : World) (hw : wrap64 ((n : Int) + 1) = (n : Int) + 1)  
    (h1 : Hid (Pows r n a 3)) (h2 : Hid (Pows r ((n : Int) + 1) b 3)) (h3 : Hid (Ans 10 x r i 0)) (h4 : Hid (Ans 12 x r y 3)) : Good r n x w := by
  unfold Good
  have hal := hide alive_any
  go_enter Try.func7, Try.ntmps7
  go_wp2_with fail
  refine (unhide hal _).mono ?_
  rintro e w1 ⟨rfl, hb1⟩
  replace hb1 := hide hb1
  go_wp2_with fail
  refine (unhide h1 _).mono ?_
  rintro e w2 ⟨rfl, hb2⟩
  replace hb2 := hide (below_via (unhide hb1) hb2)
  clear hb1

  go_wp2_with fail
  refine (unhide h2 _).mono ?_
  rintro e w3 ⟨rfl, hb3⟩
  replace hb3 := hide (below_via (unhide hb2) hb3)
  clear hb2
  go_wp2_with fail
  refine (unhide h3 _).mono ?_
  rintro e w4 ⟨rfl, hb4⟩
  replace hb4 := hide (below_via (unhide hb3) hb4)
  clear hb3
  go_wp2_with fail
  refine (unhide h4 _).mono ?_
  rintro e w5 ⟨rfl, hb5⟩
  replace hb5 := hide (below_via (unhide hb4) hb5)
  clear hb4
  go_wp2_with fail
  go_ret
  exact ⟨rfl, unhide hb5⟩
set_option maxHeartbeats 1600000 in
theorem go_cd (r : Int) (n : Nat) (x a b i y d : Int) (hn : n ≤ 255) (w : World) (hw : wrap64 ((n : Int) + 1) = (n : Int) + 1)  (hs : wrap64 (wrap64 (y - x) - i) = d) (hl : decide (-1 ≤ d) = true) (hu : decide (d ≤ 1) = true)
    (h1 : Hid (Pows r n a 3)) (h2 : Hid (Pows r ((n : Int) + 1) b 3)) (h3 : Hid (Ans 10 x r i 0)) (h4 : Hid (Ans 12 x r y 0)) : Good r n x w := by
  unfold Good
  have hal := hide alive_any
  go_enter Try.func7, Try.ntmps7
  go_wp2_with fail
  refine (unhide hal _).mono ?_
  rintro e w1 ⟨rfl, hb1⟩
  replace hb1 := hide hb1
  go_wp2_with fail
  refine (unhide h1 _).mono ?_
  rintro e w2 ⟨rfl, hb2⟩
  replace hb2 := hide (below_via (unhide hb1) hb2)
  clear hb1

  go_wp2_with fail
  refine (unhide h2 _).mono ?_
  rintro e w3 ⟨rfl, hb3⟩
  replace hb3 := hide (below_via (unhide hb2) hb3)
  clear hb2
  go_wp2_with fail
  refine (unhide h3 _).mono ?_
  rintro e w4 ⟨rfl, hb4⟩
  replace hb4 := hide (below_via (unhide hb3) hb4)
  clear hb3
  go_wp2_with fail
  refine (unhide h4 _).mono ?_
  rintro e w5 ⟨rfl, hb5⟩
  replace hb5 := hide (below_via (unhide hb4) hb5)
  clear hb4
  go_wp2_with fail
  go_ret
  exact ⟨rfl, unhide hb5⟩
theorem steps_bd (x r : Int) : -1 ≤ qG x r - x - qI x r ∧ qG x r - x - qI x r ≤ 1 := by
  have h1 := near_bd (x := x * r) (B := 1000000000000) (by omega)
  have h2 := near_bd (x := x * (1000000000000 + r)) (B := 1000000000000) (by omega)
  unfold qG qI
  rw [Int.mul_add] at h2 ⊢
  omega
theorem walk_go (r : Int) (n : Nat) (x : Int) (hn : n ≤ 255) (hx : In64 x) (w : World) : Good r n x w := by
  have hw : wrap64 ((n : Int) + 1) = (n : Int) + 1 := wrap_in ⟨by omega, by omega⟩
  by_cases hm : May r
  · have h1 := power_yes r n (by omega) hm
    have h2 := power_yes r (n + 1) (by omega) hm
    rw [show ((n + 1 : Nat) : Int) = (n : Int) + 1 from by omega] at h2
    have h3 := interest_ok hx hm
    have h4 := grow_ok hx hm
    have hd := steps_bd x r
    have hB : ∀ (P : Prop), (okE (qI x r) = 3 → P) → (okE (qI x r) = 0 → okE (qG x r) = 3 → P) → (okE (qI x r) = 0 → okE (qG x r) = 0 → okN (qI x r) = qI x r → okN (qG x r) = qG x r → P) → P := by
      intro P p1 p2 p3
      by_cases t1 : turn (qI x r) = 0
      · by_cases t2 : turn (qG x r) = 0
        · exact p3 (okE_in t1) (okE_in t2) (okN_in t1) (okN_in t2)
        · exact p2 (okE_in t1) (okE_out t2)
      · exact p1 (okE_out t1)
    have hs : wrap64 (wrap64 (qG x r - x) - qI x r) = qG x r - x - qI x r := by
      generalize qG x r = y at *
      generalize qI x r = i at *
      unfold wrap64
      omega
    cases hp : pw r n with
    | none =>
      rw [pw_none hp 1] at h2
      rw [hp] at h1
      refine hB _ (fun e => ?_) (fun e f => ?_) (fun e f g h => ?_)
      · rw [e] at h3
        exact go_cb r n x _ _ _ _ _ hn w hw (hide h1) (hide h2) (hide h3) (hide h4)
      · rw [e] at h3
        rw [f] at h4
        exact go_cc r n x _ _ _ _ hn w hw (hide h1) (hide h2) (hide h3) (hide h4)
      · rw [e, g] at h3
        rw [f, h] at h4
        exact go_cd r n x _ _ _ _ _ hn w hw hs (decide_eq_true hd.1) (decide_eq_true hd.2) (hide h1) (hide h2) (hide h3) (hide h4)
    | some a =>
      have hG := grow_ok (x := a) (pw_in hp) hm
      have hb : okN (qG a r) = pN (pw r (n + 1)) ∧ okE (qG a r) = pE (pw r (n + 1)) := by
        rw [pw_next hp]
        by_cases t : turn (qG a r) = 0
        · rw [if_pos t]; exact ⟨okN_in t, okE_in t⟩
        · rw [if_neg t]; exact ⟨okN_out t, okE_out t⟩
      rw [hb.1, hb.2] at hG
      rw [hp] at h1
      refine hB _ (fun e => ?_) (fun e f => ?_) (fun e f g h => ?_)
      · rw [e] at h3
        exact go_ab r n x _ _ _ _ _ _ hn w hw (hide hG) (hide h1) (hide h2) (hide h3) (hide h4)
      · rw [e] at h3
        rw [f] at h4
        exact go_ac r n x _ _ _ _ _ hn w hw (hide hG) (hide h1) (hide h2) (hide h3) (hide h4)
      · rw [e, g] at h3
        rw [f, h] at h4
        exact go_ad r n x _ _ _ _ _ _ hn w hw (hide hG) hs (decide_eq_true hd.1) (decide_eq_true hd.2) (hide h1) (hide h2) (hide h3) (hide h4)
  · exact go_ba r n x _ _ _ _ _ hn w hw (hide (power_no r _ hm)) (hide (power_no r _ hm)) (hide (interest_no x r hm)) (hide (grow_no hm))
theorem walk (r n x : Int) (w : World) (_wr : (Lit.int .i64 r).wf = true) (wn : (Lit.int .u8 n).wf = true) (wx : (Lit.int .i64 x).wf = true) : Calls Try.prog 7 #[.int .i64 r, .int .u8 n, .int .i64 x] w fun e w' => e = .returned (.bool true) ∧ Below w.heap.size w w' := by
  have hb := bounds_u8 wn
  obtain ⟨m, rfl⟩ : ∃ m : Nat, n = (m : Int) := ⟨n.toNat, by omega⟩
  exact walk_go r m x (by omega) (in64_of wx) w
theorem own : ownKnob Try.prog.godebug = none := by kernel_rfl
set_option linter.unusedVariables false in
set_option maxRecDepth 100000 in
theorem lifted (os : Os) (started : os.Started) (H : Type) (enc : TypeId × Value → H) :
    ReturnsInHanded {} Try.checked os 7 .any (Rows.rateStepsSpec.pre6 enc Try.prog Try.f7 Rows.rateStepsRow.domain false) (Rows.rateStepsSpec.post enc Try.prog Try.f7 false true false false) := by
  refine returnsInHanded_of_change (C := Try.checked) own started (by kernel_rfl) Try.func7
    (ChangeSpec.witness6 (enc := enc) (C := Try.checked) false ⟨#[], #[.int .i64 0, .int .u8 0, .int .i64 0], []⟩ 8 (by kernel_rfl) (by kernel_rfl) (by kernel_rfl) (by kernel_rfl)) ?_
  intro W base args ds gs before hval0 hW hcnd _
  have hval : ∀ (j : Nat) t v, Try.f7.params[j]? = some t → args[j]? = some v → Value.okWide Try.prog W .any base t v := hval0
  have hW' := hW
  obtain ⟨p, q, hA0, hV, rfl, hfz, hnd⟩ := hW
  have hA : DataW.TrodAll enc Try.prog W 0 (fun _ => true) true Try.f7.params.toList args.toList ds p := hA0
  rw [Try.params7] at hA hval
  obtain ⟨v0, vs0, d0, ds0, p0, q0, hargs, rfl, rfl, h0, r0⟩ := trodAll_cons hA
  obtain ⟨v1, vs1, d1, ds1, p1, q1, rfl, rfl, rfl, h1, r1⟩ := trodAll_cons r0
  obtain ⟨v2, vs2, d2, ds2, p2, q2, rfl, rfl, rfl, h2, r2⟩ := trodAll_cons r1
  obtain ⟨rfl, rfl, rfl⟩ := trodAll_nil r2
  obtain rfl : args = #[v0, v1, v2] := by cases args; simp_all
  obtain ⟨rfl, rfl⟩ := trodVars_none hV
  obtain ⟨a0, rfl, rfl, rfl, w0⟩ := open_int Try.underlying2 (hval 0 2 v0 rfl rfl) h0
  obtain ⟨a1, rfl, rfl, rfl, w1⟩ := open_int Try.underlying5 (hval 1 5 v1 rfl rfl) h1
  obtain ⟨a2, rfl, rfl, rfl, w2⟩ := open_int Try.underlying2 (hval 2 2 v2 rfl rfl) h2
  clear hA0 hval0
  simp only [List.append_nil] at hW'
  refine (walk a0 a1 a2 W w0 w1 w2).mono fun e W' ⟨he, bel⟩ => ?_
  subst he
  exact ⟨_, rfl, _, _, _, [], _, [], hW', trodAll_mk1 (shut_bool Try.underlying4 _), (trodAll_cons_mk (shut_int Try.underlying2 w0) (trodAll_cons_mk (shut_int Try.underlying5 w1) (trodAll_cons_mk (shut_int Try.underlying2 w2) trodAll_mk0))), rfl, bel.frame _, fun h => by cases h⟩
theorem over : Rows.rateStepsRow.holds Try.pinned (OpenSpec.ofChange Rows.rateStepsSpec) :=
  OpenClaim.holds_of_wide 7 Try.f7 rfl rfl rfl rfl rfl rfl rfl ⟨rfl, rfl, rfl, rfl, rfl⟩ rfl rfl rfl rfl rfl (by kernel_rfl) Try.func7 (by kernel_rfl)
    (of_decide_eq_true (by kernel_rfl)) (by unfold Func.isWrapper; first | (rw [if_pos (by decide +kernel)]; kernel_rfl) | (rw [if_neg (by decide +kernel)]; exact ⟨rfl, rfl⟩))
    (fun os started H enc _ => lifted os started H enc)
/-- The statement. -/
theorem proved : Rows.RateStepsSaid := over
#print axioms proved
end Go.Proofs.Ytdejpbbiomdkjaa.rateSteps
namespace Go.Proofs.Ytdejpbbiomdkjaa
theorem rateSteps_holds : Rows.RateStepsSaid := rateSteps.proved
end Go.Proofs.Ytdejpbbiomdkjaa
