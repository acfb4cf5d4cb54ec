/- Proved here: RateBack: what grew at a rate of 0 or more, discounted, is what it was, or 1 beside it; at 0 all is as it was. No condition. -/
import Derived.Test.YtdejpbbiomdkjaaAlive
import Derived.ProofKit
import Derived.OpenShut
import Derived.ShutString
import Derived.ChangeOld
import Derived.Below
namespace Go.Proofs.Ytdejpbbiomdkjaa.rateBack
open Go.ChangeShapes Go.WideShapes Go.ChangeAt Go.RowKit
set_option linter.unusedSimpArgs false
def Good (x r : Int) (w : World) : Prop := Calls Try.prog 5 #[.int .i64 x, .int .i64 r] w fun e w' => e = .returned (.bool true) ∧ Below w.heap.size w w'
theorem zero_grow {x : Int} (hx : In64 x) : Ans 12 x 0 x 0 := by
  have h := grow_ok hx (r := 0) ⟨by omega, by omega⟩
  have e : qG x 0 = x := near_mul (by omega)
  rw [e] at h
  exact in_ok h hx
theorem zero_disc {x : Int} (hx : In64 x) : Ans 14 x 0 x 0 := by
  have h := discount_ok hx (r := 0) ⟨by omega, by omega⟩
  have e : qD x 0 = x := near_mul (by omega)
  rw [e] at h
  exact in_ok h hx
theorem zero_int {x : Int} (hx : In64 x) : Ans 10 x 0 0 0 := by
  have h := interest_ok hx (r := 0) ⟨by omega, by omega⟩
  have e : qI x 0 = 0 := by unfold qI; rw [Int.mul_zero]; exact near_zero (by omega)
  rw [e] at h
  exact in_ok h ⟨by omega, by omega⟩
theorem idx (w : World) : (Instr.index 33 (.agg #[.func (.func 12) #[] #[], .func (.func 14) #[] #[]]) (.int .i64 0)).run Try.prog w = .ok (.func (.func 12) #[] #[]) w ∧ (Instr.index 33 (.agg #[.func (.func 12) #[] #[], .func (.func 14) #[] #[]]) (.int .i64 1)).run Try.prog w = .ok (.func (.func 14) #[] #[]) w := ⟨by kernel_rfl, by kernel_rfl⟩
set_option maxHeartbeats 1600000 in
theorem bk_neg (x r : Int) (hr : decide (r < 0) = true) (w : World) (hg : Hid (Ans 12 x 0 x 0)) (hd : Hid (Ans 14 x 0 x 0)) (hi : Hid (Ans 10 x 0 0 0)) : Good x r w := by
  unfold Good
  have hal := hide alive_any
  have i0 := fun w => (idx w).1
  have i1 := fun w => (idx w).2
  go_enter Try.func5, Try.ntmps5
  go_wp2_with fail
  refine (unhide hal _).mono ?_
  rintro e w1 ⟨rfl, hb1⟩
  replace hb1 := hide hb1
  go_wp2_with fail
  refine wp_loop_rounds 3 ?_
  rw [rounds_succ]
  go_wp2_with fail
  refine (unhide hg _).mono ?_
  rintro e w2 ⟨rfl, hb2⟩
  replace hb2 := hide (below_via (unhide hb1) hb2)
  clear hb1
  go_wp2_with fail
  rw [rounds_succ]
  go_wp2_with fail
  refine (unhide hd _).mono ?_
  rintro e w3 ⟨rfl, hb3⟩
  replace hb3 := hide (below_via (unhide hb2) hb3)
  clear hb2
  go_wp2_with fail
  rw [rounds_succ]
  go_wp2_with fail
  refine (unhide hi _).mono ?_
  rintro e w4 ⟨rfl, hb4⟩
  replace hb4 := hide (below_via (unhide hb3) hb4)
  clear hb3
  go_wp2_with fail
  go_ret
  exact ⟨rfl, unhide hb4⟩
set_option maxHeartbeats 1600000 in
theorem bk_no (x r : Int) (hr : decide (r < 0) = false) (hm : decide (10000000000000 < r) = true) (h1 : Hid (Ans 12 x r 0 2)) (w : World) (hg : Hid (Ans 12 x 0 x 0)) (hd : Hid (Ans 14 x 0 x 0)) (hi : Hid (Ans 10 x 0 0 0)) : Good x r w := by
  unfold Good
  have hal := hide alive_any
  have i0 := fun w => (idx w).1
  have i1 := fun w => (idx w).2
  go_enter Try.func5, Try.ntmps5
  go_wp2_with fail
  refine (unhide hal _).mono ?_
  rintro e w1 ⟨rfl, hb1⟩
  replace hb1 := hide hb1
  go_wp2_with fail
  refine wp_loop_rounds 3 ?_
  rw [rounds_succ]
  go_wp2_with fail
  refine (unhide hg _).mono ?_
  rintro e w2 ⟨rfl, hb2⟩
  replace hb2 := hide (below_via (unhide hb1) hb2)
  clear hb1
  go_wp2_with fail
  rw [rounds_succ]
  go_wp2_with fail
  refine (unhide hd _).mono ?_
  rintro e w3 ⟨rfl, hb3⟩
  replace hb3 := hide (below_via (unhide hb2) hb3)
  clear hb2
  go_wp2_with fail
  rw [rounds_succ]
  go_wp2_with fail
  refine (unhide hi _).mono ?_
  rintro e w4 ⟨rfl, hb4⟩
  replace hb4 := hide (below_via (unhide hb3) hb4)
  clear hb3
  go_wp2_with fail
  refine (unhide h1 _).mono ?_
  rintro e w5 ⟨rfl, hb5⟩
  replace hb5 := hide (below_via (unhide hb4) hb5)
  clear hb4
  go_wp2_with fail
  go_ret
  exact ⟨rfl, unhide hb5⟩
set_option maxHeartbeats 1600000 in
theorem bk_hi (x r : Int) (hr : decide (r < 0) = false) (hx : decide (576460752303423488 < x) = true) (h1 : Hid (Ans 12 x r 0 3)) (w : World) (hg : Hid (Ans 12 x 0 x 0)) (hd : Hid (Ans 14 x 0 x 0)) (hi : Hid (Ans 10 x 0 0 0)) : Good x r w := by
  unfold Good
  have hal := hide alive_any
  have i0 := fun w => (idx w).1
  have i1 := fun w => (idx w).2
  go_enter Try.func5, Try.ntmps5
  go_wp2_with fail
  refine (unhide hal _).mono ?_
  rintro e w1 ⟨rfl, hb1⟩
  replace hb1 := hide hb1
  go_wp2_with fail
  refine wp_loop_rounds 3 ?_
  rw [rounds_succ]
  go_wp2_with fail
  refine (unhide hg _).mono ?_
  rintro e w2 ⟨rfl, hb2⟩
  replace hb2 := hide (below_via (unhide hb1) hb2)
  clear hb1
  go_wp2_with fail
  rw [rounds_succ]
  go_wp2_with fail
  refine (unhide hd _).mono ?_
  rintro e w3 ⟨rfl, hb3⟩
  replace hb3 := hide (below_via (unhide hb2) hb3)
  clear hb2
  go_wp2_with fail
  rw [rounds_succ]
  go_wp2_with fail
  refine (unhide hi _).mono ?_
  rintro e w4 ⟨rfl, hb4⟩
  replace hb4 := hide (below_via (unhide hb3) hb4)
  clear hb3
  go_wp2_with fail
  refine (unhide h1 _).mono ?_
  rintro e w5 ⟨rfl, hb5⟩
  replace hb5 := hide (below_via (unhide hb4) hb5)
  clear hb4
  go_wp2_with fail
  go_ret
  exact ⟨rfl, unhide hb5⟩
set_option maxHeartbeats 1600000 in
theorem bk_lo (x r : Int) (hr : decide (r < 0) = false) (hx : decide (576460752303423488 < x) = false) (hx2 : decide (x < -576460752303423488) = true) (h1 : Hid (Ans 12 x r 0 3)) (w : World) (hg : Hid (Ans 12 x 0 x 0)) (hd : Hid (Ans 14 x 0 x 0)) (hi : Hid (Ans 10 x 0 0 0)) : Good x r w := by
  unfold Good
  have hal := hide alive_any
  have i0 := fun w => (idx w).1
  have i1 := fun w => (idx w).2
  go_enter Try.func5, Try.ntmps5
  go_wp2_with fail
  refine (unhide hal _).mono ?_
  rintro e w1 ⟨rfl, hb1⟩
  replace hb1 := hide hb1
  go_wp2_with fail
  refine wp_loop_rounds 3 ?_
  rw [rounds_succ]
  go_wp2_with fail
  refine (unhide hg _).mono ?_
  rintro e w2 ⟨rfl, hb2⟩
  replace hb2 := hide (below_via (unhide hb1) hb2)
  clear hb1
  go_wp2_with fail
  rw [rounds_succ]
  go_wp2_with fail
  refine (unhide hd _).mono ?_
  rintro e w3 ⟨rfl, hb3⟩
  replace hb3 := hide (below_via (unhide hb2) hb3)
  clear hb2
  go_wp2_with fail
  rw [rounds_succ]
  go_wp2_with fail
  refine (unhide hi _).mono ?_
  rintro e w4 ⟨rfl, hb4⟩
  replace hb4 := hide (below_via (unhide hb3) hb4)
  clear hb3
  go_wp2_with fail
  refine (unhide h1 _).mono ?_
  rintro e w5 ⟨rfl, hb5⟩
  replace hb5 := hide (below_via (unhide hb4) hb5)
  clear hb4
  go_wp2_with fail
  go_ret
  exact ⟨rfl, unhide hb5⟩
set_option maxHeartbeats 1600000 in
theorem bk_same (x r y z : Int) (hr : decide (r < 0) = false) (t1 : (z == x) = true) (h1 : Hid (Ans 12 x r y 0)) (h2 : Hid (Ans 14 y r z 0)) (w : World) (hg : Hid (Ans 12 x 0 x 0)) (hd : Hid (Ans 14 x 0 x 0)) (hi : Hid (Ans 10 x 0 0 0)) : Good x r w := by
  unfold Good
  have hal := hide alive_any
  have i0 := fun w => (idx w).1
  have i1 := fun w => (idx w).2
  go_enter Try.func5, Try.ntmps5
  go_wp2_with fail
  refine (unhide hal _).mono ?_
  rintro e w1 ⟨rfl, hb1⟩
  replace hb1 := hide hb1
  go_wp2_with fail
  refine wp_loop_rounds 3 ?_
  rw [rounds_succ]
  go_wp2_with fail
  refine (unhide hg _).mono ?_
  rintro e w2 ⟨rfl, hb2⟩
  replace hb2 := hide (below_via (unhide hb1) hb2)
  clear hb1
  go_wp2_with fail
  rw [rounds_succ]
  go_wp2_with fail
  refine (unhide hd _).mono ?_
  rintro e w3 ⟨rfl, hb3⟩
  replace hb3 := hide (below_via (unhide hb2) hb3)
  clear hb2
  go_wp2_with fail
  rw [rounds_succ]
  go_wp2_with fail
  refine (unhide hi _).mono ?_
  rintro e w4 ⟨rfl, hb4⟩
  replace hb4 := hide (below_via (unhide hb3) hb4)
  clear hb3
  go_wp2_with fail
  refine (unhide h1 _).mono ?_
  rintro e w5 ⟨rfl, hb5⟩
  replace hb5 := hide (below_via (unhide hb4) hb5)
  clear hb4
  go_wp2_with fail
  refine (unhide h2 _).mono ?_
  rintro e w6 ⟨rfl, hb6⟩
  replace hb6 := hide (below_via (unhide hb5) hb6)
  clear hb5
  go_wp2_with fail
  go_ret
  exact ⟨rfl, unhide hb6⟩
set_option maxHeartbeats 1600000 in
theorem bk_up (x r y z : Int) (hr : decide (r < 0) = false) (t1 : (z == x) = false) (t2 : (z == wrap64 (x + 1)) = true) (h1 : Hid (Ans 12 x r y 0)) (h2 : Hid (Ans 14 y r z 0)) (w : World) (hg : Hid (Ans 12 x 0 x 0)) (hd : Hid (Ans 14 x 0 x 0)) (hi : Hid (Ans 10 x 0 0 0)) : Good x r w := by
  unfold Good
  have hal := hide alive_any
  have i0 := fun w => (idx w).1
  have i1 := fun w => (idx w).2
  go_enter Try.func5, Try.ntmps5
  go_wp2_with fail
  refine (unhide hal _).mono ?_
  rintro e w1 ⟨rfl, hb1⟩
  replace hb1 := hide hb1
  go_wp2_with fail
  refine wp_loop_rounds 3 ?_
  rw [rounds_succ]
  go_wp2_with fail
  refine (unhide hg _).mono ?_
  rintro e w2 ⟨rfl, hb2⟩
  replace hb2 := hide (below_via (unhide hb1) hb2)
  clear hb1
  go_wp2_with fail
  rw [rounds_succ]
  go_wp2_with fail
  refine (unhide hd _).mono ?_
  rintro e w3 ⟨rfl, hb3⟩
  replace hb3 := hide (below_via (unhide hb2) hb3)
  clear hb2
  go_wp2_with fail
  rw [rounds_succ]
  go_wp2_with fail
  refine (unhide hi _).mono ?_
  rintro e w4 ⟨rfl, hb4⟩
  replace hb4 := hide (below_via (unhide hb3) hb4)
  clear hb3
  go_wp2_with fail
  refine (unhide h1 _).mono ?_
  rintro e w5 ⟨rfl, hb5⟩
  replace hb5 := hide (below_via (unhide hb4) hb5)
  clear hb4
  go_wp2_with fail
  refine (unhide h2 _).mono ?_
  rintro e w6 ⟨rfl, hb6⟩
  replace hb6 := hide (below_via (unhide hb5) hb6)
  clear hb5
  go_wp2_with fail
  go_ret
  exact ⟨rfl, unhide hb6⟩
set_option maxHeartbeats 1600000 in
theorem bk_down (x r y z : Int) (hr : decide (r < 0) = false) (t1 : (z == x) = false) (t2 : (z == wrap64 (x + 1)) = false) (t3 : (z == wrap64 (x - 1)) = true) (h1 : Hid (Ans 12 x r y 0)) (h2 : Hid (Ans 14 y r z 0)) (w : World) (hg : Hid (Ans 12 x 0 x 0)) (hd : Hid (Ans 14 x 0 x 0)) (hi : Hid (Ans 10 x 0 0 0)) : Good x r w := by
  unfold Good
  have hal := hide alive_any
  have i0 := fun w => (idx w).1
  have i1 := fun w => (idx w).2
  go_enter Try.func5, Try.ntmps5
  go_wp2_with fail
  refine (unhide hal _).mono ?_
  rintro e w1 ⟨rfl, hb1⟩
  replace hb1 := hide hb1
  go_wp2_with fail
  refine wp_loop_rounds 3 ?_
  rw [rounds_succ]
  go_wp2_with fail
  refine (unhide hg _).mono ?_
  rintro e w2 ⟨rfl, hb2⟩
  replace hb2 := hide (below_via (unhide hb1) hb2)
  clear hb1
  go_wp2_with fail
  rw [rounds_succ]
  go_wp2_with fail
  refine (unhide hd _).mono ?_
  rintro e w3 ⟨rfl, hb3⟩
  replace hb3 := hide (below_via (unhide hb2) hb3)
  clear hb2
  go_wp2_with fail
  rw [rounds_succ]
  go_wp2_with fail
  refine (unhide hi _).mono ?_
  rintro e w4 ⟨rfl, hb4⟩
  replace hb4 := hide (below_via (unhide hb3) hb4)
  clear hb3
  go_wp2_with fail
  refine (unhide h1 _).mono ?_
  rintro e w5 ⟨rfl, hb5⟩
  replace hb5 := hide (below_via (unhide hb4) hb5)
  clear hb4
  go_wp2_with fail
  refine (unhide h2 _).mono ?_
  rintro e w6 ⟨rfl, hb6⟩
  replace hb6 := hide (below_via (unhide hb5) hb6)
  clear hb5
  go_wp2_with fail
  go_ret
  exact ⟨rfl, unhide hb6⟩
theorem back_bd {x r : Int} (hr : 0 ≤ r) : -1 ≤ qD (qG x r) r - x ∧ qD (qG x r) r - x ≤ 1 := by
  have h1 := near_bd (x := x * (1000000000000 + r)) (B := 1000000000000) (by omega)
  have h2 := near_bd (x := qG x r * 1000000000000) (B := 1000000000000 + r) (by omega)
  change -(1000000000000 + r) ≤ 2 * (qD (qG x r) r * (1000000000000 + r) - qG x r * 1000000000000) ∧ 2 * (qD (qG x r) r * (1000000000000 + r) - qG x r * 1000000000000) ≤ 1000000000000 + r at h2
  change -1000000000000 ≤ 2 * (qG x r * 1000000000000 - x * (1000000000000 + r)) ∧ 2 * (qG x r * 1000000000000 - x * (1000000000000 + r)) ≤ 1000000000000 at h1
  generalize qD (qG x r) r = z at *
  generalize qG x r = y at *
  have hB : 1000000000000 ≤ 1000000000000 + r := by omega
  generalize 1000000000000 + r = B at *
  have e : (z - x) * B = z * B - x * B := Int.sub_mul _ _ _
  constructor
  · refine Int.le_of_mul_le_mul_right (a := B) ?_ (by omega)
    omega
  · refine Int.le_of_mul_le_mul_right (a := B) ?_ (by omega)
    omega
theorem disc_in {y r : Int} (hy : In64 y) (hr : 0 ≤ r) : In64 (qD y r) := by
  have h1 := hy.lo
  have h2 := hy.hi
  exact ⟨near_ge (n := -9223372036854775808) (by omega) (by omega), near_le (n := 9223372036854775807) (by omega) (by omega)⟩
theorem grow_in {x r : Int} (hm : May r) (h1 : -576460752303423488 ≤ x) (h2 : x ≤ 576460752303423488) : In64 (qG x r) := by
  obtain ⟨m1, m2⟩ := hm
  have a := Int.mul_le_mul_of_nonneg_right h2 (show 0 ≤ 1000000000000 + r by omega)
  have b := Int.mul_le_mul_of_nonneg_right h1 (show 0 ≤ 1000000000000 + r by omega)
  exact ⟨near_ge (n := -9223372036854775808) (by omega) (by omega), near_le (n := 9223372036854775807) (by omega) (by omega)⟩
theorem walk (x r : Int) (w : World) (wx : (Lit.int .i64 x).wf = true) (_wr : (Lit.int .i64 r).wf = true) : Good x r w := by
  have hx := in64_of wx
  have hg := hide (zero_grow hx)
  have hd := hide (zero_disc hx)
  have hi := hide (zero_int hx)
  by_cases h0 : r < 0
  · exact bk_neg x r (decide_eq_true h0) w hg hd hi
  · have hr := decide_eq_false h0
    by_cases hm : May r
    · have h1 := grow_ok hx hm
      by_cases t : turn (qG x r) = 0
      · rw [okN_in t, okE_in t] at h1
        have hy := in_of_turn t
        have hz := disc_in hy (show 0 ≤ r by omega)
        have h2 := in_ok (discount_ok hy hm) hz
        obtain ⟨b1, b2⟩ := back_bd (x := x) (show 0 ≤ r by omega)
        generalize qD (qG x r) r = z at *
        by_cases t1 : z = x
        · exact bk_same x r _ z hr (by rw [beq_iff_eq]; exact t1) (hide h1) (hide h2) w hg hd hi
        · by_cases t2 : z = x + 1
          · exact bk_up x r _ z hr (by rw [beq_eq_false_iff_ne]; exact t1) (by rw [beq_iff_eq, ← t2, wrap_in hz]) (hide h1) (hide h2) w hg hd hi
          · have t3 : z = x - 1 := by omega
            have n2 : ¬ z = wrap64 (x + 1) := by unfold wrap64; have := hx.lo; have := hx.hi; omega
            exact bk_down x r _ z hr (by rw [beq_eq_false_iff_ne]; exact t1) (by rw [beq_eq_false_iff_ne]; exact n2) (by rw [beq_iff_eq, ← t3, wrap_in hz]) (hide h1) (hide h2) w hg hd hi
      · rw [okN_out t, okE_out t] at h1
        by_cases u1 : 576460752303423488 < x
        · exact bk_hi x r hr (decide_eq_true u1) (hide h1) w hg hd hi
        · by_cases u2 : x < -576460752303423488
          · exact bk_lo x r hr (decide_eq_false u1) (decide_eq_true u2) (hide h1) w hg hd hi
          · exact absurd (turn_in (grow_in hm (by omega) (by omega))) t
    · exact bk_no x r hr (decide_eq_true (by unfold May at hm; omega)) (hide (grow_no hm)) w hg hd hi
theorem own : ownKnob Try.prog.godebug = none := by kernel_rfl
set_option linter.unusedVariables false in
set_option maxRecDepth 100000 in
theorem lifted (os : Os) (started : os.Started) (H : Type) (enc : TypeId × Value → H) :
    ReturnsInHanded {} Try.checked os 5 .any (Rows.rateBackSpec.pre6 enc Try.prog Try.f5 Rows.rateBackRow.domain false) (Rows.rateBackSpec.post enc Try.prog Try.f5 false true false false) := by
  refine returnsInHanded_of_change (C := Try.checked) own started (by kernel_rfl) Try.func5
    (ChangeSpec.witness6 (enc := enc) (C := Try.checked) false ⟨#[], #[.int .i64 0, .int .i64 0], []⟩ 8 (by kernel_rfl) (by kernel_rfl) (by kernel_rfl) (by kernel_rfl)) ?_
  intro W base args ds gs before hval0 hW hcnd _
  have hval : ∀ (j : Nat) t v, Try.f5.params[j]? = some t → args[j]? = some v → Value.okWide Try.prog W .any base t v := hval0
  have hW' := hW
  obtain ⟨p, q, hA0, hV, rfl, hfz, hnd⟩ := hW
  have hA : DataW.TrodAll enc Try.prog W 0 (fun _ => true) true Try.f5.params.toList args.toList ds p := hA0
  rw [Try.params5] at hA hval
  obtain ⟨v0, vs0, d0, ds0, p0, q0, hargs, rfl, rfl, h0, r0⟩ := trodAll_cons hA
  obtain ⟨v1, vs1, d1, ds1, p1, q1, rfl, rfl, rfl, h1, r1⟩ := trodAll_cons r0
  obtain ⟨rfl, rfl, rfl⟩ := trodAll_nil r1
  obtain rfl : args = #[v0, v1] := by cases args; simp_all
  obtain ⟨rfl, rfl⟩ := trodVars_none hV
  obtain ⟨a0, rfl, rfl, rfl, w0⟩ := open_int Try.underlying2 (hval 0 2 v0 rfl rfl) h0
  obtain ⟨a1, rfl, rfl, rfl, w1⟩ := open_int Try.underlying2 (hval 1 2 v1 rfl rfl) h1
  clear hA0 hval0
  simp only [List.append_nil] at hW'
  refine (walk a0 a1 W w0 w1).mono fun e W' ⟨he, bel⟩ => ?_
  subst he
  exact ⟨_, rfl, _, _, _, [], _, [], hW', trodAll_mk1 (shut_bool Try.underlying4 _), (trodAll_cons_mk (shut_int Try.underlying2 w0) (trodAll_cons_mk (shut_int Try.underlying2 w1) trodAll_mk0)), rfl, bel.frame _, fun h => by cases h⟩
theorem over : Rows.rateBackRow.holds Try.pinned (OpenSpec.ofChange Rows.rateBackSpec) :=
  OpenClaim.holds_of_wide 5 Try.f5 rfl rfl rfl rfl rfl rfl rfl ⟨rfl, rfl, rfl, rfl, rfl⟩ rfl rfl rfl rfl rfl (by kernel_rfl) Try.func5 (by kernel_rfl)
    (of_decide_eq_true (by kernel_rfl)) (by unfold Func.isWrapper; first | (rw [if_pos (by decide +kernel)]; kernel_rfl) | (rw [if_neg (by decide +kernel)]; exact ⟨rfl, rfl⟩))
    (fun os started H enc _ => lifted os started H enc)
/-- The statement. -/
theorem proved : Rows.RateBackSaid := over
#print axioms proved
end Go.Proofs.Ytdejpbbiomdkjaa.rateBack
namespace Go.Proofs.Ytdejpbbiomdkjaa
theorem rateBack_holds : Rows.RateBackSaid := rateBack.proved
end Go.Proofs.Ytdejpbbiomdkjaa
