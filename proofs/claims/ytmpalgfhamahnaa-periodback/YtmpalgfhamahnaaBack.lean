/- Proved here: PeriodBack: from any day not beyond the 28th, months on and back is the same day, and two steps go as far as one of both. No condition. -/
import Derived.Test.YtmpalgfhamahnaaAlive
import Derived.ProofKit
import Derived.OpenShut
import Derived.ShutString
import Derived.ChangeOld
import Derived.Below
namespace Go.Proofs.Ytmpalgfhamahnaa.periodBack
open Go.ChangeShapes Go.WideShapes Go.ChangeAt Go.RowKit
set_option linter.unusedSimpArgs false
set_option linter.unusedVariables false in
set_option maxRecDepth 20000 in
set_option maxHeartbeats 2000000 in
theorem b_no (n k q : Int) (hal : Hid (∀ w : World, Calls Try.prog 9 #[] w fun e w' => e = .returned (.bool true) ∧ Below w.heap.size w w')) (hT : Hid (Tos n 0 0 0 5)) (w : World) : Calls Try.prog 6 #[.int .i64 n, .int .i64 k, .int .i64 q] w fun e w' => e = .returned (.bool true) ∧ Below w.heap.size w w' := by
  go_enter Try.func6, Try.ntmps6
  go_wp2_with fail
  refine (unhide hal _).mono ?_
  rintro e w1 ⟨rfl, hb1⟩
  replace hb1 := hide hb1
  go_wp2_with fail
  refine (unhide hT _).mono ?_
  rintro e w2 ⟨rfl, hb2⟩
  replace hb2 := hide (below_via (below_via (unhide hb1) hb2) ((Below.refl w2.heap.size w2).alloc (Nat.le_refl _) (.cells #[.int .i64 0, .int .i64 0, .int .i64 0] 37)))
  clear hb1
  go_wp2_with fail
  go_ret
  exact ⟨rfl, unhide hb2⟩
set_option linter.unusedVariables false in
set_option maxRecDepth 20000 in
set_option maxHeartbeats 2000000 in
theorem b_28 (n k q y m d : Int) (hal : Hid (∀ w : World, Calls Try.prog 9 #[] w fun e w' => e = .returned (.bool true) ∧ Below w.heap.size w w')) (hT : Hid (Tos n y m d 0)) (d1 : decide (28 < d) = true) (w : World) : Calls Try.prog 6 #[.int .i64 n, .int .i64 k, .int .i64 q] w fun e w' => e = .returned (.bool true) ∧ Below w.heap.size w w' := by
  go_enter Try.func6, Try.ntmps6
  go_wp2_with fail
  refine (unhide hal _).mono ?_
  rintro e w1 ⟨rfl, hb1⟩
  replace hb1 := hide hb1
  go_wp2_with fail
  refine (unhide hT _).mono ?_
  rintro e w2 ⟨rfl, hb2⟩
  replace hb2 := hide (below_via (below_via (unhide hb1) hb2) ((Below.refl w2.heap.size w2).alloc (Nat.le_refl _) (.cells #[.int .i64 y, .int .i64 m, .int .i64 d] 37)))
  clear hb1
  go_wp2_with fail
  go_ret
  exact ⟨rfl, unhide hb2⟩
set_option linter.unusedVariables false in
set_option maxRecDepth 20000 in
set_option maxHeartbeats 2000000 in
theorem b_er (n k q y m d : Int) (hal : Hid (∀ w : World, Calls Try.prog 9 #[] w fun e w' => e = .returned (.bool true) ∧ Below w.heap.size w w')) (hT : Hid (Tos n y m d 0)) (d1 : decide (28 < d) = false) (g : Int) (g0 : (g != 0) = true) (hM : Hid (MonsA n k false 0 g)) (w : World) : Calls Try.prog 6 #[.int .i64 n, .int .i64 k, .int .i64 q] w fun e w' => e = .returned (.bool true) ∧ Below w.heap.size w w' := by
  go_enter Try.func6, Try.ntmps6
  go_wp2_with fail
  refine (unhide hal _).mono ?_
  rintro e w1 ⟨rfl, hb1⟩
  replace hb1 := hide hb1
  go_wp2_with fail
  refine (unhide hT _).mono ?_
  rintro e w2 ⟨rfl, hb2⟩
  replace hb2 := hide (below_via (below_via (unhide hb1) hb2) ((Below.refl w2.heap.size w2).alloc (Nat.le_refl _) (.cells #[.int .i64 y, .int .i64 m, .int .i64 d] 37)))
  clear hb1
  go_wp2_with fail
  refine (unhide hM _).mono ?_
  rintro e w3 ⟨rfl, hb3⟩
  replace hb3 := hide (below_via (unhide hb2) hb3)
  clear hb2
  go_wp2_with fail
  go_ret
  exact ⟨rfl, unhide hb3⟩
set_option linter.unusedVariables false in
set_option maxRecDepth 20000 in
set_option maxHeartbeats 2000000 in
theorem b_1 (n k q y m d : Int) (hal : Hid (∀ w : World, Calls Try.prog 9 #[] w fun e w' => e = .returned (.bool true) ∧ Below w.heap.size w w')) (hT : Hid (Tos n y m d 0)) (d1 : decide (28 < d) = false) (a : Int) (hM : Hid (MonsA n k false a 0)) (k1 : -12000 ≤ k) (k2 : k ≤ 12000) (hk : IntKind.i64.wrap (-k) = -k) (hB : Hid (MonsA a (-k) false n 0)) (c g : Int) (g0 : (g != 0) = true) (hC : Hid (MonsA a q false c g)) (w : World) : Calls Try.prog 6 #[.int .i64 n, .int .i64 k, .int .i64 q] w fun e w' => e = .returned (.bool true) ∧ Below w.heap.size w w' := by
  go_enter Try.func6, Try.ntmps6
  go_wp2_with fail
  refine (unhide hal _).mono ?_
  rintro e w1 ⟨rfl, hb1⟩
  replace hb1 := hide hb1
  go_wp2_with fail
  refine (unhide hT _).mono ?_
  rintro e w2 ⟨rfl, hb2⟩
  replace hb2 := hide (below_via (below_via (unhide hb1) hb2) ((Below.refl w2.heap.size w2).alloc (Nat.le_refl _) (.cells #[.int .i64 y, .int .i64 m, .int .i64 d] 37)))
  clear hb1
  go_wp2_with fail
  refine (unhide hM _).mono ?_
  rintro e w3 ⟨rfl, hb3⟩
  replace hb3 := hide (below_via (unhide hb2) hb3)
  clear hb2
  go_wp2_with fail
  refine (unhide hB _).mono ?_
  rintro e w4 ⟨rfl, hb4⟩
  replace hb4 := hide (below_via (unhide hb3) hb4)
  clear hb3
  go_wp2_with fail
  refine (unhide hC _).mono ?_
  rintro e w5 ⟨rfl, hb5⟩
  replace hb5 := hide (below_via (unhide hb4) hb5)
  clear hb4
  go_wp2_with fail
  go_ret
  exact ⟨rfl, unhide hb5⟩
set_option linter.unusedVariables false in
set_option maxRecDepth 20000 in
set_option maxHeartbeats 2000000 in
theorem b_2 (n k q y m d : Int) (hal : Hid (∀ w : World, Calls Try.prog 9 #[] w fun e w' => e = .returned (.bool true) ∧ Below w.heap.size w w')) (hT : Hid (Tos n y m d 0)) (d1 : decide (28 < d) = false) (a : Int) (hM : Hid (MonsA n k false a 0)) (k1 : -12000 ≤ k) (k2 : k ≤ 12000) (hk : IntKind.i64.wrap (-k) = -k) (hB : Hid (MonsA a (-k) false n 0)) (c : Int) (hC : Hid (MonsA a q false c 0)) (q1 : -12000 ≤ q) (q2 : q ≤ 12000) (q3 : decide (q < -12000) = false) (q4 : decide (12000 < q) = false) (s1 : decide (k + q < -12000) = true) (w : World) : Calls Try.prog 6 #[.int .i64 n, .int .i64 k, .int .i64 q] w fun e w' => e = .returned (.bool true) ∧ Below w.heap.size w w' := by
  go_enter Try.func6, Try.ntmps6
  go_wp2_with fail
  refine (unhide hal _).mono ?_
  rintro e w1 ⟨rfl, hb1⟩
  replace hb1 := hide hb1
  go_wp2_with fail
  refine (unhide hT _).mono ?_
  rintro e w2 ⟨rfl, hb2⟩
  replace hb2 := hide (below_via (below_via (unhide hb1) hb2) ((Below.refl w2.heap.size w2).alloc (Nat.le_refl _) (.cells #[.int .i64 y, .int .i64 m, .int .i64 d] 37)))
  clear hb1
  go_wp2_with fail
  refine (unhide hM _).mono ?_
  rintro e w3 ⟨rfl, hb3⟩
  replace hb3 := hide (below_via (unhide hb2) hb3)
  clear hb2
  go_wp2_with fail
  refine (unhide hB _).mono ?_
  rintro e w4 ⟨rfl, hb4⟩
  replace hb4 := hide (below_via (unhide hb3) hb4)
  clear hb3
  go_wp2_with fail
  refine (unhide hC _).mono ?_
  rintro e w5 ⟨rfl, hb5⟩
  replace hb5 := hide (below_via (unhide hb4) hb5)
  clear hb4
  go_wp2_with fail
  go_ret
  exact ⟨rfl, unhide hb5⟩
set_option linter.unusedVariables false in
set_option maxRecDepth 20000 in
set_option maxHeartbeats 2000000 in
theorem b_3 (n k q y m d : Int) (hal : Hid (∀ w : World, Calls Try.prog 9 #[] w fun e w' => e = .returned (.bool true) ∧ Below w.heap.size w w')) (hT : Hid (Tos n y m d 0)) (d1 : decide (28 < d) = false) (a : Int) (hM : Hid (MonsA n k false a 0)) (k1 : -12000 ≤ k) (k2 : k ≤ 12000) (hk : IntKind.i64.wrap (-k) = -k) (hB : Hid (MonsA a (-k) false n 0)) (c : Int) (hC : Hid (MonsA a q false c 0)) (q1 : -12000 ≤ q) (q2 : q ≤ 12000) (q3 : decide (q < -12000) = false) (q4 : decide (12000 < q) = false) (s1 : decide (k + q < -12000) = false) (s2 : decide (12000 < k + q) = true) (w : World) : Calls Try.prog 6 #[.int .i64 n, .int .i64 k, .int .i64 q] w fun e w' => e = .returned (.bool true) ∧ Below w.heap.size w w' := by
  go_enter Try.func6, Try.ntmps6
  go_wp2_with fail
  refine (unhide hal _).mono ?_
  rintro e w1 ⟨rfl, hb1⟩
  replace hb1 := hide hb1
  go_wp2_with fail
  refine (unhide hT _).mono ?_
  rintro e w2 ⟨rfl, hb2⟩
  replace hb2 := hide (below_via (below_via (unhide hb1) hb2) ((Below.refl w2.heap.size w2).alloc (Nat.le_refl _) (.cells #[.int .i64 y, .int .i64 m, .int .i64 d] 37)))
  clear hb1
  go_wp2_with fail
  refine (unhide hM _).mono ?_
  rintro e w3 ⟨rfl, hb3⟩
  replace hb3 := hide (below_via (unhide hb2) hb3)
  clear hb2
  go_wp2_with fail
  refine (unhide hB _).mono ?_
  rintro e w4 ⟨rfl, hb4⟩
  replace hb4 := hide (below_via (unhide hb3) hb4)
  clear hb3
  go_wp2_with fail
  refine (unhide hC _).mono ?_
  rintro e w5 ⟨rfl, hb5⟩
  replace hb5 := hide (below_via (unhide hb4) hb5)
  clear hb4
  go_wp2_with fail
  go_ret
  exact ⟨rfl, unhide hb5⟩
set_option linter.unusedVariables false in
set_option maxRecDepth 20000 in
set_option maxHeartbeats 2000000 in
theorem b_4 (n k q y m d : Int) (hal : Hid (∀ w : World, Calls Try.prog 9 #[] w fun e w' => e = .returned (.bool true) ∧ Below w.heap.size w w')) (hT : Hid (Tos n y m d 0)) (d1 : decide (28 < d) = false) (a : Int) (hM : Hid (MonsA n k false a 0)) (k1 : -12000 ≤ k) (k2 : k ≤ 12000) (hk : IntKind.i64.wrap (-k) = -k) (hB : Hid (MonsA a (-k) false n 0)) (c : Int) (hC : Hid (MonsA a q false c 0)) (q1 : -12000 ≤ q) (q2 : q ≤ 12000) (q3 : decide (q < -12000) = false) (q4 : decide (12000 < q) = false) (s1 : decide (k + q < -12000) = false) (s2 : decide (12000 < k + q) = false) (hW : Hid (MonsA n (k + q) false c 0)) (w : World) : Calls Try.prog 6 #[.int .i64 n, .int .i64 k, .int .i64 q] w fun e w' => e = .returned (.bool true) ∧ Below w.heap.size w w' := by
  go_enter Try.func6, Try.ntmps6
  go_wp2_with fail
  refine (unhide hal _).mono ?_
  rintro e w1 ⟨rfl, hb1⟩
  replace hb1 := hide hb1
  go_wp2_with fail
  refine (unhide hT _).mono ?_
  rintro e w2 ⟨rfl, hb2⟩
  replace hb2 := hide (below_via (below_via (unhide hb1) hb2) ((Below.refl w2.heap.size w2).alloc (Nat.le_refl _) (.cells #[.int .i64 y, .int .i64 m, .int .i64 d] 37)))
  clear hb1
  go_wp2_with fail
  refine (unhide hM _).mono ?_
  rintro e w3 ⟨rfl, hb3⟩
  replace hb3 := hide (below_via (unhide hb2) hb3)
  clear hb2
  go_wp2_with fail
  refine (unhide hB _).mono ?_
  rintro e w4 ⟨rfl, hb4⟩
  replace hb4 := hide (below_via (unhide hb3) hb4)
  clear hb3
  go_wp2_with fail
  refine (unhide hC _).mono ?_
  rintro e w5 ⟨rfl, hb5⟩
  replace hb5 := hide (below_via (unhide hb4) hb5)
  clear hb4
  go_wp2_with fail
  refine (unhide hW _).mono ?_
  rintro e w6 ⟨rfl, hb6⟩
  replace hb6 := hide (below_via (unhide hb5) hb6)
  clear hb5
  go_wp2_with fail
  go_ret
  exact ⟨rfl, unhide hb6⟩
theorem mon28 {y m d : Int} (h : Valid y m d) (h28 : d ≤ 28) (k : Int) (k3 : -12000 ≤ k) (k4 : k ≤ 12000) :
    (MonsA (num y m d) k false 0 5 ∧ ¬ (1 ≤ (ix y m + k) / 12 ∧ (ix y m + k) / 12 ≤ 9999)) ∨ (MonsA (num y m d) k false (num ((ix y m + k) / 12) ((ix y m + k) % 12 + 1) d) 0 ∧ Valid ((ix y m + k) / 12) ((ix y m + k) % 12 + 1) d) := by
  have hm := mon_any h k false k3 k4
  by_cases c : 1 ≤ (ix y m + k) / 12 ∧ (ix y m + k) / 12 ≤ 9999
  · obtain ⟨a1, a2⟩ := mon_in (last := false && (d == len (leap y) m)) (d := d) c
    rw [a1, a2, Bool.false_and, dOf_28 (by omega) (by omega) h28] at hm
    have := dOf_valid (last := false) (d := d) c.1 c.2 (show 1 ≤ (ix y m + k) % 12 + 1 by omega) (by omega) h.d1
    rw [dOf_28 (by omega) (by omega) h28] at this
    exact Or.inr ⟨hm, this⟩
  · obtain ⟨a1, a2⟩ := mon_out (last := false && (d == len (leap y) m)) (d := d) c
    rw [a1, a2] at hm
    exact Or.inl ⟨hm, c⟩
theorem walk (n k q : Int) (w : World) (_hn : (Lit.int .i64 n).wf = true) (_hk : (Lit.int .i64 k).wf = true) (_hq : (Lit.int .i64 q).wf = true) : Calls Try.prog 6 #[.int .i64 n, .int .i64 k, .int .i64 q] w fun e w' => e = .returned (.bool true) ∧ Below w.heap.size w w' := by
  have hal := hide alive_any
  by_cases hn : 1 ≤ n ∧ n ≤ 3652059
  · obtain ⟨y, m, d, hv, rfl⟩ := date_of n hn.1 hn.2
    have hT := hide (to_ok y m d hv)
    by_cases h28 : d ≤ 28
    · have d1 : decide (28 < d) = false := decide_eq_false (by omega)
      by_cases hk : -12000 ≤ k ∧ k ≤ 12000
      · rcases mon28 hv h28 k hk.1 hk.2 with ⟨hM, _⟩ | ⟨hM, hv2⟩
        · exact b_er _ k q y m d hal hT d1 5 rfl (hide hM) w
        · have hwk : IntKind.i64.wrap (-k) = -k := IntWalk.i64_in _ ⟨by omega, by omega⟩
          have e1 : ix ((ix y m + k) / 12) ((ix y m + k) % 12 + 1) = ix y m + k := ix_of _
          have hB : MonsA (num ((ix y m + k) / 12) ((ix y m + k) % 12 + 1) d) (-k) false (num y m d) 0 := by
            rcases mon28 hv2 h28 (-k) (by omega) (by omega) with ⟨_, c⟩ | ⟨hB, _⟩
            · exfalso
              rw [e1, show ix y m + k + -k = ix y m from by omega, ix_y hv.m1 hv.m2] at c
              exact c ⟨hv.y1, hv.y2⟩
            · rw [e1, show ix y m + k + -k = ix y m from by omega, ix_y hv.m1 hv.m2, ix_m hv.m1 hv.m2] at hB
              exact hB
          by_cases hq : -12000 ≤ q ∧ q ≤ 12000
          · rcases mon28 hv2 h28 q hq.1 hq.2 with ⟨hC, _⟩ | ⟨hC, hv3⟩
            · exact b_1 _ k q y m d hal hT d1 _ (hide hM) hk.1 hk.2 hwk (hide hB) _ 5 rfl (hide hC) w
            · have q3 : decide (q < -12000) = false := decide_eq_false (by omega)
              have q4 : decide (12000 < q) = false := decide_eq_false (by omega)
              by_cases s1 : k + q < -12000
              · exact b_2 _ k q y m d hal hT d1 _ (hide hM) hk.1 hk.2 hwk (hide hB) _ (hide hC) hq.1 hq.2 q3 q4 (decide_eq_true s1) w
              · by_cases s2 : 12000 < k + q
                · exact b_3 _ k q y m d hal hT d1 _ (hide hM) hk.1 hk.2 hwk (hide hB) _ (hide hC) hq.1 hq.2 q3 q4 (decide_eq_false s1) (decide_eq_true s2) w
                · refine b_4 _ k q y m d hal hT d1 _ (hide hM) hk.1 hk.2 hwk (hide hB) _ (hide hC) hq.1 hq.2 q3 q4 (decide_eq_false s1) (decide_eq_false s2) (hide ?_) w
                  rw [e1] at hv3 ⊢
                  rcases mon28 hv h28 (k + q) (by omega) (by omega) with ⟨_, c⟩ | ⟨hW, _⟩
                  · exfalso
                    rw [← Int.add_assoc] at c
                    exact c ⟨hv3.y1, hv3.y2⟩
                  · rw [← Int.add_assoc] at hW
                    exact hW
          · have hC := mon_far hv2 q false hq
            exact b_1 _ k q y m d hal hT d1 _ (hide hM) hk.1 hk.2 hwk (hide hB) _ 2 rfl (hide hC) w
      · exact b_er _ k q y m d hal hT d1 2 rfl (hide (mon_far hv k false hk)) w
    · exact b_28 _ k q y m d hal hT (decide_eq_true (by omega)) w
  · exact b_no n k q hal (hide (to_no n (by omega))) w
theorem own : ownKnob Try.prog.godebug = none := by kernel_rfl
set_option linter.unusedVariables false in
set_option maxRecDepth 100000 in
theorem lifted (os : Os) (started : os.Started) (H : Type) (enc : TypeId × Value → H) :
    ReturnsInHanded {} Try.checked os 6 .any (Rows.periodBackSpec.pre6 enc Try.prog Try.f6 Rows.periodBackRow.domain false) (Rows.periodBackSpec.post enc Try.prog Try.f6 false true false false) := by
  refine returnsInHanded_of_change (C := Try.checked) own started (by kernel_rfl) Try.func6
    (ChangeSpec.witness6 (enc := enc) (C := Try.checked) false ⟨#[], #[.int .i64 0, .int .i64 0, .int .i64 0], []⟩ 8 (by kernel_rfl) (by kernel_rfl) (by kernel_rfl) (by kernel_rfl)) ?_
  intro W base args ds gs before hval0 hW hcnd _
  have hval : ∀ (j : Nat) t v, Try.f6.params[j]? = some t → args[j]? = some v → Value.okWide Try.prog W .any base t v := hval0
  have hW' := hW
  obtain ⟨p, q, hA0, hV, rfl, hfz, hnd⟩ := hW
  have hA : DataW.TrodAll enc Try.prog W 0 (fun _ => true) true Try.f6.params.toList args.toList ds p := hA0
  rw [Try.params6] at hA hval
  obtain ⟨v0, vs0, d0, ds0, p0, q0, hargs, rfl, rfl, h0, r0⟩ := trodAll_cons hA
  obtain ⟨v1, vs1, d1, ds1, p1, q1, rfl, rfl, rfl, h1, r1⟩ := trodAll_cons r0
  obtain ⟨v2, vs2, d2, ds2, p2, q2, rfl, rfl, rfl, h2, r2⟩ := trodAll_cons r1
  obtain ⟨rfl, rfl, rfl⟩ := trodAll_nil r2
  obtain rfl : args = #[v0, v1, v2] := by cases args; simp_all
  obtain ⟨rfl, rfl⟩ := trodVars_none hV
  obtain ⟨a0, rfl, rfl, rfl, w0⟩ := open_int Try.underlying3 (hval 0 3 v0 rfl rfl) h0
  obtain ⟨a1, rfl, rfl, rfl, w1⟩ := open_int Try.underlying3 (hval 1 3 v1 rfl rfl) h1
  obtain ⟨a2, rfl, rfl, rfl, w2⟩ := open_int Try.underlying3 (hval 2 3 v2 rfl rfl) h2
  clear hA0 hval0
  simp only [List.append_nil] at hW'
  refine (walk a0 a1 a2 W w0 w1 w2).mono fun e W' ⟨he, bel⟩ => ?_
  subst he
  exact ⟨_, rfl, _, _, _, [], _, [], hW', trodAll_mk1 (shut_bool Try.underlying4 _), (trodAll_cons_mk (shut_int Try.underlying3 w0) (trodAll_cons_mk (shut_int Try.underlying3 w1) (trodAll_cons_mk (shut_int Try.underlying3 w2) trodAll_mk0))), rfl, bel.frame _, fun h => by cases h⟩
theorem over : Rows.periodBackRow.holds Try.pinned (OpenSpec.ofChange Rows.periodBackSpec) :=
  OpenClaim.holds_of_wide 6 Try.f6 rfl rfl rfl rfl rfl rfl rfl ⟨rfl, rfl, rfl, rfl, rfl⟩ rfl rfl rfl rfl rfl (by kernel_rfl) Try.func6 (by kernel_rfl)
    (of_decide_eq_true (by kernel_rfl)) (by unfold Func.isWrapper; first | (rw [if_pos (by decide +kernel)]; kernel_rfl) | (rw [if_neg (by decide +kernel)]; exact ⟨rfl, rfl⟩))
    (fun os started H enc _ => lifted os started H enc)
/-- The statement. -/
theorem proved : Rows.PeriodBackSaid := over
#print axioms proved
end Go.Proofs.Ytmpalgfhamahnaa.periodBack
namespace Go.Proofs.Ytmpalgfhamahnaa
theorem periodBack_holds : Rows.PeriodBackSaid := periodBack.proved
end Go.Proofs.Ytmpalgfhamahnaa
