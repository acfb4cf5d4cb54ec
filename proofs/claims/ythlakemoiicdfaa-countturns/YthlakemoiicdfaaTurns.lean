/- Proved here: CountTurns: of three days, in each way of counting, the other way round it is the negative, and the outer ones are as far apart as both with the one between. No condition. -/
import Derived.Test.YthlakemoiicdfaaAlive
import Derived.WalkKit
import Derived.WalkSpells
import Derived.ProofKit
import Derived.OpenShut
import Derived.ShutString
import Derived.ChangeOld
import Derived.Below
namespace Go.Proofs.Ythlakemoiicdfaa.countTurns
open Go.ChangeShapes Go.WideShapes Go.ChangeAt Go.RowKit
open Dy (date_of ds)
set_option linter.unusedSimpArgs false
/-- What the four calls of one way answer. -/
def T3 (a b c k : Int) : Prop :=
  (∃ p q : Int, -4000000 ≤ p ∧ p ≤ 4000000 ∧ -4000000 ≤ q ∧ q ≤ 4000000 ∧ DaysA a b k p 0 ∧ DaysA b a k (-p) 0 ∧ DaysA b c k q 0 ∧ DaysA a c k (p + q) 0) ∨
  (∃ p : Int, -4000000 ≤ p ∧ p ≤ 4000000 ∧ DaysA a b k p 0 ∧ DaysA b a k (-p) 0 ∧ DaysA b c k 0 5 ∧ DaysA a c k 0 5) ∨
  (∃ q g r h : Int, DaysA a b k 0 5 ∧ DaysA b a k 0 5 ∧ DaysA b c k q g ∧ DaysA a c k r h)
/-- A day has a place, or it is none. -/
def Pl (f : Nat) (n : Int) : Prop := (∃ v : Int, 1 ≤ v ∧ v ≤ 4000000 ∧ Place f n v 0) ∨ Place f n 0 5
theorem pl27 (n : Int) : Pl 27 n := by
  by_cases h : 1 ≤ n ∧ n ≤ 3652059
  · obtain ⟨y, m, d, hv, rfl⟩ := date_of n h.1 h.2
    have := fp_bd hv
    exact Or.inl ⟨_, by omega, by omega, flat_ok hv⟩
  · exact Or.inr (flat_no n (by omega))
theorem pl28 (n : Int) : Pl 28 n := by
  by_cases h : 1 ≤ n ∧ n ≤ 3652059
  · exact Or.inl ⟨n, by omega, by omega, real_ok n h.1 h.2⟩
  · exact Or.inr (real_no n (by omega))
theorem days_some1 (a b : Int) : ∃ v e, DaysA a b 1 v e := by
  rcases pl27 a with ⟨v, v1, v2, ha⟩ | ha
  · rcases pl27 b with ⟨u, u1, u2, hb⟩ | hb
    · exact ⟨_, _, days_1 a b v u v1 v2 u1 u2 (hide ha) (hide hb)⟩
    · exact ⟨_, _, days_1b a b v (hide ha) (hide hb)⟩
  · exact ⟨_, _, days_1a a b (hide ha)⟩
theorem t3_1 (a b c : Int) : T3 a b c 1 := by
  rcases pl27 a with ⟨v, v1, v2, ha⟩ | ha
  · rcases pl27 b with ⟨u, u1, u2, hb⟩ | hb
    · have hba := days_1 b a u v u1 u2 v1 v2 (hide hb) (hide ha)
      rw [show v - u = -(u - v) from by omega] at hba
      rcases pl27 c with ⟨z, z1, z2, hc⟩ | hc
      · have hac := days_1 a c v z v1 v2 z1 z2 (hide ha) (hide hc)
        rw [show z - v = (u - v) + (z - u) from by omega] at hac
        exact Or.inl ⟨u - v, z - u, by omega, by omega, by omega, by omega, days_1 a b v u v1 v2 u1 u2 (hide ha) (hide hb), hba, days_1 b c u z u1 u2 z1 z2 (hide hb) (hide hc), hac⟩
      · exact Or.inr (Or.inl ⟨u - v, by omega, by omega, days_1 a b v u v1 v2 u1 u2 (hide ha) (hide hb), hba, days_1b b c u (hide hb) (hide hc), days_1b a c v (hide ha) (hide hc)⟩)
    · obtain ⟨q, g, hq⟩ := days_some1 b c
      obtain ⟨r, h, hr⟩ := days_some1 a c
      exact Or.inr (Or.inr ⟨q, g, r, h, days_1b a b v (hide ha) (hide hb), days_1a b a (hide hb), hq, hr⟩)
  · obtain ⟨q, g, hq⟩ := days_some1 b c
    obtain ⟨r, h, hr⟩ := days_some1 a c
    refine Or.inr (Or.inr ⟨q, g, r, h, days_1a a b (hide ha), ?_, hq, hr⟩)
    rcases pl27 b with ⟨u, u1, u2, hb⟩ | hb
    · exact days_1b b a u (hide hb) (hide ha)
    · exact days_1a b a (hide hb)
theorem days_some2 (a b : Int) : ∃ v e, DaysA a b 2 v e := by
  rcases pl28 a with ⟨v, v1, v2, ha⟩ | ha
  · rcases pl28 b with ⟨u, u1, u2, hb⟩ | hb
    · exact ⟨_, _, days_2 a b v u v1 v2 u1 u2 (hide ha) (hide hb)⟩
    · exact ⟨_, _, days_2b a b v (hide ha) (hide hb)⟩
  · exact ⟨_, _, days_2a a b (hide ha)⟩
theorem t3_2 (a b c : Int) : T3 a b c 2 := by
  rcases pl28 a with ⟨v, v1, v2, ha⟩ | ha
  · rcases pl28 b with ⟨u, u1, u2, hb⟩ | hb
    · have hba := days_2 b a u v u1 u2 v1 v2 (hide hb) (hide ha)
      rw [show v - u = -(u - v) from by omega] at hba
      rcases pl28 c with ⟨z, z1, z2, hc⟩ | hc
      · have hac := days_2 a c v z v1 v2 z1 z2 (hide ha) (hide hc)
        rw [show z - v = (u - v) + (z - u) from by omega] at hac
        exact Or.inl ⟨u - v, z - u, by omega, by omega, by omega, by omega, days_2 a b v u v1 v2 u1 u2 (hide ha) (hide hb), hba, days_2 b c u z u1 u2 z1 z2 (hide hb) (hide hc), hac⟩
      · exact Or.inr (Or.inl ⟨u - v, by omega, by omega, days_2 a b v u v1 v2 u1 u2 (hide ha) (hide hb), hba, days_2b b c u (hide hb) (hide hc), days_2b a c v (hide ha) (hide hc)⟩)
    · obtain ⟨q, g, hq⟩ := days_some2 b c
      obtain ⟨r, h, hr⟩ := days_some2 a c
      exact Or.inr (Or.inr ⟨q, g, r, h, days_2b a b v (hide ha) (hide hb), days_2a b a (hide hb), hq, hr⟩)
  · obtain ⟨q, g, hq⟩ := days_some2 b c
    obtain ⟨r, h, hr⟩ := days_some2 a c
    refine Or.inr (Or.inr ⟨q, g, r, h, days_2a a b (hide ha), ?_, hq, hr⟩)
    rcases pl28 b with ⟨u, u1, u2, hb⟩ | hb
    · exact days_2b b a u (hide hb) (hide ha)
    · exact days_2a b a (hide hb)
theorem days_some3 (a b : Int) : ∃ v e, DaysA a b 3 v e := by
  rcases pl28 a with ⟨v, v1, v2, ha⟩ | ha
  · rcases pl28 b with ⟨u, u1, u2, hb⟩ | hb
    · exact ⟨_, _, days_3 a b v u v1 v2 u1 u2 (hide ha) (hide hb)⟩
    · exact ⟨_, _, days_3b a b v (hide ha) (hide hb)⟩
  · exact ⟨_, _, days_3a a b (hide ha)⟩
theorem t3_3 (a b c : Int) : T3 a b c 3 := by
  rcases pl28 a with ⟨v, v1, v2, ha⟩ | ha
  · rcases pl28 b with ⟨u, u1, u2, hb⟩ | hb
    · have hba := days_3 b a u v u1 u2 v1 v2 (hide hb) (hide ha)
      rw [show v - u = -(u - v) from by omega] at hba
      rcases pl28 c with ⟨z, z1, z2, hc⟩ | hc
      · have hac := days_3 a c v z v1 v2 z1 z2 (hide ha) (hide hc)
        rw [show z - v = (u - v) + (z - u) from by omega] at hac
        exact Or.inl ⟨u - v, z - u, by omega, by omega, by omega, by omega, days_3 a b v u v1 v2 u1 u2 (hide ha) (hide hb), hba, days_3 b c u z u1 u2 z1 z2 (hide hb) (hide hc), hac⟩
      · exact Or.inr (Or.inl ⟨u - v, by omega, by omega, days_3 a b v u v1 v2 u1 u2 (hide ha) (hide hb), hba, days_3b b c u (hide hb) (hide hc), days_3b a c v (hide ha) (hide hc)⟩)
    · obtain ⟨q, g, hq⟩ := days_some3 b c
      obtain ⟨r, h, hr⟩ := days_some3 a c
      exact Or.inr (Or.inr ⟨q, g, r, h, days_3b a b v (hide ha) (hide hb), days_3a b a (hide hb), hq, hr⟩)
  · obtain ⟨q, g, hq⟩ := days_some3 b c
    obtain ⟨r, h, hr⟩ := days_some3 a c
    refine Or.inr (Or.inr ⟨q, g, r, h, days_3a a b (hide ha), ?_, hq, hr⟩)
    rcases pl28 b with ⟨u, u1, u2, hb⟩ | hb
    · exact days_3b b a u (hide hb) (hide ha)
    · exact days_3a b a (hide hb)
theorem t3_all (a b c : Int) (k : Nat) (h1 : 1 ≤ k) (h2 : k ≤ 3) : T3 a b c k := by
  rcases (show k = 1 ∨ k = 2 ∨ k = 3 by omega) with rfl | rfl | rfl
  · exact t3_1 a b c
  · exact t3_2 a b c
  · exact t3_3 a b c
set_option maxRecDepth 20000 in
set_option maxHeartbeats 4000000 in
theorem walk (a b c : Int) (w : World) (_wa : (Lit.int .i64 a).wf = true) (_wb : (Lit.int .i64 b).wf = true) (_wc : (Lit.int .i64 c).wf = true) : Calls Try.prog 4 #[.int .i64 a, .int .i64 b, .int .i64 c] w fun e w' => e = .returned (.bool true) ∧ Below w.heap.size w w' := by
  have hal := hide alive_any
  have H := hide (t3_all a b c)
  clear _wa _wb _wc
  go_enter Try.func4, Try.ntmps4
  go_wp2_with fail
  refine (unhide hal _).mono ?_
  rintro e w1 ⟨rfl, hb1⟩
  replace hb1 := hide hb1
  go_wp2_with fail
  go_loopw [7] (fun i wr => ∃ (k : Nat), 1 ≤ k ∧ k ≤ 4 ∧ i = .int .i64 k ∧ Hid (Below w.heap.size w wr)) (fun i _ => 4 - (intOf i).toNat)
  case atStart => exact ⟨1, by omega, by omega, rfl, hb1⟩
  case round =>
    clear hb1 hal
    obtain ⟨k, hk1, hk2, rfl, HB⟩ := hrel
    by_cases hlt : k ≤ 3
    · have hlt' : decide ((k : Int) ≤ 3) = true := decide_eq_true (by omega)
      rcases unhide H k hk1 hlt with ⟨p, q, p1, p2, q1', q2', q1, q2, q3, q4⟩ | ⟨p, p1, p2, q1, q2, q3, q4⟩ | ⟨q, g, r, h, q1, q2, q3, q4⟩ <;> clear H
      · replace q1 := hide q1
        replace q2 := hide q2
        replace q3 := hide q3
        replace q4 := hide q4
        go_wp2_with fail
        refine (unhide q1 _).mono ?_
        rintro e w2 ⟨rfl, hb2⟩
        replace hb2 := hide (below_via (unhide HB) hb2)
        clear HB
        go_wp2_with fail
        refine (unhide q2 _).mono ?_
        rintro e w3 ⟨rfl, hb3⟩
        replace hb3 := hide (below_via (unhide hb2) hb3)
        clear hb2
        go_wp2_with fail
        refine (unhide q3 _).mono ?_
        rintro e w4 ⟨rfl, hb4⟩
        replace hb4 := hide (below_via (unhide hb3) hb4)
        clear hb3
        go_wp2_with fail
        refine (unhide q4 _).mono ?_
        rintro e w5 ⟨rfl, hb5⟩
        replace hb5 := hide (below_via (unhide hb4) hb5)
        clear hb4
        go_wp2_with fail
        go_roundw
        case rel => exact ⟨k + 1, by omega, by omega, by go_num, hb5⟩
        case measure => simp [intOf]; omega
      · replace q1 := hide q1
        replace q2 := hide q2
        replace q3 := hide q3
        replace q4 := hide q4
        go_wp2_with fail
        refine (unhide q1 _).mono ?_
        rintro e w2 ⟨rfl, hb2⟩
        replace hb2 := hide (below_via (unhide HB) hb2)
        clear HB
        go_wp2_with fail
        refine (unhide q2 _).mono ?_
        rintro e w3 ⟨rfl, hb3⟩
        replace hb3 := hide (below_via (unhide hb2) hb3)
        clear hb2
        go_wp2_with fail
        refine (unhide q3 _).mono ?_
        rintro e w4 ⟨rfl, hb4⟩
        replace hb4 := hide (below_via (unhide hb3) hb4)
        clear hb3
        go_wp2_with fail
        refine (unhide q4 _).mono ?_
        rintro e w5 ⟨rfl, hb5⟩
        replace hb5 := hide (below_via (unhide hb4) hb5)
        clear hb4
        go_wp2_with fail
        go_roundw
        case rel => exact ⟨k + 1, by omega, by omega, by go_num, hb5⟩
        case measure => simp [intOf]; omega
      · replace q1 := hide q1
        replace q2 := hide q2
        replace q3 := hide q3
        replace q4 := hide q4
        go_wp2_with fail
        refine (unhide q1 _).mono ?_
        rintro e w2 ⟨rfl, hb2⟩
        replace hb2 := hide (below_via (unhide HB) hb2)
        clear HB
        go_wp2_with fail
        refine (unhide q2 _).mono ?_
        rintro e w3 ⟨rfl, hb3⟩
        replace hb3 := hide (below_via (unhide hb2) hb3)
        clear hb2
        go_wp2_with fail
        refine (unhide q3 _).mono ?_
        rintro e w4 ⟨rfl, hb4⟩
        replace hb4 := hide (below_via (unhide hb3) hb4)
        clear hb3
        go_wp2_with fail
        refine (unhide q4 _).mono ?_
        rintro e w5 ⟨rfl, hb5⟩
        replace hb5 := hide (below_via (unhide hb4) hb5)
        clear hb4
        go_wp2_with fail
        go_roundw
        case rel => exact ⟨k + 1, by omega, by omega, by go_num, hb5⟩
        case measure => simp [intOf]; omega
    · have hk : k = 4 := by omega
      subst hk
      clear H
      go_wp2_with fail
      go_ret
      exact ⟨rfl, unhide HB⟩
theorem own : ownKnob Try.prog.godebug = none := by kernel_rfl
set_option linter.unusedVariables false in
set_option maxRecDepth 100000 in
theorem lifted (os : Os) (started : os.Started) (H : Type) (enc : TypeId × Value → H) :
    ReturnsInHanded {} Try.checked os 4 .any (Rows.countTurnsSpec.pre6 enc Try.prog Try.f4 Rows.countTurnsRow.domain false) (Rows.countTurnsSpec.post enc Try.prog Try.f4 false true false false) := by
  refine returnsInHanded_of_change (C := Try.checked) own started (by kernel_rfl) Try.func4
    (ChangeSpec.witness6 (enc := enc) (C := Try.checked) false ⟨#[], #[.int .i64 0, .int .i64 0, .int .i64 0], []⟩ 8 (by kernel_rfl) (by kernel_rfl) (by kernel_rfl) (by kernel_rfl)) ?_
  intro W base args ds gs before hval0 hW hcnd _
  have hval : ∀ (j : Nat) t v, Try.f4.params[j]? = some t → args[j]? = some v → Value.okWide Try.prog W .any base t v := hval0
  have hW' := hW
  obtain ⟨p, q, hA0, hV, rfl, hfz, hnd⟩ := hW
  have hA : DataW.TrodAll enc Try.prog W 0 (fun _ => true) true Try.f4.params.toList args.toList ds p := hA0
  rw [Try.params4] at hA hval
  obtain ⟨v0, vs0, d0, ds0, p0, q0, hargs, rfl, rfl, h0, r0⟩ := trodAll_cons hA
  obtain ⟨v1, vs1, d1, ds1, p1, q1, rfl, rfl, rfl, h1, r1⟩ := trodAll_cons r0
  obtain ⟨v2, vs2, d2, ds2, p2, q2, rfl, rfl, rfl, h2, r2⟩ := trodAll_cons r1
  obtain ⟨rfl, rfl, rfl⟩ := trodAll_nil r2
  obtain rfl : args = #[v0, v1, v2] := by cases args; simp_all
  obtain ⟨rfl, rfl⟩ := trodVars_none hV
  obtain ⟨a0, rfl, rfl, rfl, w0⟩ := open_int Try.underlying3 (hval 0 3 v0 rfl rfl) h0
  obtain ⟨a1, rfl, rfl, rfl, w1⟩ := open_int Try.underlying3 (hval 1 3 v1 rfl rfl) h1
  obtain ⟨a2, rfl, rfl, rfl, w2⟩ := open_int Try.underlying3 (hval 2 3 v2 rfl rfl) h2
  clear hA0 hval0
  simp only [List.append_nil] at hW'
  refine (walk a0 a1 a2 W w0 w1 w2).mono fun e W' ⟨he, bel⟩ => ?_
  subst he
  exact ⟨_, rfl, _, _, _, [], _, [], hW', trodAll_mk1 (shut_bool Try.underlying4 _), (trodAll_cons_mk (shut_int Try.underlying3 w0) (trodAll_cons_mk (shut_int Try.underlying3 w1) (trodAll_cons_mk (shut_int Try.underlying3 w2) trodAll_mk0))), rfl, bel.frame _, fun h => by cases h⟩
theorem over : Rows.countTurnsRow.holds Try.pinned (OpenSpec.ofChange Rows.countTurnsSpec) :=
  OpenClaim.holds_of_wide 4 Try.f4 rfl rfl rfl rfl rfl rfl rfl ⟨rfl, rfl, rfl, rfl, rfl⟩ rfl rfl rfl rfl rfl (by kernel_rfl) Try.func4 (by kernel_rfl)
    (of_decide_eq_true (by kernel_rfl)) (by unfold Func.isWrapper; first | (rw [if_pos (by decide +kernel)]; kernel_rfl) | (rw [if_neg (by decide +kernel)]; exact ⟨rfl, rfl⟩))
    (fun os started H enc _ => lifted os started H enc)
/-- The statement. -/
theorem proved : Rows.CountTurnsSaid := over
#print axioms proved
end Go.Proofs.Ythlakemoiicdfaa.countTurns
namespace Go.Proofs.Ythlakemoiicdfaa
theorem countTurns_holds : Rows.CountTurnsSaid := countTurns.proved
end Go.Proofs.Ythlakemoiicdfaa
