/- Proved here: PeriodWorks: at any day from 10000 to 3600000 and any at most 600 holidays, rolled days work, none between works, one that works stays, and Modified stays in the month if a day of it works. No condition. -/
import Derived.Test.YtmpalgfhamahnaaRolled
import Derived.ProofKit
import Derived.OpenShut
import Derived.ShutString
import Derived.ChangeOld
import Derived.Below
namespace Go.Proofs.Ytmpalgfhamahnaa.periodWorks
open Go.ChangeShapes Go.WideShapes Go.ChangeAt Go.RowKit
set_option linter.unusedSimpArgs false
set_option linter.unusedVariables false in
set_option maxRecDepth 20000 in
set_option maxHeartbeats 4000000 in
theorem q_long (n : Int) (a : Option Addr) (l c : Nat) (hal : Hid (∀ w : World, Calls Try.prog 9 #[] w fun e w' => e = .returned (.bool true) ∧ Below w.heap.size w w')) (d1 : decide ((600 : Int) < (l : Int)) = true) (w : World) : Calls Try.prog 7 #[.int .i64 n, .slice a l c] w fun e w' => e = .returned (.bool true) ∧ Below w.heap.size w w' := by
  go_enter Try.func7, Try.ntmps7
  go_wp2_with fail
  refine (unhide hal _).mono ?_
  rintro e w1 ⟨rfl, hb1⟩
  replace hb1 := hide hb1
  go_wp2_with fail
  go_ret
  exact ⟨rfl, unhide hb1⟩
set_option linter.unusedVariables false in
set_option maxRecDepth 20000 in
set_option maxHeartbeats 4000000 in
theorem q_lo (n : Int) (a : Option Addr) (l c : Nat) (hal : Hid (∀ w : World, Calls Try.prog 9 #[] w fun e w' => e = .returned (.bool true) ∧ Below w.heap.size w w')) (d1 : decide ((600 : Int) < (l : Int)) = false) (d2 : decide (n < 10000) = true) (w : World) : Calls Try.prog 7 #[.int .i64 n, .slice a l c] w fun e w' => e = .returned (.bool true) ∧ Below w.heap.size w w' := by
  go_enter Try.func7, Try.ntmps7
  go_wp2_with fail
  refine (unhide hal _).mono ?_
  rintro e w1 ⟨rfl, hb1⟩
  replace hb1 := hide hb1
  go_wp2_with fail
  go_ret
  exact ⟨rfl, unhide hb1⟩
set_option linter.unusedVariables false in
set_option maxRecDepth 20000 in
set_option maxHeartbeats 4000000 in
theorem q_hi (n : Int) (a : Option Addr) (l c : Nat) (hal : Hid (∀ w : World, Calls Try.prog 9 #[] w fun e w' => e = .returned (.bool true) ∧ Below w.heap.size w w')) (d1 : decide ((600 : Int) < (l : Int)) = false) (d2 : decide (n < 10000) = false) (d3 : decide (3600000 < n) = true) (w : World) : Calls Try.prog 7 #[.int .i64 n, .slice a l c] w fun e w' => e = .returned (.bool true) ∧ Below w.heap.size w w' := by
  go_enter Try.func7, Try.ntmps7
  go_wp2_with fail
  refine (unhide hal _).mono ?_
  rintro e w1 ⟨rfl, hb1⟩
  replace hb1 := hide hb1
  go_wp2_with fail
  go_ret
  exact ⟨rfl, unhide hb1⟩
set_option linter.unusedVariables false in
set_option maxRecDepth 20000 in
set_option maxHeartbeats 4000000 in
theorem q_s1 (n u t y m d y' m' d' : Int) (a : Option Addr) (l c : Nat) (hs : List Int) (hal : Hid (∀ w : World, Calls Try.prog 9 #[] w fun e w' => e = .returned (.bool true) ∧ Below w.heap.size w w')) (d1 : decide ((600 : Int) < (l : Int)) = false) (d2 : decide (n < 10000) = false) (d3 : decide (3600000 < n) = false) (t1 : 1 ≤ t) (t2 : t ≤ 3652059) (u2 : u ≤ 3652059)
    (r1 : Hid (RollA n 1 a l c hs u 0)) (r3 : Hid (RollA n 3 a l c hs t 0)) (r2 : Hid (RollA n 2 a l c hs u 0)) (r0 : Hid (RollA n 0 a l c hs n 0)) (hW : Hid (∀ W : World, Row W (.slice a l c) hs → WorksA 17 (.slice a l c) hs W)) (hu : Hid (works hs u = true)) (ht : Hid (works hs t = true)) (hn : Hid (works hs n = true)) (hno : Hid (∀ k : Int, t < k → k < u → works hs k = false)) (hA : Hid (Tos n y m d 0)) (hB : Hid (Tos u y' m' d' 0)) (h1 : (n != n) = false) (h2 : decide (u < n) = false) (h3 : decide (n < t) = false) (h4 : (u != u) = false) (h6 : (u != n) = false) (h7 : (t != n) = false) (e1 : (m == m') = true) (e2 : (y == y') = true) (e3 : (u == u) = true) (w : World) (hR : Hid (Row w (.slice a l c) hs)) : Calls Try.prog 7 #[.int .i64 n, .slice a l c] w fun e w' => e = .returned (.bool true) ∧ Below w.heap.size w w' := by
  go_enter Try.func7, Try.ntmps7
  go_wp2_with fail
  refine (unhide hal _).mono ?_
  rintro e w1 ⟨rfl, hb1⟩
  replace hb1 := hide hb1
  replace hR := hide ((unhide hR).below (unhide hb1) (Nat.le_refl _))
  go_wp2_with fail
  refine (unhide r1 _ (unhide hR)).mono ?_
  rintro e w2 ⟨rfl, hb2⟩
  replace hR := hide ((unhide hR).below hb2 (Nat.le_refl _))
  replace hb2 := hide (below_via (unhide hb1) hb2)
  clear hb1
  go_wp2_with fail
  refine (unhide r3 _ (unhide hR)).mono ?_
  rintro e w3 ⟨rfl, hb3⟩
  replace hR := hide ((unhide hR).below hb3 (Nat.le_refl _))
  replace hb3 := hide (below_via (unhide hb2) hb3)
  clear hb2
  go_wp2_with fail
  refine (unhide r2 _ (unhide hR)).mono ?_
  rintro e w4 ⟨rfl, hb4⟩
  replace hR := hide ((unhide hR).below hb4 (Nat.le_refl _))
  replace hb4 := hide (below_via (unhide hb3) hb4)
  clear hb3
  go_wp2_with fail
  refine (unhide r0 _ (unhide hR)).mono ?_
  rintro e w5 ⟨rfl, hb5⟩
  replace hR := hide ((unhide hR).below hb5 (Nat.le_refl _))
  replace hb5 := hide (below_via (unhide hb4) hb5)
  clear hb4
  have wu := hide (unhide hW _ (unhide hR) u)
  have wt := hide (unhide hW _ (unhide hR) t)
  have wn := hide (unhide hW _ (unhide hR) n)
  rw [unhide hu] at wu
  rw [unhide ht] at wt
  rw [unhide hn] at wn
  go_wp2_with fail
  refine (unhide wu).mono ?_
  rintro e v1 ⟨rfl, rfl⟩
  go_wp2_with fail
  refine (unhide wt).mono ?_
  rintro e v2 ⟨rfl, rfl⟩
  go_wp2_with fail
  refine (unhide wn).mono ?_
  rintro e v3 ⟨rfl, rfl⟩
  go_wp2_with fail
  clear h1 h2 h3 r0 r1 r2 r3 wu wt wn hal
  go_loop [13] (fun i => ∃ j : Nat, i = .int .i64 (t + 1 + (j : Int)) ∧ (j = 0 ∨ t + 1 + (j : Int) ≤ u)) (fun i => 3652060 - (intOf i).toNat)
  case atStart => exact ⟨0, by simp, Or.inl rfl⟩
  case round =>
    obtain ⟨j, rfl, hj⟩ := hrel
    by_cases hlt : t + 1 + (j : Int) < u
    · have o1 : decide (t + 1 + (j : Int) < u) = true := decide_eq_true hlt
      have wk := hide (unhide hW _ (unhide hR) (t + 1 + (j : Int)))
      rw [unhide hno (t + 1 + (j : Int)) (by omega) hlt] at wk
      clear hj
      go_wp2_with fail
      refine (unhide wk).mono ?_
      rintro e v4 ⟨rfl, rfl⟩
      clear wk
      go_wp2_with fail
      go_round
      case rel => exact ⟨j + 1, by congr 1; omega, Or.inr (by omega)⟩
      case measure => simp [intOf]; omega
    · have o1 : decide (t + 1 + (j : Int) < u) = false := decide_eq_false hlt
      clear hj
      go_wp2_with fail
      refine (unhide hA _).mono ?_
      rintro e w6 ⟨rfl, hb6⟩
      have r1 := R3.new w6 y m d
      replace hb6 := hide (below_via (below_via (unhide hb5) hb6) ((Below.refl w6.heap.size w6).alloc (Nat.le_refl _) (.cells #[.int .i64 y, .int .i64 m, .int .i64 d] 37)))
      obtain ⟨b1, eb⟩ : ∃ b1, b1 = w6.heap.size := ⟨_, rfl⟩
      rw [← eb] at r1
      replace r1 := hide r1
      have q1 := (unhide r1).lt
      clear hb5
      go_wp2_with fail
      rw [← eb]
      generalize w6.alloc (.cells #[.int .i64 y, .int .i64 m, .int .i64 d] 37) = W1 at *
      clear eb
      refine (unhide hB _).mono ?_
      rintro e w7 ⟨rfl, hb7⟩
      replace r1 := hide ((unhide r1).keep hb7 q1)
      have r2 := hide (R3.new w7 y' m' d')
      replace r1 := hide ((unhide r1).alloc (.cells #[.int .i64 y', .int .i64 m', .int .i64 d'] 37))
      replace hb7 := hide (below_via (below_via (unhide hb6) hb7) ((Below.refl w7.heap.size w7).alloc (Nat.le_refl _) (.cells #[.int .i64 y', .int .i64 m', .int .i64 d'] 37)))
      have c10 := (unhide r1).c0
      have c11 := (unhide r1).c1
      have c20 := (unhide r2).c0
      have c21 := (unhide r2).c1
      clear hb6 q1
      go_wp2_with fail
      go_ret
      exact ⟨rfl, unhide hb7⟩
set_option linter.unusedVariables false in
set_option maxRecDepth 20000 in
set_option maxHeartbeats 4000000 in
theorem q_s2 (n u t y m d y' m' d' : Int) (a : Option Addr) (l c : Nat) (hs : List Int) (hal : Hid (∀ w : World, Calls Try.prog 9 #[] w fun e w' => e = .returned (.bool true) ∧ Below w.heap.size w w')) (d1 : decide ((600 : Int) < (l : Int)) = false) (d2 : decide (n < 10000) = false) (d3 : decide (3600000 < n) = false) (t1 : 1 ≤ t) (t2 : t ≤ 3652059) (u2 : u ≤ 3652059)
    (r1 : Hid (RollA n 1 a l c hs u 0)) (r3 : Hid (RollA n 3 a l c hs t 0)) (r2 : Hid (RollA n 2 a l c hs u 0)) (r0 : Hid (RollA n 0 a l c hs n 0)) (hW : Hid (∀ W : World, Row W (.slice a l c) hs → WorksA 17 (.slice a l c) hs W)) (hu : Hid (works hs u = true)) (ht : Hid (works hs t = true)) (hn : Hid (works hs n = false)) (hno : Hid (∀ k : Int, t < k → k < u → works hs k = false)) (hA : Hid (Tos n y m d 0)) (hB : Hid (Tos u y' m' d' 0)) (h1 : (n != n) = false) (h2 : decide (u < n) = false) (h3 : decide (n < t) = false) (h4 : (u != u) = false) (e1 : (m == m') = true) (e2 : (y == y') = true) (e3 : (u == u) = true) (w : World) (hR : Hid (Row w (.slice a l c) hs)) : Calls Try.prog 7 #[.int .i64 n, .slice a l c] w fun e w' => e = .returned (.bool true) ∧ Below w.heap.size w w' := by
  go_enter Try.func7, Try.ntmps7
  go_wp2_with fail
  refine (unhide hal _).mono ?_
  rintro e w1 ⟨rfl, hb1⟩
  replace hb1 := hide hb1
  replace hR := hide ((unhide hR).below (unhide hb1) (Nat.le_refl _))
  go_wp2_with fail
  refine (unhide r1 _ (unhide hR)).mono ?_
  rintro e w2 ⟨rfl, hb2⟩
  replace hR := hide ((unhide hR).below hb2 (Nat.le_refl _))
  replace hb2 := hide (below_via (unhide hb1) hb2)
  clear hb1
  go_wp2_with fail
  refine (unhide r3 _ (unhide hR)).mono ?_
  rintro e w3 ⟨rfl, hb3⟩
  replace hR := hide ((unhide hR).below hb3 (Nat.le_refl _))
  replace hb3 := hide (below_via (unhide hb2) hb3)
  clear hb2
  go_wp2_with fail
  refine (unhide r2 _ (unhide hR)).mono ?_
  rintro e w4 ⟨rfl, hb4⟩
  replace hR := hide ((unhide hR).below hb4 (Nat.le_refl _))
  replace hb4 := hide (below_via (unhide hb3) hb4)
  clear hb3
  go_wp2_with fail
  refine (unhide r0 _ (unhide hR)).mono ?_
  rintro e w5 ⟨rfl, hb5⟩
  replace hR := hide ((unhide hR).below hb5 (Nat.le_refl _))
  replace hb5 := hide (below_via (unhide hb4) hb5)
  clear hb4
  have wu := hide (unhide hW _ (unhide hR) u)
  have wt := hide (unhide hW _ (unhide hR) t)
  have wn := hide (unhide hW _ (unhide hR) n)
  rw [unhide hu] at wu
  rw [unhide ht] at wt
  rw [unhide hn] at wn
  go_wp2_with fail
  refine (unhide wu).mono ?_
  rintro e v1 ⟨rfl, rfl⟩
  go_wp2_with fail
  refine (unhide wt).mono ?_
  rintro e v2 ⟨rfl, rfl⟩
  go_wp2_with fail
  refine (unhide wn).mono ?_
  rintro e v3 ⟨rfl, rfl⟩
  go_wp2_with fail
  clear h1 h2 h3 r0 r1 r2 r3 wu wt wn hal
  go_loop [13] (fun i => ∃ j : Nat, i = .int .i64 (t + 1 + (j : Int)) ∧ (j = 0 ∨ t + 1 + (j : Int) ≤ u)) (fun i => 3652060 - (intOf i).toNat)
  case atStart => exact ⟨0, by simp, Or.inl rfl⟩
  case round =>
    obtain ⟨j, rfl, hj⟩ := hrel
    by_cases hlt : t + 1 + (j : Int) < u
    · have o1 : decide (t + 1 + (j : Int) < u) = true := decide_eq_true hlt
      have wk := hide (unhide hW _ (unhide hR) (t + 1 + (j : Int)))
      rw [unhide hno (t + 1 + (j : Int)) (by omega) hlt] at wk
      clear hj
      go_wp2_with fail
      refine (unhide wk).mono ?_
      rintro e v4 ⟨rfl, rfl⟩
      clear wk
      go_wp2_with fail
      go_round
      case rel => exact ⟨j + 1, by congr 1; omega, Or.inr (by omega)⟩
      case measure => simp [intOf]; omega
    · have o1 : decide (t + 1 + (j : Int) < u) = false := decide_eq_false hlt
      clear hj
      go_wp2_with fail
      refine (unhide hA _).mono ?_
      rintro e w6 ⟨rfl, hb6⟩
      have r1 := R3.new w6 y m d
      replace hb6 := hide (below_via (below_via (unhide hb5) hb6) ((Below.refl w6.heap.size w6).alloc (Nat.le_refl _) (.cells #[.int .i64 y, .int .i64 m, .int .i64 d] 37)))
      obtain ⟨b1, eb⟩ : ∃ b1, b1 = w6.heap.size := ⟨_, rfl⟩
      rw [← eb] at r1
      replace r1 := hide r1
      have q1 := (unhide r1).lt
      clear hb5
      go_wp2_with fail
      rw [← eb]
      generalize w6.alloc (.cells #[.int .i64 y, .int .i64 m, .int .i64 d] 37) = W1 at *
      clear eb
      refine (unhide hB _).mono ?_
      rintro e w7 ⟨rfl, hb7⟩
      replace r1 := hide ((unhide r1).keep hb7 q1)
      have r2 := hide (R3.new w7 y' m' d')
      replace r1 := hide ((unhide r1).alloc (.cells #[.int .i64 y', .int .i64 m', .int .i64 d'] 37))
      replace hb7 := hide (below_via (below_via (unhide hb6) hb7) ((Below.refl w7.heap.size w7).alloc (Nat.le_refl _) (.cells #[.int .i64 y', .int .i64 m', .int .i64 d'] 37)))
      have c10 := (unhide r1).c0
      have c11 := (unhide r1).c1
      have c20 := (unhide r2).c0
      have c21 := (unhide r2).c1
      clear hb6 q1
      go_wp2_with fail
      go_ret
      exact ⟨rfl, unhide hb7⟩
set_option linter.unusedVariables false in
set_option maxRecDepth 20000 in
set_option maxHeartbeats 4000000 in
theorem q_m (n u t y m d y' m' d' : Int) (a : Option Addr) (l c : Nat) (hs : List Int) (hal : Hid (∀ w : World, Calls Try.prog 9 #[] w fun e w' => e = .returned (.bool true) ∧ Below w.heap.size w w')) (d1 : decide ((600 : Int) < (l : Int)) = false) (d2 : decide (n < 10000) = false) (d3 : decide (3600000 < n) = false) (t1 : 1 ≤ t) (t2 : t ≤ 3652059) (u2 : u ≤ 3652059)
    (r1 : Hid (RollA n 1 a l c hs u 0)) (r3 : Hid (RollA n 3 a l c hs t 0)) (r2 : Hid (RollA n 2 a l c hs t 0)) (r0 : Hid (RollA n 0 a l c hs n 0)) (hW : Hid (∀ W : World, Row W (.slice a l c) hs → WorksA 17 (.slice a l c) hs W)) (hu : Hid (works hs u = true)) (ht : Hid (works hs t = true)) (hn : Hid (works hs n = false)) (hno : Hid (∀ k : Int, t < k → k < u → works hs k = false)) (hA : Hid (Tos n y m d 0)) (hB : Hid (Tos u y' m' d' 0)) (h1 : (n != n) = false) (h2 : decide (u < n) = false) (h3 : decide (n < t) = false) (h4 : (t != u) = true) (h5 : (t != t) = false) (e1 : (m == m') = false) (e3 : (t == t) = true) (w : World) (hR : Hid (Row w (.slice a l c) hs)) : Calls Try.prog 7 #[.int .i64 n, .slice a l c] w fun e w' => e = .returned (.bool true) ∧ Below w.heap.size w w' := by
  go_enter Try.func7, Try.ntmps7
  go_wp2_with fail
  refine (unhide hal _).mono ?_
  rintro e w1 ⟨rfl, hb1⟩
  replace hb1 := hide hb1
  replace hR := hide ((unhide hR).below (unhide hb1) (Nat.le_refl _))
  go_wp2_with fail
  refine (unhide r1 _ (unhide hR)).mono ?_
  rintro e w2 ⟨rfl, hb2⟩
  replace hR := hide ((unhide hR).below hb2 (Nat.le_refl _))
  replace hb2 := hide (below_via (unhide hb1) hb2)
  clear hb1
  go_wp2_with fail
  refine (unhide r3 _ (unhide hR)).mono ?_
  rintro e w3 ⟨rfl, hb3⟩
  replace hR := hide ((unhide hR).below hb3 (Nat.le_refl _))
  replace hb3 := hide (below_via (unhide hb2) hb3)
  clear hb2
  go_wp2_with fail
  refine (unhide r2 _ (unhide hR)).mono ?_
  rintro e w4 ⟨rfl, hb4⟩
  replace hR := hide ((unhide hR).below hb4 (Nat.le_refl _))
  replace hb4 := hide (below_via (unhide hb3) hb4)
  clear hb3
  go_wp2_with fail
  refine (unhide r0 _ (unhide hR)).mono ?_
  rintro e w5 ⟨rfl, hb5⟩
  replace hR := hide ((unhide hR).below hb5 (Nat.le_refl _))
  replace hb5 := hide (below_via (unhide hb4) hb5)
  clear hb4
  have wu := hide (unhide hW _ (unhide hR) u)
  have wt := hide (unhide hW _ (unhide hR) t)
  have wn := hide (unhide hW _ (unhide hR) n)
  rw [unhide hu] at wu
  rw [unhide ht] at wt
  rw [unhide hn] at wn
  go_wp2_with fail
  refine (unhide wu).mono ?_
  rintro e v1 ⟨rfl, rfl⟩
  go_wp2_with fail
  refine (unhide wt).mono ?_
  rintro e v2 ⟨rfl, rfl⟩
  go_wp2_with fail
  refine (unhide wn).mono ?_
  rintro e v3 ⟨rfl, rfl⟩
  go_wp2_with fail
  clear h1 h2 h3 r0 r1 r2 r3 wu wt wn hal
  go_loop [13] (fun i => ∃ j : Nat, i = .int .i64 (t + 1 + (j : Int)) ∧ (j = 0 ∨ t + 1 + (j : Int) ≤ u)) (fun i => 3652060 - (intOf i).toNat)
  case atStart => exact ⟨0, by simp, Or.inl rfl⟩
  case round =>
    obtain ⟨j, rfl, hj⟩ := hrel
    by_cases hlt : t + 1 + (j : Int) < u
    · have o1 : decide (t + 1 + (j : Int) < u) = true := decide_eq_true hlt
      have wk := hide (unhide hW _ (unhide hR) (t + 1 + (j : Int)))
      rw [unhide hno (t + 1 + (j : Int)) (by omega) hlt] at wk
      clear hj
      go_wp2_with fail
      refine (unhide wk).mono ?_
      rintro e v4 ⟨rfl, rfl⟩
      clear wk
      go_wp2_with fail
      go_round
      case rel => exact ⟨j + 1, by congr 1; omega, Or.inr (by omega)⟩
      case measure => simp [intOf]; omega
    · have o1 : decide (t + 1 + (j : Int) < u) = false := decide_eq_false hlt
      clear hj
      go_wp2_with fail
      refine (unhide hA _).mono ?_
      rintro e w6 ⟨rfl, hb6⟩
      have r1 := R3.new w6 y m d
      replace hb6 := hide (below_via (below_via (unhide hb5) hb6) ((Below.refl w6.heap.size w6).alloc (Nat.le_refl _) (.cells #[.int .i64 y, .int .i64 m, .int .i64 d] 37)))
      obtain ⟨b1, eb⟩ : ∃ b1, b1 = w6.heap.size := ⟨_, rfl⟩
      rw [← eb] at r1
      replace r1 := hide r1
      have q1 := (unhide r1).lt
      clear hb5
      go_wp2_with fail
      rw [← eb]
      generalize w6.alloc (.cells #[.int .i64 y, .int .i64 m, .int .i64 d] 37) = W1 at *
      clear eb
      refine (unhide hB _).mono ?_
      rintro e w7 ⟨rfl, hb7⟩
      replace r1 := hide ((unhide r1).keep hb7 q1)
      have r2 := hide (R3.new w7 y' m' d')
      replace r1 := hide ((unhide r1).alloc (.cells #[.int .i64 y', .int .i64 m', .int .i64 d'] 37))
      replace hb7 := hide (below_via (below_via (unhide hb6) hb7) ((Below.refl w7.heap.size w7).alloc (Nat.le_refl _) (.cells #[.int .i64 y', .int .i64 m', .int .i64 d'] 37)))
      have c10 := (unhide r1).c0
      have c11 := (unhide r1).c1
      have c20 := (unhide r2).c0
      have c21 := (unhide r2).c1
      clear hb6 q1
      go_wp2_with fail
      go_ret
      exact ⟨rfl, unhide hb7⟩
set_option linter.unusedVariables false in
set_option maxRecDepth 20000 in
set_option maxHeartbeats 4000000 in
theorem q_y (n u t y m d y' m' d' : Int) (a : Option Addr) (l c : Nat) (hs : List Int) (hal : Hid (∀ w : World, Calls Try.prog 9 #[] w fun e w' => e = .returned (.bool true) ∧ Below w.heap.size w w')) (d1 : decide ((600 : Int) < (l : Int)) = false) (d2 : decide (n < 10000) = false) (d3 : decide (3600000 < n) = false) (t1 : 1 ≤ t) (t2 : t ≤ 3652059) (u2 : u ≤ 3652059)
    (r1 : Hid (RollA n 1 a l c hs u 0)) (r3 : Hid (RollA n 3 a l c hs t 0)) (r2 : Hid (RollA n 2 a l c hs t 0)) (r0 : Hid (RollA n 0 a l c hs n 0)) (hW : Hid (∀ W : World, Row W (.slice a l c) hs → WorksA 17 (.slice a l c) hs W)) (hu : Hid (works hs u = true)) (ht : Hid (works hs t = true)) (hn : Hid (works hs n = false)) (hno : Hid (∀ k : Int, t < k → k < u → works hs k = false)) (hA : Hid (Tos n y m d 0)) (hB : Hid (Tos u y' m' d' 0)) (h1 : (n != n) = false) (h2 : decide (u < n) = false) (h3 : decide (n < t) = false) (h4 : (t != u) = true) (h5 : (t != t) = false) (e1 : (m == m') = true) (e2 : (y == y') = false) (e3 : (t == t) = true) (w : World) (hR : Hid (Row w (.slice a l c) hs)) : Calls Try.prog 7 #[.int .i64 n, .slice a l c] w fun e w' => e = .returned (.bool true) ∧ Below w.heap.size w w' := by
  go_enter Try.func7, Try.ntmps7
  go_wp2_with fail
  refine (unhide hal _).mono ?_
  rintro e w1 ⟨rfl, hb1⟩
  replace hb1 := hide hb1
  replace hR := hide ((unhide hR).below (unhide hb1) (Nat.le_refl _))
  go_wp2_with fail
  refine (unhide r1 _ (unhide hR)).mono ?_
  rintro e w2 ⟨rfl, hb2⟩
  replace hR := hide ((unhide hR).below hb2 (Nat.le_refl _))
  replace hb2 := hide (below_via (unhide hb1) hb2)
  clear hb1
  go_wp2_with fail
  refine (unhide r3 _ (unhide hR)).mono ?_
  rintro e w3 ⟨rfl, hb3⟩
  replace hR := hide ((unhide hR).below hb3 (Nat.le_refl _))
  replace hb3 := hide (below_via (unhide hb2) hb3)
  clear hb2
  go_wp2_with fail
  refine (unhide r2 _ (unhide hR)).mono ?_
  rintro e w4 ⟨rfl, hb4⟩
  replace hR := hide ((unhide hR).below hb4 (Nat.le_refl _))
  replace hb4 := hide (below_via (unhide hb3) hb4)
  clear hb3
  go_wp2_with fail
  refine (unhide r0 _ (unhide hR)).mono ?_
  rintro e w5 ⟨rfl, hb5⟩
  replace hR := hide ((unhide hR).below hb5 (Nat.le_refl _))
  replace hb5 := hide (below_via (unhide hb4) hb5)
  clear hb4
  have wu := hide (unhide hW _ (unhide hR) u)
  have wt := hide (unhide hW _ (unhide hR) t)
  have wn := hide (unhide hW _ (unhide hR) n)
  rw [unhide hu] at wu
  rw [unhide ht] at wt
  rw [unhide hn] at wn
  go_wp2_with fail
  refine (unhide wu).mono ?_
  rintro e v1 ⟨rfl, rfl⟩
  go_wp2_with fail
  refine (unhide wt).mono ?_
  rintro e v2 ⟨rfl, rfl⟩
  go_wp2_with fail
  refine (unhide wn).mono ?_
  rintro e v3 ⟨rfl, rfl⟩
  go_wp2_with fail
  clear h1 h2 h3 r0 r1 r2 r3 wu wt wn hal
  go_loop [13] (fun i => ∃ j : Nat, i = .int .i64 (t + 1 + (j : Int)) ∧ (j = 0 ∨ t + 1 + (j : Int) ≤ u)) (fun i => 3652060 - (intOf i).toNat)
  case atStart => exact ⟨0, by simp, Or.inl rfl⟩
  case round =>
    obtain ⟨j, rfl, hj⟩ := hrel
    by_cases hlt : t + 1 + (j : Int) < u
    · have o1 : decide (t + 1 + (j : Int) < u) = true := decide_eq_true hlt
      have wk := hide (unhide hW _ (unhide hR) (t + 1 + (j : Int)))
      rw [unhide hno (t + 1 + (j : Int)) (by omega) hlt] at wk
      clear hj
      go_wp2_with fail
      refine (unhide wk).mono ?_
      rintro e v4 ⟨rfl, rfl⟩
      clear wk
      go_wp2_with fail
      go_round
      case rel => exact ⟨j + 1, by congr 1; omega, Or.inr (by omega)⟩
      case measure => simp [intOf]; omega
    · have o1 : decide (t + 1 + (j : Int) < u) = false := decide_eq_false hlt
      clear hj
      go_wp2_with fail
      refine (unhide hA _).mono ?_
      rintro e w6 ⟨rfl, hb6⟩
      have r1 := R3.new w6 y m d
      replace hb6 := hide (below_via (below_via (unhide hb5) hb6) ((Below.refl w6.heap.size w6).alloc (Nat.le_refl _) (.cells #[.int .i64 y, .int .i64 m, .int .i64 d] 37)))
      obtain ⟨b1, eb⟩ : ∃ b1, b1 = w6.heap.size := ⟨_, rfl⟩
      rw [← eb] at r1
      replace r1 := hide r1
      have q1 := (unhide r1).lt
      clear hb5
      go_wp2_with fail
      rw [← eb]
      generalize w6.alloc (.cells #[.int .i64 y, .int .i64 m, .int .i64 d] 37) = W1 at *
      clear eb
      refine (unhide hB _).mono ?_
      rintro e w7 ⟨rfl, hb7⟩
      replace r1 := hide ((unhide r1).keep hb7 q1)
      have r2 := hide (R3.new w7 y' m' d')
      replace r1 := hide ((unhide r1).alloc (.cells #[.int .i64 y', .int .i64 m', .int .i64 d'] 37))
      replace hb7 := hide (below_via (below_via (unhide hb6) hb7) ((Below.refl w7.heap.size w7).alloc (Nat.le_refl _) (.cells #[.int .i64 y', .int .i64 m', .int .i64 d'] 37)))
      have c10 := (unhide r1).c0
      have c11 := (unhide r1).c1
      have c20 := (unhide r2).c0
      have c21 := (unhide r2).c1
      clear hb6 q1
      go_wp2_with fail
      go_ret
      exact ⟨rfl, unhide hb7⟩
theorem up_some {hs : List Int} (hl : hs.length ≤ 600) {n r : Int} (n1 : 10000 ≤ n) (n2 : n ≤ 3600000) (h : Up hs n r) : r ≠ 0 := by
  intro e
  rcases h with ⟨_, h⟩ | ⟨h1, _⟩
  · obtain ⟨j, hj, hw⟩ := some_works hl n
    rw [h (n + j) (by omega) (by omega)] at hw
    cases hw
  · omega
theorem down_some {hs : List Int} (hl : hs.length ≤ 600) {n r : Int} (n1 : 10000 ≤ n) (h : Down hs n r) : r ≠ 0 := by
  intro e
  rcases h with ⟨_, h⟩ | ⟨h1, _⟩
  · obtain ⟨j, hj, hw⟩ := some_works hl (n - 846)
    rw [h (n - 846 + j) (by omega) (by omega)] at hw
    cases hw
  · omega
theorem walk (n : Int) (a : Option Addr) (l c : Nat) (hs : List Int) (w : World) (_hn : (Lit.int .i64 n).wf = true) (hR : Row w (.slice a l c) hs) : Calls Try.prog 7 #[.int .i64 n, .slice a l c] w fun e w' => e = .returned (.bool true) ∧ Below w.heap.size w w' := by
  have hal := hide alive_any
  by_cases d1 : (600 : Int) < (l : Int)
  · exact q_long n a l c hal (decide_eq_true d1) w
  by_cases d2 : n < 10000
  · exact q_lo n a l c hal (decide_eq_false d1) (decide_eq_true d2) w
  by_cases d3 : 3600000 < n
  · exact q_hi n a l c hal (decide_eq_false d1) (decide_eq_false d2) (decide_eq_true d3) w
  have hl : hs.length ≤ 600 := by
    obtain ⟨a', c', e⟩ := row_slice hR
    simp only [Value.slice.injEq] at e
    omega
  obtain ⟨u, hu⟩ := up_ex hs (3652060 - n).toNat n (by omega)
  obtain ⟨t, ht⟩ := down_ex hs n.toNat n (by omega)
  have u0 := up_some hl (by omega) (by omega) hu
  have t0 := down_some hl (by omega) ht
  have sU := sk_up (v := .slice a l c) (by omega) (by omega) hu
  have sD := sk_dn (v := .slice a l c) (by omega) (by omega) ht
  rw [seekE_n u0] at sU
  rw [seekE_n t0] at sD
  obtain ⟨y, m, d, hv, e0⟩ := date_of n (by omega) (by omega)
  have hT := hide (to_ok y m d hv)
  rw [e0] at hT
  rcases hu with ⟨e, _⟩ | ⟨u1, u2, u3, u4⟩
  · exact absurd e u0
  rcases ht with ⟨e, _⟩ | ⟨t1, t2, t3, t4⟩
  · exact absurd e t0
  obtain ⟨y', m', d', hv', e0'⟩ := date_of u (by omega) (by omega)
  have hT' := hide (to_ok y' m' d' hv')
  rw [e0'] at hT'
  have k3 : decide ((600 : Int) < (l : Int)) = false := decide_eq_false d1
  have r1 := hide (roll_1 n y m d u 0 a l c hs hT k3 (hide sU))
  have r3 := hide (roll_3 n y m d t 0 a l c hs hT k3 (hide sD))
  have r0 := hide (roll_0 n y m d a l c hs hT k3)
  have hW : Hid (∀ W : World, Row W (.slice a l c) hs → WorksA 17 (.slice a l c) hs W) := hide fun W h => works_any _ hs W h
  have hno : Hid (∀ k : Int, t < k → k < u → works hs k = false) := hide fun k h1 h2 => by
    by_cases c : k ≤ n
    · exact t4 k h1 c
    · exact u4 k (by omega) h2
  have f1 : (n != n) = false := by simp
  have f2 : decide (u < n) = false := decide_eq_false (by omega)
  have f3 : decide (n < t) = false := decide_eq_false (by omega)
  have hS := sameM_any n u y m d y' m' d' hT hT'
  have p2 : decide (n < 10000) = false := decide_eq_false d2
  have p3 : decide (3600000 < n) = false := decide_eq_false d3
  cases hb : ((y == y') && (m == m'))
  · rw [hb] at hS
    have r2 := hide (roll_2n n y m d t 0 a l c hs hT k3 u (hide sU) (hide hS) (hide sD))
    have hun : u ≠ n := fun e => by
      rw [e, ← e0] at e0'
      obtain ⟨i1, i2, _⟩ := num_inj hv' hv e0'
      rw [i1, i2] at hb
      simp at hb
    have hn : works hs n = false := u4 n (Int.le_refl _) (by omega)
    have f4 : (t != u) = true := by rw [bne_iff_ne]; omega
    have f5 : (t != t) = false := by simp
    have f8 : (t == t) = true := by simp
    by_cases hm : m = m'
    · have hy : y ≠ y' := fun e => by rw [e, hm] at hb; simp at hb
      exact q_y n u t y m d y' m' d' a l c hs hal k3 p2 p3 t1 (by omega) u2 r1 r3 r2 r0 hW (hide u3) (hide t3) (hide hn) hno hT hT' f1 f2 f3 f4 f5 (by simp [hm]) (by simp [hy]) f8 w (hide hR)
    · exact q_m n u t y m d y' m' d' a l c hs hal k3 p2 p3 t1 (by omega) u2 r1 r3 r2 r0 hW (hide u3) (hide t3) (hide hn) hno hT hT' f1 f2 f3 f4 f5 (by simp [hm]) f8 w (hide hR)
  · rw [hb] at hS
    have r2 := hide (roll_2y n y m d u a l c hs hT k3 (hide sU) (hide hS))
    have hy : y = y' ∧ m = m' := by simpa using hb
    have f4 : (u != u) = false := by simp
    have f8 : (u == u) = true := by simp
    cases hn : works hs n
    · exact q_s2 n u t y m d y' m' d' a l c hs hal k3 p2 p3 t1 (by omega) u2 r1 r3 r2 r0 hW (hide u3) (hide t3) (hide hn) hno hT hT' f1 f2 f3 f4 (by simp [hy.2]) (by simp [hy.1]) f8 w (hide hR)
    · have eu : u = n := by
        by_cases c : n < u
        · rw [u4 n (Int.le_refl _) c] at hn; cases hn
        · omega
      have et : t = n := by
        by_cases c : t < n
        · rw [t4 n c (Int.le_refl _)] at hn; cases hn
        · omega
      exact q_s1 n u t y m d y' m' d' a l c hs hal k3 p2 p3 t1 (by omega) u2 r1 r3 r2 r0 hW (hide u3) (hide t3) (hide hn) hno hT hT' f1 f2 f3 f4 (by simp [eu]) (by simp [et]) (by simp [hy.2]) (by simp [hy.1]) f8 w (hide hR)
theorem own : ownKnob Try.prog.godebug = none := by kernel_rfl
theorem laidOut : laidOutB Try.prog = true := by kernel_rfl
set_option linter.unusedVariables false in
set_option maxRecDepth 100000 in
theorem lifted (os : Os) (started : os.Started) (H : Type) (enc : TypeId × Value → H) :
    ReturnsInHanded {} Try.checked os 7 .any (Rows.periodWorksSpec.pre6 enc Try.prog Try.f7 Rows.periodWorksRow.domain false) (Rows.periodWorksSpec.post enc Try.prog Try.f7 false true false false) := by
  refine returnsInHanded_of_change (C := Try.checked) own started (by kernel_rfl) Try.func7
    (ChangeSpec.witness6 (enc := enc) (C := Try.checked) false ⟨#[], #[.int .i64 0, .slice none 0 0], []⟩ 8 (by kernel_rfl) (by kernel_rfl) (by kernel_rfl) (by kernel_rfl)) ?_
  intro W base args ds gs before hval0 hW hcnd _
  have hval : ∀ (j : Nat) t v, Try.f7.params[j]? = some t → args[j]? = some v → Value.okWide Try.prog W .any base t v := hval0
  have hW' := hW
  obtain ⟨p, q, hA0, hV, rfl, hfz, hnd⟩ := hW
  have hA : DataW.TrodAll enc Try.prog W 0 (fun _ => true) true Try.f7.params.toList args.toList ds p := hA0
  rw [Try.params7] at hA hval
  obtain ⟨v0, vs0, d0, ds0, p0, q0, hargs, rfl, rfl, h0, r0⟩ := trodAll_cons hA
  obtain ⟨v1, vs1, d1, ds1, p1, q1, rfl, rfl, rfl, h1, r1⟩ := trodAll_cons r0
  obtain ⟨rfl, rfl, rfl⟩ := trodAll_nil r1
  obtain rfl : args = #[v0, v1] := by cases args; simp_all
  obtain ⟨rfl, rfl⟩ := trodVars_none hV
  obtain ⟨a0, rfl, rfl, rfl, w0⟩ := open_int Try.underlying3 (hval 0 3 v0 rfl rfl) h0
  obtain ⟨a1, len1, cap1, rfl⟩ := okWide_slice Try.underlying28 (hval 1 28 v1 rfl rfl)
  have k1 := h1
  have lt1 : ∀ x ∈ p1, x.block < W.heap.size := by obtain ⟨m, hm⟩ := k1; exact DataW.trod_lt m _ _ _ hm
  obtain ⟨z1, w1⟩ : ∃ zs : List Int, Row W (.slice a1 len1 cap1) zs := by
    obtain ⟨fuel, hf⟩ := h1
    rcases open_ints Try.underlying28 Try.underlying3 (by kernel_rfl) hf with ⟨hcs, _⟩ | ⟨x, l, c, zs, hcs, _, hl, hm, hz, _, hcell, hwz⟩
    · simp [Value.cells] at hcs
      obtain ⟨rfl, rfl, rfl⟩ := hcs
      exact ⟨[], .inl ⟨_, _, rfl, rfl⟩⟩
    · simp [Value.cells] at hcs
      obtain ⟨rfl, rfl, rfl⟩ := hcs
      exact row_open hl hm (by simpa using hz) hcell hwz
  clear hA0 hval0
  refine (walk a0 a1 len1 cap1 z1 W w0 w1).mono fun e W' ⟨he, bel⟩ => ?_
  subst he
  exact ⟨_, rfl, _, _, _, [], _, [], hW', trodAll_mk1 (shut_bool Try.underlying4 _), (trodAll_cons_mk (shut_int Try.underlying3 w0) (trodAll_cons_mk (Below.trod laidOut (by kernel_rfl) (of_decide_eq_true (by kernel_rfl)) k1 bel lt1) trodAll_mk0)), rfl, bel.frame _, fun h => by cases h⟩
theorem over : Rows.periodWorksRow.holds Try.pinned (OpenSpec.ofChange Rows.periodWorksSpec) :=
  OpenClaim.holds_of_wide 7 Try.f7 rfl rfl rfl rfl rfl rfl rfl ⟨rfl, rfl, rfl, rfl, rfl⟩ rfl rfl rfl rfl rfl (by kernel_rfl) Try.func7 (by kernel_rfl)
    (of_decide_eq_true (by kernel_rfl)) (by unfold Func.isWrapper; first | (rw [if_pos (by decide +kernel)]; kernel_rfl) | (rw [if_neg (by decide +kernel)]; exact ⟨rfl, rfl⟩))
    (fun os started H enc _ => lifted os started H enc)
/-- The statement. -/
theorem proved : Rows.PeriodWorksSaid := over
#print axioms proved
end Go.Proofs.Ytmpalgfhamahnaa.periodWorks
namespace Go.Proofs.Ytmpalgfhamahnaa
theorem periodWorks_holds : Rows.PeriodWorksSaid := periodWorks.proved
end Go.Proofs.Ytmpalgfhamahnaa
