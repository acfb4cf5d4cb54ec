/- What the reference's Months answers. -/
import Derived.Test.YtmpalgfhamahnaaRef3
import Derived.Test.YtmpalgfhamahnaaPNum
namespace Go.Proofs.Ytmpalgfhamahnaa
open Go.RowKit
set_option linter.unusedSimpArgs false
/-- The reference's Months answers. -/
def RMonsA (n k : Int) (en : Bool) (v e : Int) : Prop := ∀ w : World, Calls Try.prog 11 #[.int .i64 n, .int .i64 k, .bool en] w fun z w' => z = .returned (.tuple #[.int .i64 v, .int .i64 e]) ∧ Below w.heap.size w w'
/-- Since w: below nothing has turned; the block holds the date. -/
def RM (w wr : World) (b : Nat) (x y z : Int) : Prop := R9 wr b x y z ∧ Below w.heap.size w wr ∧ w.heap.size ≤ b
theorem RM.s0 {w wr : World} {b : Nat} {x y z : Int} (h : RM w wr b x y z) (u : Int) : RM w (wr.setCell ⟨b, 0, none⟩ (.int .i64 u)) b u y z := ⟨h.1.s0 u, h.2.1.setCell h.2.2 _, h.2.2⟩
theorem RM.s1 {w wr : World} {b : Nat} {x y z : Int} (h : RM w wr b x y z) (u : Int) : RM w (wr.setCell ⟨b, 1, none⟩ (.int .i64 u)) b x u z := ⟨h.1.s1 u, h.2.1.setCell h.2.2 _, h.2.2⟩
theorem RM.s2 {w wr : World} {b : Nat} {x y z : Int} (h : RM w wr b x y z) (u : Int) : RM w (wr.setCell ⟨b, 2, none⟩ (.int .i64 u)) b x y u := ⟨h.1.s2 u, h.2.1.setCell h.2.2 _, h.2.2⟩
theorem RM.dr {w wr : World} {b : Nat} {x y z : Int} (h : RM w wr b x y z) (n : Nat) : RM w (wr.drewN n) b x y z := ⟨h.1, below_drewN h.2.1 n, h.2.2⟩
theorem RM.new {w w1 : World} (hb : Below w.heap.size w w1) (x y z : Int) : RM w (w1.alloc (.cells #[.int .i64 x, .int .i64 y, .int .i64 z] 46)) w1.heap.size x y z := ⟨R9.new w1 x y z, hb.alloc hb.size _, hb.size⟩
set_option maxRecDepth 20000 in
set_option maxHeartbeats 1000000 in
theorem rmon_no (n k : Int) (en : Bool) (hT : Hid (RTos n 0 0 0 5)) : RMonsA n k en 0 5 := by
  intro w
  go_enter Try.func11, Try.ntmps11
  go_wp2_with fail
  refine (unhide hT _).mono ?_
  rintro e w1 ⟨rfl, hb1⟩
  have hB := hide (RM.new hb1 0 0 0)
  clear hb1
  go_wp2_with fail
  go_ret2
  exact ⟨rfl, (unhide hB).2.1⟩
set_option maxRecDepth 20000 in
set_option maxHeartbeats 1000000 in
theorem rmon_lo (n y m d k : Int) (en : Bool) (hT : Hid (RTos n y m d 0)) (k1 : decide (k < -12000) = true) : RMonsA n k en 0 2 := by
  intro w
  go_enter Try.func11, Try.ntmps11
  go_wp2_with fail
  refine (unhide hT _).mono ?_
  rintro e w1 ⟨rfl, hb1⟩
  have hB := hide (RM.new hb1 y m d)
  clear hb1
  go_wp2_with fail
  go_ret2
  exact ⟨rfl, (unhide hB).2.1⟩
set_option maxRecDepth 20000 in
set_option maxHeartbeats 1000000 in
theorem rmon_hi (n y m d k : Int) (en : Bool) (hT : Hid (RTos n y m d 0)) (k1 : decide (k < -12000) = false) (k2 : decide (12000 < k) = true) : RMonsA n k en 0 2 := by
  intro w
  go_enter Try.func11, Try.ntmps11
  go_wp2_with fail
  refine (unhide hT _).mono ?_
  rintro e w1 ⟨rfl, hb1⟩
  have hB := hide (RM.new hb1 y m d)
  clear hb1
  go_wp2_with fail
  go_ret2
  exact ⟨rfl, (unhide hB).2.1⟩
set_option maxRecDepth 20000 in
set_option maxHeartbeats 4000000 in
theorem rmon_u1 (n y m d Y M l L v g : Int) (K : Nat) (en : Bool) (y1 : 1 ≤ y) (y2 : y ≤ 9999) (m1 : 1 ≤ m) (m2 : m ≤ 12) (K2 : (K : Int) ≤ 12000)
    (hT : Hid (RTos n y m d 0)) (hi : Hid (ix Y M = ix y m + (K : Int) ∧ 1 ≤ M ∧ M ≤ 12)) (hl : Hid (Q 24 #[.int .i64 Y, .int .i64 M] (.int .i64 l))) (hL : Hid (Q 24 #[.int .i64 y, .int .i64 m] (.int .i64 L))) (hg : decide (l < d) = true) (hF : Hid (RFroms Y M l v g)) : RMonsA n (K : Int) en v g := by
  intro w
  have k1 : decide ((K : Int) < -12000) = false := decide_eq_false (by omega)
  have k2 : decide (12000 < (K : Int)) = false := decide_eq_false (by omega)
  go_enter Try.func11, Try.ntmps11
  go_wp2_with fail
  refine (unhide hT _).mono ?_
  rintro e w1 ⟨rfl, hb1⟩
  have hB := hide (RM.new hb1 y m d)
  clear hb1
  obtain ⟨b, hb⟩ : ∃ b, b = w1.heap.size := ⟨_, rfl⟩
  rw [← hb] at hB
  have c0 := (unhide hB).1.c0
  have c1 := (unhide hB).1.c1
  have c2 := (unhide hB).1.c2
  go_wp2_with fail
  rw [← hb]
  generalize w1.alloc (.cells #[.int .i64 y, .int .i64 m, .int .i64 d] 46) = W at *
  clear hb
  go_quiet ((go_at_call 24; exact Calls.quiet_of_same (unhide hL _)))
  replace hB := hide ((unhide hB).dr nq)
  clear c0 c1 c2 k1 k2
  generalize W.drewN nq = W2 at *
  go_wp2_with fail
  go_loopw [1] (fun mv wr => ∃ (k : Nat) (yy mm : Int), k ≤ K ∧ mv = .int .i64 (k : Int) ∧ 1 ≤ mm ∧ mm ≤ 12 ∧ -2000 ≤ yy ∧ yy + (k : Int) ≤ 22000 ∧ Hid (ix yy mm + (k : Int) = ix y m + (K : Int)) ∧ Hid (RM w wr b yy mm d)) (fun mv _ => (intOf mv).toNat)
  case atStart => exact ⟨K, y, m, by omega, rfl, m1, m2, by omega, by omega, hide rfl, hB⟩
  case round =>
    clear hB
    obtain ⟨k, yy, mm, hk, rfl, hm1, hm2, hy1, hy2, hI, hB⟩ := hrel
    by_cases hlt : 0 < k
    · clear hl hL hF hi
      have hk0 : decide ((0 : Int) < (k : Int)) = true := decide_eq_true (by omega)
      have c0 := (unhide hB).1.c0
      have c1 := (unhide hB).1.c1
      have f1 := (unhide hB).1.fr 1
      by_cases h12 : mm = 12
      · subst h12
        have Hz := hide ((unhide hB).s1 13)
        have z0 := (unhide Hz).1.c0
        have z1 := (unhide Hz).1.c1
        have z2 := (unhide Hz).1.fr 0
        have Hy := hide ((unhide Hz).s0 (yy + 1))
        have u1 := (unhide Hy).1.fr 1
        have Hx := hide ((unhide Hy).s1 1)
        go_wp2_with fail
        go_roundw
        case rel => exact ⟨k - 1, yy + 1, 1, by omega, by congr 1; omega, by omega, by omega, by omega, by omega, hide (by have := unhide hI; unfold ix at *; omega), Hx⟩
        case measure => simp [intOf]; omega
      · have hmm : decide (12 < mm + 1) = false := decide_eq_false (by omega)
        have Hz := hide ((unhide hB).s1 (mm + 1))
        have z0 := (unhide Hz).1.c0
        have z1 := (unhide Hz).1.c1
        go_wp2_with fail
        go_roundw
        case rel => exact ⟨k - 1, yy, mm + 1, by omega, by congr 1; omega, by omega, by omega, by omega, by omega, hide (by have := unhide hI; unfold ix at *; omega), Hz⟩
        case measure => simp [intOf]; omega
    · obtain rfl : k = 0 := by omega
      obtain ⟨rfl, rfl⟩ : yy = Y ∧ mm = M := by have := unhide hI; have := unhide hi; unfold ix at *; omega
      clear hI hi hL
      have c0 := (unhide hB).1.c0
      have c1 := (unhide hB).1.c1
      have c2 := (unhide hB).1.c2
      go_wp2_with fail
      refine wp_loop_rounds 1 ?_
      rw [rounds_succ]
      go_wp2_with fail
      refine (unhide hl _).mono ?_
      rintro e w4 ⟨rfl, rfl⟩
      have f2 := (unhide hB).1.fr 2
      have Hz := hide ((unhide hB).s2 l)
      have x0 := (unhide Hz).1.c0
      have x1 := (unhide Hz).1.c1
      have x2 := (unhide Hz).1.c2
      go_wp2_with fail
      refine (unhide hF _).mono ?_
      rintro e w5 ⟨rfl, hb5⟩
      replace hb5 := hide (below_via (unhide Hz).2.1 hb5)
      go_wp2_with fail
      go_ret2
      exact ⟨rfl, unhide hb5⟩
set_option maxRecDepth 20000 in
set_option maxHeartbeats 4000000 in
theorem rmon_u2 (n y m d Y M l L v g : Int) (K : Nat) (y1 : 1 ≤ y) (y2 : y ≤ 9999) (m1 : 1 ≤ m) (m2 : m ≤ 12) (K2 : (K : Int) ≤ 12000)
    (hT : Hid (RTos n y m d 0)) (hi : Hid (ix Y M = ix y m + (K : Int) ∧ 1 ≤ M ∧ M ≤ 12)) (hl : Hid (Q 24 #[.int .i64 Y, .int .i64 M] (.int .i64 l))) (hL : Hid (Q 24 #[.int .i64 y, .int .i64 m] (.int .i64 L))) (hg : decide (l < d) = false) (hF : Hid (RFroms Y M d v g)) : RMonsA n (K : Int) false v g := by
  intro w
  have k1 : decide ((K : Int) < -12000) = false := decide_eq_false (by omega)
  have k2 : decide (12000 < (K : Int)) = false := decide_eq_false (by omega)
  go_enter Try.func11, Try.ntmps11
  go_wp2_with fail
  refine (unhide hT _).mono ?_
  rintro e w1 ⟨rfl, hb1⟩
  have hB := hide (RM.new hb1 y m d)
  clear hb1
  obtain ⟨b, hb⟩ : ∃ b, b = w1.heap.size := ⟨_, rfl⟩
  rw [← hb] at hB
  have c0 := (unhide hB).1.c0
  have c1 := (unhide hB).1.c1
  have c2 := (unhide hB).1.c2
  go_wp2_with fail
  rw [← hb]
  generalize w1.alloc (.cells #[.int .i64 y, .int .i64 m, .int .i64 d] 46) = W at *
  clear hb
  go_quiet ((go_at_call 24; exact Calls.quiet_of_same (unhide hL _)))
  replace hB := hide ((unhide hB).dr nq)
  clear c0 c1 c2 k1 k2
  generalize W.drewN nq = W2 at *
  go_wp2_with fail
  go_loopw [1] (fun mv wr => ∃ (k : Nat) (yy mm : Int), k ≤ K ∧ mv = .int .i64 (k : Int) ∧ 1 ≤ mm ∧ mm ≤ 12 ∧ -2000 ≤ yy ∧ yy + (k : Int) ≤ 22000 ∧ Hid (ix yy mm + (k : Int) = ix y m + (K : Int)) ∧ Hid (RM w wr b yy mm d)) (fun mv _ => (intOf mv).toNat)
  case atStart => exact ⟨K, y, m, by omega, rfl, m1, m2, by omega, by omega, hide rfl, hB⟩
  case round =>
    clear hB
    obtain ⟨k, yy, mm, hk, rfl, hm1, hm2, hy1, hy2, hI, hB⟩ := hrel
    by_cases hlt : 0 < k
    · clear hl hL hF hi
      have hk0 : decide ((0 : Int) < (k : Int)) = true := decide_eq_true (by omega)
      have c0 := (unhide hB).1.c0
      have c1 := (unhide hB).1.c1
      have f1 := (unhide hB).1.fr 1
      by_cases h12 : mm = 12
      · subst h12
        have Hz := hide ((unhide hB).s1 13)
        have z0 := (unhide Hz).1.c0
        have z1 := (unhide Hz).1.c1
        have z2 := (unhide Hz).1.fr 0
        have Hy := hide ((unhide Hz).s0 (yy + 1))
        have u1 := (unhide Hy).1.fr 1
        have Hx := hide ((unhide Hy).s1 1)
        go_wp2_with fail
        go_roundw
        case rel => exact ⟨k - 1, yy + 1, 1, by omega, by congr 1; omega, by omega, by omega, by omega, by omega, hide (by have := unhide hI; unfold ix at *; omega), Hx⟩
        case measure => simp [intOf]; omega
      · have hmm : decide (12 < mm + 1) = false := decide_eq_false (by omega)
        have Hz := hide ((unhide hB).s1 (mm + 1))
        have z0 := (unhide Hz).1.c0
        have z1 := (unhide Hz).1.c1
        go_wp2_with fail
        go_roundw
        case rel => exact ⟨k - 1, yy, mm + 1, by omega, by congr 1; omega, by omega, by omega, by omega, by omega, hide (by have := unhide hI; unfold ix at *; omega), Hz⟩
        case measure => simp [intOf]; omega
    · obtain rfl : k = 0 := by omega
      obtain ⟨rfl, rfl⟩ : yy = Y ∧ mm = M := by have := unhide hI; have := unhide hi; unfold ix at *; omega
      clear hI hi hL
      have c0 := (unhide hB).1.c0
      have c1 := (unhide hB).1.c1
      have c2 := (unhide hB).1.c2
      go_wp2_with fail
      refine wp_loop_rounds 1 ?_
      rw [rounds_succ]
      go_wp2_with fail
      refine (unhide hl _).mono ?_
      rintro e w4 ⟨rfl, rfl⟩
      go_wp2_with fail
      refine (unhide hF _).mono ?_
      rintro e w5 ⟨rfl, hb5⟩
      replace hb5 := hide (below_via (unhide hB).2.1 hb5)
      go_wp2_with fail
      go_ret2
      exact ⟨rfl, unhide hb5⟩
set_option maxRecDepth 20000 in
set_option maxHeartbeats 4000000 in
theorem rmon_u3 (n y m d Y M l L v g : Int) (K : Nat) (y1 : 1 ≤ y) (y2 : y ≤ 9999) (m1 : 1 ≤ m) (m2 : m ≤ 12) (K2 : (K : Int) ≤ 12000)
    (hT : Hid (RTos n y m d 0)) (hi : Hid (ix Y M = ix y m + (K : Int) ∧ 1 ≤ M ∧ M ≤ 12)) (hl : Hid (Q 24 #[.int .i64 Y, .int .i64 M] (.int .i64 l))) (hL : Hid (Q 24 #[.int .i64 y, .int .i64 m] (.int .i64 L))) (hg : decide (l < d) = false) (heq : (d == L) = false) (hF : Hid (RFroms Y M d v g)) : RMonsA n (K : Int) true v g := by
  intro w
  have k1 : decide ((K : Int) < -12000) = false := decide_eq_false (by omega)
  have k2 : decide (12000 < (K : Int)) = false := decide_eq_false (by omega)
  go_enter Try.func11, Try.ntmps11
  go_wp2_with fail
  refine (unhide hT _).mono ?_
  rintro e w1 ⟨rfl, hb1⟩
  have hB := hide (RM.new hb1 y m d)
  clear hb1
  obtain ⟨b, hb⟩ : ∃ b, b = w1.heap.size := ⟨_, rfl⟩
  rw [← hb] at hB
  have c0 := (unhide hB).1.c0
  have c1 := (unhide hB).1.c1
  have c2 := (unhide hB).1.c2
  go_wp2_with fail
  rw [← hb]
  generalize w1.alloc (.cells #[.int .i64 y, .int .i64 m, .int .i64 d] 46) = W at *
  clear hb
  go_quiet ((go_at_call 24; exact Calls.quiet_of_same (unhide hL _)))
  replace hB := hide ((unhide hB).dr nq)
  clear c0 c1 c2 k1 k2
  generalize W.drewN nq = W2 at *
  go_wp2_with fail
  go_loopw [1] (fun mv wr => ∃ (k : Nat) (yy mm : Int), k ≤ K ∧ mv = .int .i64 (k : Int) ∧ 1 ≤ mm ∧ mm ≤ 12 ∧ -2000 ≤ yy ∧ yy + (k : Int) ≤ 22000 ∧ Hid (ix yy mm + (k : Int) = ix y m + (K : Int)) ∧ Hid (RM w wr b yy mm d)) (fun mv _ => (intOf mv).toNat)
  case atStart => exact ⟨K, y, m, by omega, rfl, m1, m2, by omega, by omega, hide rfl, hB⟩
  case round =>
    clear hB
    obtain ⟨k, yy, mm, hk, rfl, hm1, hm2, hy1, hy2, hI, hB⟩ := hrel
    by_cases hlt : 0 < k
    · clear hl hL hF hi
      have hk0 : decide ((0 : Int) < (k : Int)) = true := decide_eq_true (by omega)
      have c0 := (unhide hB).1.c0
      have c1 := (unhide hB).1.c1
      have f1 := (unhide hB).1.fr 1
      by_cases h12 : mm = 12
      · subst h12
        have Hz := hide ((unhide hB).s1 13)
        have z0 := (unhide Hz).1.c0
        have z1 := (unhide Hz).1.c1
        have z2 := (unhide Hz).1.fr 0
        have Hy := hide ((unhide Hz).s0 (yy + 1))
        have u1 := (unhide Hy).1.fr 1
        have Hx := hide ((unhide Hy).s1 1)
        go_wp2_with fail
        go_roundw
        case rel => exact ⟨k - 1, yy + 1, 1, by omega, by congr 1; omega, by omega, by omega, by omega, by omega, hide (by have := unhide hI; unfold ix at *; omega), Hx⟩
        case measure => simp [intOf]; omega
      · have hmm : decide (12 < mm + 1) = false := decide_eq_false (by omega)
        have Hz := hide ((unhide hB).s1 (mm + 1))
        have z0 := (unhide Hz).1.c0
        have z1 := (unhide Hz).1.c1
        go_wp2_with fail
        go_roundw
        case rel => exact ⟨k - 1, yy, mm + 1, by omega, by congr 1; omega, by omega, by omega, by omega, by omega, hide (by have := unhide hI; unfold ix at *; omega), Hz⟩
        case measure => simp [intOf]; omega
    · obtain rfl : k = 0 := by omega
      obtain ⟨rfl, rfl⟩ : yy = Y ∧ mm = M := by have := unhide hI; have := unhide hi; unfold ix at *; omega
      clear hI hi hL
      have c0 := (unhide hB).1.c0
      have c1 := (unhide hB).1.c1
      have c2 := (unhide hB).1.c2
      go_wp2_with fail
      refine wp_loop_rounds 1 ?_
      rw [rounds_succ]
      go_wp2_with fail
      refine (unhide hl _).mono ?_
      rintro e w4 ⟨rfl, rfl⟩
      go_wp2_with fail
      refine (unhide hF _).mono ?_
      rintro e w5 ⟨rfl, hb5⟩
      replace hb5 := hide (below_via (unhide hB).2.1 hb5)
      go_wp2_with fail
      go_ret2
      exact ⟨rfl, unhide hb5⟩
set_option maxRecDepth 20000 in
set_option maxHeartbeats 4000000 in
theorem rmon_u4 (n y m d Y M l L v g : Int) (K : Nat) (y1 : 1 ≤ y) (y2 : y ≤ 9999) (m1 : 1 ≤ m) (m2 : m ≤ 12) (K2 : (K : Int) ≤ 12000)
    (hT : Hid (RTos n y m d 0)) (hi : Hid (ix Y M = ix y m + (K : Int) ∧ 1 ≤ M ∧ M ≤ 12)) (hl : Hid (Q 24 #[.int .i64 Y, .int .i64 M] (.int .i64 l))) (hL : Hid (Q 24 #[.int .i64 y, .int .i64 m] (.int .i64 L))) (hg : decide (l < d) = false) (heq : (d == L) = true) (hF : Hid (RFroms Y M l v g)) : RMonsA n (K : Int) true v g := by
  intro w
  have k1 : decide ((K : Int) < -12000) = false := decide_eq_false (by omega)
  have k2 : decide (12000 < (K : Int)) = false := decide_eq_false (by omega)
  go_enter Try.func11, Try.ntmps11
  go_wp2_with fail
  refine (unhide hT _).mono ?_
  rintro e w1 ⟨rfl, hb1⟩
  have hB := hide (RM.new hb1 y m d)
  clear hb1
  obtain ⟨b, hb⟩ : ∃ b, b = w1.heap.size := ⟨_, rfl⟩
  rw [← hb] at hB
  have c0 := (unhide hB).1.c0
  have c1 := (unhide hB).1.c1
  have c2 := (unhide hB).1.c2
  go_wp2_with fail
  rw [← hb]
  generalize w1.alloc (.cells #[.int .i64 y, .int .i64 m, .int .i64 d] 46) = W at *
  clear hb
  go_quiet ((go_at_call 24; exact Calls.quiet_of_same (unhide hL _)))
  replace hB := hide ((unhide hB).dr nq)
  clear c0 c1 c2 k1 k2
  generalize W.drewN nq = W2 at *
  go_wp2_with fail
  go_loopw [1] (fun mv wr => ∃ (k : Nat) (yy mm : Int), k ≤ K ∧ mv = .int .i64 (k : Int) ∧ 1 ≤ mm ∧ mm ≤ 12 ∧ -2000 ≤ yy ∧ yy + (k : Int) ≤ 22000 ∧ Hid (ix yy mm + (k : Int) = ix y m + (K : Int)) ∧ Hid (RM w wr b yy mm d)) (fun mv _ => (intOf mv).toNat)
  case atStart => exact ⟨K, y, m, by omega, rfl, m1, m2, by omega, by omega, hide rfl, hB⟩
  case round =>
    clear hB
    obtain ⟨k, yy, mm, hk, rfl, hm1, hm2, hy1, hy2, hI, hB⟩ := hrel
    by_cases hlt : 0 < k
    · clear hl hL hF hi
      have hk0 : decide ((0 : Int) < (k : Int)) = true := decide_eq_true (by omega)
      have c0 := (unhide hB).1.c0
      have c1 := (unhide hB).1.c1
      have f1 := (unhide hB).1.fr 1
      by_cases h12 : mm = 12
      · subst h12
        have Hz := hide ((unhide hB).s1 13)
        have z0 := (unhide Hz).1.c0
        have z1 := (unhide Hz).1.c1
        have z2 := (unhide Hz).1.fr 0
        have Hy := hide ((unhide Hz).s0 (yy + 1))
        have u1 := (unhide Hy).1.fr 1
        have Hx := hide ((unhide Hy).s1 1)
        go_wp2_with fail
        go_roundw
        case rel => exact ⟨k - 1, yy + 1, 1, by omega, by congr 1; omega, by omega, by omega, by omega, by omega, hide (by have := unhide hI; unfold ix at *; omega), Hx⟩
        case measure => simp [intOf]; omega
      · have hmm : decide (12 < mm + 1) = false := decide_eq_false (by omega)
        have Hz := hide ((unhide hB).s1 (mm + 1))
        have z0 := (unhide Hz).1.c0
        have z1 := (unhide Hz).1.c1
        go_wp2_with fail
        go_roundw
        case rel => exact ⟨k - 1, yy, mm + 1, by omega, by congr 1; omega, by omega, by omega, by omega, by omega, hide (by have := unhide hI; unfold ix at *; omega), Hz⟩
        case measure => simp [intOf]; omega
    · obtain rfl : k = 0 := by omega
      obtain ⟨rfl, rfl⟩ : yy = Y ∧ mm = M := by have := unhide hI; have := unhide hi; unfold ix at *; omega
      clear hI hi hL
      have c0 := (unhide hB).1.c0
      have c1 := (unhide hB).1.c1
      have c2 := (unhide hB).1.c2
      go_wp2_with fail
      refine wp_loop_rounds 1 ?_
      rw [rounds_succ]
      go_wp2_with fail
      refine (unhide hl _).mono ?_
      rintro e w4 ⟨rfl, rfl⟩
      have f2 := (unhide hB).1.fr 2
      have Hz := hide ((unhide hB).s2 l)
      have x0 := (unhide Hz).1.c0
      have x1 := (unhide Hz).1.c1
      have x2 := (unhide Hz).1.c2
      go_wp2_with fail
      refine (unhide hF _).mono ?_
      rintro e w5 ⟨rfl, hb5⟩
      replace hb5 := hide (below_via (unhide Hz).2.1 hb5)
      go_wp2_with fail
      go_ret2
      exact ⟨rfl, unhide hb5⟩
set_option maxRecDepth 20000 in
set_option maxHeartbeats 4000000 in
theorem rmon_d1 (n y m d Y M l L v g : Int) (K : Nat) (en : Bool) (y1 : 1 ≤ y) (y2 : y ≤ 9999) (m1 : 1 ≤ m) (m2 : m ≤ 12) (K2 : (K : Int) ≤ 12000) (K1 : (1 : Int) ≤ (K : Int))
    (hT : Hid (RTos n y m d 0)) (hi : Hid (ix Y M = ix y m + (-(K : Int)) ∧ 1 ≤ M ∧ M ≤ 12)) (hl : Hid (Q 24 #[.int .i64 Y, .int .i64 M] (.int .i64 l))) (hL : Hid (Q 24 #[.int .i64 y, .int .i64 m] (.int .i64 L))) (hg : decide (l < d) = true) (hF : Hid (RFroms Y M l v g)) : RMonsA n (-(K : Int)) en v g := by
  intro w
  have k1 : decide ((-(K : Int)) < -12000) = false := decide_eq_false (by omega)
  have k2 : decide (12000 < (-(K : Int))) = false := decide_eq_false (by omega)
  go_enter Try.func11, Try.ntmps11
  go_wp2_with fail
  refine (unhide hT _).mono ?_
  rintro e w1 ⟨rfl, hb1⟩
  have hB := hide (RM.new hb1 y m d)
  clear hb1
  obtain ⟨b, hb⟩ : ∃ b, b = w1.heap.size := ⟨_, rfl⟩
  rw [← hb] at hB
  have c0 := (unhide hB).1.c0
  have c1 := (unhide hB).1.c1
  have c2 := (unhide hB).1.c2
  go_wp2_with fail
  rw [← hb]
  generalize w1.alloc (.cells #[.int .i64 y, .int .i64 m, .int .i64 d] 46) = W at *
  clear hb
  go_quiet ((go_at_call 24; exact Calls.quiet_of_same (unhide hL _)))
  replace hB := hide ((unhide hB).dr nq)
  clear c0 c1 c2 k1 k2
  generalize W.drewN nq = W2 at *
  go_wp2_with fail
  have n0 : decide ((0 : Int) < -(K : Int)) = false := decide_eq_false (by omega)
  refine wp_loop_rounds 1 ?_
  rw [rounds_succ]
  go_wp2_with fail
  clear n0
  go_loopw [1] (fun mv wr => ∃ (k : Nat) (yy mm : Int), k ≤ K ∧ mv = .int .i64 (-(k : Int)) ∧ 1 ≤ mm ∧ mm ≤ 12 ∧ -22000 ≤ yy - (k : Int) ∧ yy ≤ 9999 ∧ Hid (ix yy mm - (k : Int) = ix y m - (K : Int)) ∧ Hid (RM w wr b yy mm d)) (fun mv _ => (-(intOf mv)).toNat)
  case atStart => exact ⟨K, y, m, by omega, rfl, m1, m2, by omega, by omega, hide rfl, hB⟩
  case round =>
    clear hB
    obtain ⟨k, yy, mm, hk, rfl, hm1, hm2, hy1, hy2, hI, hB⟩ := hrel
    by_cases hlt : 0 < k
    · clear hl hL hF hi
      have hk0 : decide (-(k : Int) < 0) = true := decide_eq_true (by omega)
      have c0 := (unhide hB).1.c0
      have c1 := (unhide hB).1.c1
      have f1 := (unhide hB).1.fr 1
      by_cases h12 : mm = 1
      · subst h12
        have Hz := hide ((unhide hB).s1 0)
        have z0 := (unhide Hz).1.c0
        have z1 := (unhide Hz).1.c1
        have z2 := (unhide Hz).1.fr 0
        have Hy := hide ((unhide Hz).s0 (yy - 1))
        have u1 := (unhide Hy).1.fr 1
        have Hx := hide ((unhide Hy).s1 12)
        go_wp2_with fail
        go_roundw
        case rel => exact ⟨k - 1, yy - 1, 12, by omega, by congr 1; omega, by omega, by omega, by omega, by omega, hide (by have := unhide hI; unfold ix at *; omega), Hx⟩
        case measure => simp [intOf]; omega
      · have hmm : decide (mm - 1 < 1) = false := decide_eq_false (by omega)
        have Hz := hide ((unhide hB).s1 (mm - 1))
        have z0 := (unhide Hz).1.c0
        have z1 := (unhide Hz).1.c1
        go_wp2_with fail
        go_roundw
        case rel => exact ⟨k - 1, yy, mm - 1, by omega, by congr 1; omega, by omega, by omega, by omega, by omega, hide (by have := unhide hI; unfold ix at *; omega), Hz⟩
        case measure => simp [intOf]; omega
    · obtain rfl : k = 0 := by omega
      obtain ⟨rfl, rfl⟩ : yy = Y ∧ mm = M := by have := unhide hI; have := unhide hi; unfold ix at *; omega
      clear hI hi hL
      have c0 := (unhide hB).1.c0
      have c1 := (unhide hB).1.c1
      have c2 := (unhide hB).1.c2
      go_wp2_with fail
      refine (unhide hl _).mono ?_
      rintro e w4 ⟨rfl, rfl⟩
      have f2 := (unhide hB).1.fr 2
      have Hz := hide ((unhide hB).s2 l)
      have x0 := (unhide Hz).1.c0
      have x1 := (unhide Hz).1.c1
      have x2 := (unhide Hz).1.c2
      go_wp2_with fail
      refine (unhide hF _).mono ?_
      rintro e w5 ⟨rfl, hb5⟩
      replace hb5 := hide (below_via (unhide Hz).2.1 hb5)
      go_wp2_with fail
      go_ret2
      exact ⟨rfl, unhide hb5⟩
set_option maxRecDepth 20000 in
set_option maxHeartbeats 4000000 in
theorem rmon_d2 (n y m d Y M l L v g : Int) (K : Nat) (y1 : 1 ≤ y) (y2 : y ≤ 9999) (m1 : 1 ≤ m) (m2 : m ≤ 12) (K2 : (K : Int) ≤ 12000) (K1 : (1 : Int) ≤ (K : Int))
    (hT : Hid (RTos n y m d 0)) (hi : Hid (ix Y M = ix y m + (-(K : Int)) ∧ 1 ≤ M ∧ M ≤ 12)) (hl : Hid (Q 24 #[.int .i64 Y, .int .i64 M] (.int .i64 l))) (hL : Hid (Q 24 #[.int .i64 y, .int .i64 m] (.int .i64 L))) (hg : decide (l < d) = false) (hF : Hid (RFroms Y M d v g)) : RMonsA n (-(K : Int)) false v g := by
  intro w
  have k1 : decide ((-(K : Int)) < -12000) = false := decide_eq_false (by omega)
  have k2 : decide (12000 < (-(K : Int))) = false := decide_eq_false (by omega)
  go_enter Try.func11, Try.ntmps11
  go_wp2_with fail
  refine (unhide hT _).mono ?_
  rintro e w1 ⟨rfl, hb1⟩
  have hB := hide (RM.new hb1 y m d)
  clear hb1
  obtain ⟨b, hb⟩ : ∃ b, b = w1.heap.size := ⟨_, rfl⟩
  rw [← hb] at hB
  have c0 := (unhide hB).1.c0
  have c1 := (unhide hB).1.c1
  have c2 := (unhide hB).1.c2
  go_wp2_with fail
  rw [← hb]
  generalize w1.alloc (.cells #[.int .i64 y, .int .i64 m, .int .i64 d] 46) = W at *
  clear hb
  go_quiet ((go_at_call 24; exact Calls.quiet_of_same (unhide hL _)))
  replace hB := hide ((unhide hB).dr nq)
  clear c0 c1 c2 k1 k2
  generalize W.drewN nq = W2 at *
  go_wp2_with fail
  have n0 : decide ((0 : Int) < -(K : Int)) = false := decide_eq_false (by omega)
  refine wp_loop_rounds 1 ?_
  rw [rounds_succ]
  go_wp2_with fail
  clear n0
  go_loopw [1] (fun mv wr => ∃ (k : Nat) (yy mm : Int), k ≤ K ∧ mv = .int .i64 (-(k : Int)) ∧ 1 ≤ mm ∧ mm ≤ 12 ∧ -22000 ≤ yy - (k : Int) ∧ yy ≤ 9999 ∧ Hid (ix yy mm - (k : Int) = ix y m - (K : Int)) ∧ Hid (RM w wr b yy mm d)) (fun mv _ => (-(intOf mv)).toNat)
  case atStart => exact ⟨K, y, m, by omega, rfl, m1, m2, by omega, by omega, hide rfl, hB⟩
  case round =>
    clear hB
    obtain ⟨k, yy, mm, hk, rfl, hm1, hm2, hy1, hy2, hI, hB⟩ := hrel
    by_cases hlt : 0 < k
    · clear hl hL hF hi
      have hk0 : decide (-(k : Int) < 0) = true := decide_eq_true (by omega)
      have c0 := (unhide hB).1.c0
      have c1 := (unhide hB).1.c1
      have f1 := (unhide hB).1.fr 1
      by_cases h12 : mm = 1
      · subst h12
        have Hz := hide ((unhide hB).s1 0)
        have z0 := (unhide Hz).1.c0
        have z1 := (unhide Hz).1.c1
        have z2 := (unhide Hz).1.fr 0
        have Hy := hide ((unhide Hz).s0 (yy - 1))
        have u1 := (unhide Hy).1.fr 1
        have Hx := hide ((unhide Hy).s1 12)
        go_wp2_with fail
        go_roundw
        case rel => exact ⟨k - 1, yy - 1, 12, by omega, by congr 1; omega, by omega, by omega, by omega, by omega, hide (by have := unhide hI; unfold ix at *; omega), Hx⟩
        case measure => simp [intOf]; omega
      · have hmm : decide (mm - 1 < 1) = false := decide_eq_false (by omega)
        have Hz := hide ((unhide hB).s1 (mm - 1))
        have z0 := (unhide Hz).1.c0
        have z1 := (unhide Hz).1.c1
        go_wp2_with fail
        go_roundw
        case rel => exact ⟨k - 1, yy, mm - 1, by omega, by congr 1; omega, by omega, by omega, by omega, by omega, hide (by have := unhide hI; unfold ix at *; omega), Hz⟩
        case measure => simp [intOf]; omega
    · obtain rfl : k = 0 := by omega
      obtain ⟨rfl, rfl⟩ : yy = Y ∧ mm = M := by have := unhide hI; have := unhide hi; unfold ix at *; omega
      clear hI hi hL
      have c0 := (unhide hB).1.c0
      have c1 := (unhide hB).1.c1
      have c2 := (unhide hB).1.c2
      go_wp2_with fail
      refine (unhide hl _).mono ?_
      rintro e w4 ⟨rfl, rfl⟩
      go_wp2_with fail
      refine (unhide hF _).mono ?_
      rintro e w5 ⟨rfl, hb5⟩
      replace hb5 := hide (below_via (unhide hB).2.1 hb5)
      go_wp2_with fail
      go_ret2
      exact ⟨rfl, unhide hb5⟩
set_option maxRecDepth 20000 in
set_option maxHeartbeats 4000000 in
theorem rmon_d3 (n y m d Y M l L v g : Int) (K : Nat) (y1 : 1 ≤ y) (y2 : y ≤ 9999) (m1 : 1 ≤ m) (m2 : m ≤ 12) (K2 : (K : Int) ≤ 12000) (K1 : (1 : Int) ≤ (K : Int))
    (hT : Hid (RTos n y m d 0)) (hi : Hid (ix Y M = ix y m + (-(K : Int)) ∧ 1 ≤ M ∧ M ≤ 12)) (hl : Hid (Q 24 #[.int .i64 Y, .int .i64 M] (.int .i64 l))) (hL : Hid (Q 24 #[.int .i64 y, .int .i64 m] (.int .i64 L))) (hg : decide (l < d) = false) (heq : (d == L) = false) (hF : Hid (RFroms Y M d v g)) : RMonsA n (-(K : Int)) true v g := by
  intro w
  have k1 : decide ((-(K : Int)) < -12000) = false := decide_eq_false (by omega)
  have k2 : decide (12000 < (-(K : Int))) = false := decide_eq_false (by omega)
  go_enter Try.func11, Try.ntmps11
  go_wp2_with fail
  refine (unhide hT _).mono ?_
  rintro e w1 ⟨rfl, hb1⟩
  have hB := hide (RM.new hb1 y m d)
  clear hb1
  obtain ⟨b, hb⟩ : ∃ b, b = w1.heap.size := ⟨_, rfl⟩
  rw [← hb] at hB
  have c0 := (unhide hB).1.c0
  have c1 := (unhide hB).1.c1
  have c2 := (unhide hB).1.c2
  go_wp2_with fail
  rw [← hb]
  generalize w1.alloc (.cells #[.int .i64 y, .int .i64 m, .int .i64 d] 46) = W at *
  clear hb
  go_quiet ((go_at_call 24; exact Calls.quiet_of_same (unhide hL _)))
  replace hB := hide ((unhide hB).dr nq)
  clear c0 c1 c2 k1 k2
  generalize W.drewN nq = W2 at *
  go_wp2_with fail
  have n0 : decide ((0 : Int) < -(K : Int)) = false := decide_eq_false (by omega)
  refine wp_loop_rounds 1 ?_
  rw [rounds_succ]
  go_wp2_with fail
  clear n0
  go_loopw [1] (fun mv wr => ∃ (k : Nat) (yy mm : Int), k ≤ K ∧ mv = .int .i64 (-(k : Int)) ∧ 1 ≤ mm ∧ mm ≤ 12 ∧ -22000 ≤ yy - (k : Int) ∧ yy ≤ 9999 ∧ Hid (ix yy mm - (k : Int) = ix y m - (K : Int)) ∧ Hid (RM w wr b yy mm d)) (fun mv _ => (-(intOf mv)).toNat)
  case atStart => exact ⟨K, y, m, by omega, rfl, m1, m2, by omega, by omega, hide rfl, hB⟩
  case round =>
    clear hB
    obtain ⟨k, yy, mm, hk, rfl, hm1, hm2, hy1, hy2, hI, hB⟩ := hrel
    by_cases hlt : 0 < k
    · clear hl hL hF hi
      have hk0 : decide (-(k : Int) < 0) = true := decide_eq_true (by omega)
      have c0 := (unhide hB).1.c0
      have c1 := (unhide hB).1.c1
      have f1 := (unhide hB).1.fr 1
      by_cases h12 : mm = 1
      · subst h12
        have Hz := hide ((unhide hB).s1 0)
        have z0 := (unhide Hz).1.c0
        have z1 := (unhide Hz).1.c1
        have z2 := (unhide Hz).1.fr 0
        have Hy := hide ((unhide Hz).s0 (yy - 1))
        have u1 := (unhide Hy).1.fr 1
        have Hx := hide ((unhide Hy).s1 12)
        go_wp2_with fail
        go_roundw
        case rel => exact ⟨k - 1, yy - 1, 12, by omega, by congr 1; omega, by omega, by omega, by omega, by omega, hide (by have := unhide hI; unfold ix at *; omega), Hx⟩
        case measure => simp [intOf]; omega
      · have hmm : decide (mm - 1 < 1) = false := decide_eq_false (by omega)
        have Hz := hide ((unhide hB).s1 (mm - 1))
        have z0 := (unhide Hz).1.c0
        have z1 := (unhide Hz).1.c1
        go_wp2_with fail
        go_roundw
        case rel => exact ⟨k - 1, yy, mm - 1, by omega, by congr 1; omega, by omega, by omega, by omega, by omega, hide (by have := unhide hI; unfold ix at *; omega), Hz⟩
        case measure => simp [intOf]; omega
    · obtain rfl : k = 0 := by omega
      obtain ⟨rfl, rfl⟩ : yy = Y ∧ mm = M := by have := unhide hI; have := unhide hi; unfold ix at *; omega
      clear hI hi hL
      have c0 := (unhide hB).1.c0
      have c1 := (unhide hB).1.c1
      have c2 := (unhide hB).1.c2
      go_wp2_with fail
      refine (unhide hl _).mono ?_
      rintro e w4 ⟨rfl, rfl⟩
      go_wp2_with fail
      refine (unhide hF _).mono ?_
      rintro e w5 ⟨rfl, hb5⟩
      replace hb5 := hide (below_via (unhide hB).2.1 hb5)
      go_wp2_with fail
      go_ret2
      exact ⟨rfl, unhide hb5⟩
set_option maxRecDepth 20000 in
set_option maxHeartbeats 4000000 in
theorem rmon_d4 (n y m d Y M l L v g : Int) (K : Nat) (y1 : 1 ≤ y) (y2 : y ≤ 9999) (m1 : 1 ≤ m) (m2 : m ≤ 12) (K2 : (K : Int) ≤ 12000) (K1 : (1 : Int) ≤ (K : Int))
    (hT : Hid (RTos n y m d 0)) (hi : Hid (ix Y M = ix y m + (-(K : Int)) ∧ 1 ≤ M ∧ M ≤ 12)) (hl : Hid (Q 24 #[.int .i64 Y, .int .i64 M] (.int .i64 l))) (hL : Hid (Q 24 #[.int .i64 y, .int .i64 m] (.int .i64 L))) (hg : decide (l < d) = false) (heq : (d == L) = true) (hF : Hid (RFroms Y M l v g)) : RMonsA n (-(K : Int)) true v g := by
  intro w
  have k1 : decide ((-(K : Int)) < -12000) = false := decide_eq_false (by omega)
  have k2 : decide (12000 < (-(K : Int))) = false := decide_eq_false (by omega)
  go_enter Try.func11, Try.ntmps11
  go_wp2_with fail
  refine (unhide hT _).mono ?_
  rintro e w1 ⟨rfl, hb1⟩
  have hB := hide (RM.new hb1 y m d)
  clear hb1
  obtain ⟨b, hb⟩ : ∃ b, b = w1.heap.size := ⟨_, rfl⟩
  rw [← hb] at hB
  have c0 := (unhide hB).1.c0
  have c1 := (unhide hB).1.c1
  have c2 := (unhide hB).1.c2
  go_wp2_with fail
  rw [← hb]
  generalize w1.alloc (.cells #[.int .i64 y, .int .i64 m, .int .i64 d] 46) = W at *
  clear hb
  go_quiet ((go_at_call 24; exact Calls.quiet_of_same (unhide hL _)))
  replace hB := hide ((unhide hB).dr nq)
  clear c0 c1 c2 k1 k2
  generalize W.drewN nq = W2 at *
  go_wp2_with fail
  have n0 : decide ((0 : Int) < -(K : Int)) = false := decide_eq_false (by omega)
  refine wp_loop_rounds 1 ?_
  rw [rounds_succ]
  go_wp2_with fail
  clear n0
  go_loopw [1] (fun mv wr => ∃ (k : Nat) (yy mm : Int), k ≤ K ∧ mv = .int .i64 (-(k : Int)) ∧ 1 ≤ mm ∧ mm ≤ 12 ∧ -22000 ≤ yy - (k : Int) ∧ yy ≤ 9999 ∧ Hid (ix yy mm - (k : Int) = ix y m - (K : Int)) ∧ Hid (RM w wr b yy mm d)) (fun mv _ => (-(intOf mv)).toNat)
  case atStart => exact ⟨K, y, m, by omega, rfl, m1, m2, by omega, by omega, hide rfl, hB⟩
  case round =>
    clear hB
    obtain ⟨k, yy, mm, hk, rfl, hm1, hm2, hy1, hy2, hI, hB⟩ := hrel
    by_cases hlt : 0 < k
    · clear hl hL hF hi
      have hk0 : decide (-(k : Int) < 0) = true := decide_eq_true (by omega)
      have c0 := (unhide hB).1.c0
      have c1 := (unhide hB).1.c1
      have f1 := (unhide hB).1.fr 1
      by_cases h12 : mm = 1
      · subst h12
        have Hz := hide ((unhide hB).s1 0)
        have z0 := (unhide Hz).1.c0
        have z1 := (unhide Hz).1.c1
        have z2 := (unhide Hz).1.fr 0
        have Hy := hide ((unhide Hz).s0 (yy - 1))
        have u1 := (unhide Hy).1.fr 1
        have Hx := hide ((unhide Hy).s1 12)
        go_wp2_with fail
        go_roundw
        case rel => exact ⟨k - 1, yy - 1, 12, by omega, by congr 1; omega, by omega, by omega, by omega, by omega, hide (by have := unhide hI; unfold ix at *; omega), Hx⟩
        case measure => simp [intOf]; omega
      · have hmm : decide (mm - 1 < 1) = false := decide_eq_false (by omega)
        have Hz := hide ((unhide hB).s1 (mm - 1))
        have z0 := (unhide Hz).1.c0
        have z1 := (unhide Hz).1.c1
        go_wp2_with fail
        go_roundw
        case rel => exact ⟨k - 1, yy, mm - 1, by omega, by congr 1; omega, by omega, by omega, by omega, by omega, hide (by have := unhide hI; unfold ix at *; omega), Hz⟩
        case measure => simp [intOf]; omega
    · obtain rfl : k = 0 := by omega
      obtain ⟨rfl, rfl⟩ : yy = Y ∧ mm = M := by have := unhide hI; have := unhide hi; unfold ix at *; omega
      clear hI hi hL
      have c0 := (unhide hB).1.c0
      have c1 := (unhide hB).1.c1
      have c2 := (unhide hB).1.c2
      go_wp2_with fail
      refine (unhide hl _).mono ?_
      rintro e w4 ⟨rfl, rfl⟩
      have f2 := (unhide hB).1.fr 2
      have Hz := hide ((unhide hB).s2 l)
      have x0 := (unhide Hz).1.c0
      have x1 := (unhide Hz).1.c1
      have x2 := (unhide Hz).1.c2
      go_wp2_with fail
      refine (unhide hF _).mono ?_
      rintro e w5 ⟨rfl, hb5⟩
      replace hb5 := hide (below_via (unhide Hz).2.1 hb5)
      go_wp2_with fail
      go_ret2
      exact ⟨rfl, unhide hb5⟩
/-- The reference's Months, at any day. -/
theorem rmon_any {y m d : Int} (h : Valid y m d) (k : Int) (en : Bool) (k3 : -12000 ≤ k) (k4 : k ≤ 12000) : RMonsA (num y m d) k en (monN (ix y m + k) (en && (d == len (leap y) m)) d) (monE (ix y m + k)) := by
  have hT := hide (rto_ok y m d h)
  obtain ⟨y1, y2, m1, m2, d1, d2⟩ := h
  have hL := rlast_any y m
  rw [last_in y1 y2] at hL
  obtain ⟨i, hi⟩ : ∃ i, i = ix y m + k := ⟨_, rfl⟩
  rw [← hi]
  obtain ⟨Y, hY⟩ : ∃ Y, i / 12 = Y := ⟨_, rfl⟩
  obtain ⟨M, hM⟩ : ∃ M, i % 12 + 1 = M := ⟨_, rfl⟩
  have hl := rlast_any Y M
  obtain ⟨l, hl0⟩ : ∃ l, l = last Y M := ⟨_, rfl⟩
  obtain ⟨L, hL0⟩ : ∃ L, L = len (leap y) m := ⟨_, rfl⟩
  rw [← hl0] at hl
  rw [← hL0] at hL ⊢
  have key : ∀ D : Int, (D = if l < d ∨ (en && (d == L)) = true then l else d) → RFroms Y M D (monN i (en && (d == L)) d) (monE i) := by
    intro D hD
    by_cases c : 1 ≤ i / 12 ∧ i / 12 ≤ 9999
    · obtain ⟨a1, a2⟩ := mon_in (last := en && (d == L)) (d := d) c
      rw [a1, a2, hY, hM]
      have hv : Valid Y M (dOf (en && (d == L)) d Y M) := dOf_valid (by omega) (by omega) (by omega) (by omega) d1
      have e : D = dOf (en && (d == L)) d Y M := by
        rw [hD, hl0, last_in (by omega) (by omega)]
        rfl
      rw [e]
      exact rfrom_ok hv
    · obtain ⟨a1, a2⟩ := mon_out (last := en && (d == L)) (d := d) c
      rw [a1, a2]
      refine rfrom_no (fun hv => ?_)
      rw [hY] at c
      exact c ⟨hv.y1, hv.y2⟩
  have hI : ix Y M = ix y m + k ∧ 1 ≤ M ∧ M ≤ 12 := ⟨by rw [← hY, ← hM, ix_of, hi], by omega, by omega⟩
  have pick : ∀ (P : Prop), (l < d → P) → (¬ l < d → en = false → P) → (¬ l < d → en = true → (d == L) = false → P) → (¬ l < d → en = true → (d == L) = true → P) → P := fun P p1 p2 p3 p4 => by
    by_cases c : l < d
    · exact p1 c
    · cases en
      · exact p2 c rfl
      · cases e : d == L
        · exact p3 c rfl e
        · exact p4 c rfl e
  by_cases hk : 0 ≤ k
  · obtain ⟨K, rfl⟩ := Int.eq_ofNat_of_zero_le hk
    refine pick _ (fun c => ?_) (fun c e => ?_) (fun c e q => ?_) (fun c e q => ?_)
    · exact rmon_u1 _ y m d Y M l L _ _ K en y1 y2 m1 m2 k4 hT (hide hI) (hide hl) (hide hL) (decide_eq_true c) (hide (key l (by rw [if_pos (Or.inl c)])))
    · subst e
      exact rmon_u2 _ y m d Y M l L _ _ K y1 y2 m1 m2 k4 hT (hide hI) (hide hl) (hide hL) (decide_eq_false c) (hide (key d (by rw [if_neg (fun x => x.elim c (fun x => by cases x))])))
    · subst e
      exact rmon_u3 _ y m d Y M l L _ _ K y1 y2 m1 m2 k4 hT (hide hI) (hide hl) (hide hL) (decide_eq_false c) q (hide (key d (by rw [q, if_neg (fun x => x.elim c (fun x => by cases x))])))
    · subst e
      exact rmon_u4 _ y m d Y M l L _ _ K y1 y2 m1 m2 k4 hT (hide hI) (hide hl) (hide hL) (decide_eq_false c) q (hide (key l (by rw [q, if_pos (show l < d ∨ (true && true) = true from Or.inr rfl)])))
  · obtain ⟨K, rfl⟩ : ∃ K : Nat, k = -(K : Int) := ⟨k.natAbs, by omega⟩
    refine pick _ (fun c => ?_) (fun c e => ?_) (fun c e q => ?_) (fun c e q => ?_)
    · exact rmon_d1 _ y m d Y M l L _ _ K en y1 y2 m1 m2 (by omega) (by omega) hT (hide hI) (hide hl) (hide hL) (decide_eq_true c) (hide (key l (by rw [if_pos (Or.inl c)])))
    · subst e
      exact rmon_d2 _ y m d Y M l L _ _ K y1 y2 m1 m2 (by omega) (by omega) hT (hide hI) (hide hl) (hide hL) (decide_eq_false c) (hide (key d (by rw [if_neg (fun x => x.elim c (fun x => by cases x))])))
    · subst e
      exact rmon_d3 _ y m d Y M l L _ _ K y1 y2 m1 m2 (by omega) (by omega) hT (hide hI) (hide hl) (hide hL) (decide_eq_false c) q (hide (key d (by rw [q, if_neg (fun x => x.elim c (fun x => by cases x))])))
    · subst e
      exact rmon_d4 _ y m d Y M l L _ _ K y1 y2 m1 m2 (by omega) (by omega) hT (hide hI) (hide hl) (hide hL) (decide_eq_false c) q (hide (key l (by rw [q, if_pos (show l < d ∨ (true && true) = true from Or.inr rfl)])))
theorem rmon_far {y m d : Int} (h : Valid y m d) (k : Int) (en : Bool) (hk : ¬ (-12000 ≤ k ∧ k ≤ 12000)) : RMonsA (num y m d) k en 0 2 := by
  have hT := hide (rto_ok y m d h)
  by_cases c : k < -12000
  · exact rmon_lo _ y m d k en hT (decide_eq_true c)
  · exact rmon_hi _ y m d k en hT (decide_eq_false c) (decide_eq_true (by omega))
end Go.Proofs.Ytmpalgfhamahnaa
