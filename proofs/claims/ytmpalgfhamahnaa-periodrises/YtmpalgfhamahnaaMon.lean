/- What period's Months answers. -/
import Derived.Test.YtmpalgfhamahnaaFrom
import Derived.Test.YtmpalgfhamahnaaPNum
import Derived.WalkKit
import Derived.WalkSpells
namespace Go.Proofs.Ytmpalgfhamahnaa
open Go.RowKit
set_option linter.unusedSimpArgs false
/-- Months answers. -/
def MonsA (n k : Int) (en : Bool) (v e : Int) : Prop := ∀ w : World, Calls Try.prog 10 #[.int .i64 n, .int .i64 k, .bool en] w fun z w' => z = .returned (.tuple #[.int .i64 v, .int .i64 e]) ∧ Below w.heap.size w w'
set_option maxRecDepth 20000 in
set_option maxHeartbeats 1000000 in
theorem mon_no (n k : Int) (en : Bool) (h : n < 1 ∨ 3652059 < n) : MonsA n k en 0 5 := by
  intro w
  have hT := hide (to_no n h)
  go_enter Try.func10, Try.ntmps10
  go_wp2_with fail
  refine (unhide hT _).mono ?_
  rintro e w1 ⟨rfl, hb1⟩
  replace hb1 := hide (below_via hb1 ((Below.refl w1.heap.size w1).alloc (Nat.le_refl _) (.cells #[.int .i64 0, .int .i64 0, .int .i64 0] 37)))
  go_wp2_with fail
  go_ret2
  exact ⟨rfl, unhide hb1⟩
set_option maxRecDepth 20000 in
set_option maxHeartbeats 1000000 in
theorem mon_lo (n y m d k : Int) (en : Bool) (k1 : decide (k < -12000) = true) (hT : Hid (Tos n y m d 0)) : MonsA n k en 0 2 := by
  intro w
  go_enter Try.func10, Try.ntmps10
  go_wp2_with fail
  refine (unhide hT _).mono ?_
  rintro e w1 ⟨rfl, hb1⟩
  replace hb1 := hide (below_via hb1 ((Below.refl w1.heap.size w1).alloc (Nat.le_refl _) (.cells #[.int .i64 y, .int .i64 m, .int .i64 d] 37)))
  go_wp2_with fail
  go_ret2
  exact ⟨rfl, unhide hb1⟩
set_option maxRecDepth 20000 in
set_option maxHeartbeats 1000000 in
theorem mon_hi (n y m d k : Int) (en : Bool) (k1 : decide (k < -12000) = false) (k2 : decide (12000 < k) = true) (hT : Hid (Tos n y m d 0)) : MonsA n k en 0 2 := by
  intro w
  go_enter Try.func10, Try.ntmps10
  go_wp2_with fail
  refine (unhide hT _).mono ?_
  rintro e w1 ⟨rfl, hb1⟩
  replace hb1 := hide (below_via hb1 ((Below.refl w1.heap.size w1).alloc (Nat.le_refl _) (.cells #[.int .i64 y, .int .i64 m, .int .i64 d] 37)))
  go_wp2_with fail
  go_ret2
  exact ⟨rfl, unhide hb1⟩
set_option maxRecDepth 20000 in
set_option maxHeartbeats 2000000 in
theorem mon_1 (n y m d k Y M l v g : Int) (y1 : 1 ≤ y) (y2 : y ≤ 9999) (m1 : 1 ≤ m) (m2 : m ≤ 12) (k1 : decide (k < -12000) = false) (k2 : decide (12000 < k) = false) (k3 : -12000 ≤ k) (k4 : k ≤ 12000)
    (hT : Hid (Tos n y m d 0)) (hY : Hid ((12 * y + m - 1 + k).tdiv 12 = Y)) (hM : Hid (wrap64 ((12 * y + m - 1 + k).tmod 12 + 1) = M)) (hl : Hid (Q 21 #[.int .i64 Y, .int .i64 M] (.int .i64 l))) (hm : d ≤ l)  (hF : Hid (Froms Y M d v g)) : MonsA n k false v g := by
  intro w
  go_enter Try.func10, Try.ntmps10
  go_wp2_with fail
  refine (unhide hT _).mono ?_
  rintro e w1 ⟨rfl, hb1⟩
  replace hb1 := hide (below_via hb1 ((Below.refl w1.heap.size w1).alloc (Nat.le_refl _) (.cells #[.int .i64 y, .int .i64 m, .int .i64 d] 37)))
  go_wp2_with fail
  rw [unhide hY, unhide hM]
  refine (unhide hl _).mono ?_
  rintro e w2 ⟨rfl, rfl⟩
  clear k1 k2 k3 k4 y1 y2 m1 m2 hY hM
  go_wp2_with fail
  go_quiet (fail)
  go_wp2_with fail
  refine (unhide hF _).mono ?_
  rintro e w3 ⟨rfl, hb3⟩
  have hb2 := hide (below_via (unhide hb1) ((Below.refl _ _).alloc (Nat.le_refl _) (.cells #[.int .i64 Y, .int .i64 M, .int .i64 d] 37)))
  replace hb3 := hide (below_via (below_drewN (unhide hb2) _) hb3)
  clear hb1 hb2
  go_wp2_with fail
  go_ret2
  exact ⟨rfl, unhide hb3⟩
set_option maxRecDepth 20000 in
set_option maxHeartbeats 2000000 in
theorem mon_2 (n y m d k Y M l v g : Int) (y1 : 1 ≤ y) (y2 : y ≤ 9999) (m1 : 1 ≤ m) (m2 : m ≤ 12) (k1 : decide (k < -12000) = false) (k2 : decide (12000 < k) = false) (k3 : -12000 ≤ k) (k4 : k ≤ 12000)
    (hT : Hid (Tos n y m d 0)) (hY : Hid ((12 * y + m - 1 + k).tdiv 12 = Y)) (hM : Hid (wrap64 ((12 * y + m - 1 + k).tmod 12 + 1) = M)) (hl : Hid (Q 21 #[.int .i64 Y, .int .i64 M] (.int .i64 l))) (hm : l < d)  (hF : Hid (Froms Y M l v g)) : MonsA n k false v g := by
  intro w
  go_enter Try.func10, Try.ntmps10
  go_wp2_with fail
  refine (unhide hT _).mono ?_
  rintro e w1 ⟨rfl, hb1⟩
  replace hb1 := hide (below_via hb1 ((Below.refl w1.heap.size w1).alloc (Nat.le_refl _) (.cells #[.int .i64 y, .int .i64 m, .int .i64 d] 37)))
  go_wp2_with fail
  rw [unhide hY, unhide hM]
  refine (unhide hl _).mono ?_
  rintro e w2 ⟨rfl, rfl⟩
  clear k1 k2 k3 k4 y1 y2 m1 m2 hY hM
  go_wp2_with fail
  go_quiet (fail)
  go_wp2_with fail
  refine (unhide hF _).mono ?_
  rintro e w3 ⟨rfl, hb3⟩
  have hb2 := hide (below_via (unhide hb1) ((Below.refl _ _).alloc (Nat.le_refl _) (.cells #[.int .i64 Y, .int .i64 M, .int .i64 l] 37)))
  replace hb3 := hide (below_via (below_drewN (unhide hb2) _) hb3)
  clear hb1 hb2
  go_wp2_with fail
  go_ret2
  exact ⟨rfl, unhide hb3⟩
set_option maxRecDepth 20000 in
set_option maxHeartbeats 2000000 in
theorem mon_3 (n y m d k Y M l L v g : Int) (y1 : 1 ≤ y) (y2 : y ≤ 9999) (m1 : 1 ≤ m) (m2 : m ≤ 12) (k1 : decide (k < -12000) = false) (k2 : decide (12000 < k) = false) (k3 : -12000 ≤ k) (k4 : k ≤ 12000)
    (hT : Hid (Tos n y m d 0)) (hY : Hid ((12 * y + m - 1 + k).tdiv 12 = Y)) (hM : Hid (wrap64 ((12 * y + m - 1 + k).tmod 12 + 1) = M)) (hl : Hid (Q 21 #[.int .i64 Y, .int .i64 M] (.int .i64 l))) (hL : Hid (Q 21 #[.int .i64 y, .int .i64 m] (.int .i64 L))) (hm : d ≤ l) (heq : (d == L) = false) (hF : Hid (Froms Y M d v g)) : MonsA n k true v g := by
  intro w
  go_enter Try.func10, Try.ntmps10
  go_wp2_with fail
  refine (unhide hT _).mono ?_
  rintro e w1 ⟨rfl, hb1⟩
  replace hb1 := hide (below_via hb1 ((Below.refl w1.heap.size w1).alloc (Nat.le_refl _) (.cells #[.int .i64 y, .int .i64 m, .int .i64 d] 37)))
  go_wp2_with fail
  rw [unhide hY, unhide hM]
  refine (unhide hl _).mono ?_
  rintro e w2 ⟨rfl, rfl⟩
  clear k1 k2 k3 k4 y1 y2 m1 m2 hY hM
  go_wp2_with fail
  go_quiet ((go_at_call 21; exact Calls.quiet_of_same (unhide hL _)))
  go_wp2_with fail
  refine (unhide hF _).mono ?_
  rintro e w3 ⟨rfl, hb3⟩
  have hb2 := hide (below_via (unhide hb1) ((Below.refl _ _).alloc (Nat.le_refl _) (.cells #[.int .i64 Y, .int .i64 M, .int .i64 d] 37)))
  replace hb3 := hide (below_via (below_drewN (unhide hb2) _) hb3)
  clear hb1 hb2
  go_wp2_with fail
  go_ret2
  exact ⟨rfl, unhide hb3⟩
set_option maxRecDepth 20000 in
set_option maxHeartbeats 2000000 in
theorem mon_4 (n y m d k Y M l L v g : Int) (y1 : 1 ≤ y) (y2 : y ≤ 9999) (m1 : 1 ≤ m) (m2 : m ≤ 12) (k1 : decide (k < -12000) = false) (k2 : decide (12000 < k) = false) (k3 : -12000 ≤ k) (k4 : k ≤ 12000)
    (hT : Hid (Tos n y m d 0)) (hY : Hid ((12 * y + m - 1 + k).tdiv 12 = Y)) (hM : Hid (wrap64 ((12 * y + m - 1 + k).tmod 12 + 1) = M)) (hl : Hid (Q 21 #[.int .i64 Y, .int .i64 M] (.int .i64 l))) (hL : Hid (Q 21 #[.int .i64 y, .int .i64 m] (.int .i64 L))) (hm : l < d) (heq : (d == L) = false) (hF : Hid (Froms Y M l v g)) : MonsA n k true v g := by
  intro w
  go_enter Try.func10, Try.ntmps10
  go_wp2_with fail
  refine (unhide hT _).mono ?_
  rintro e w1 ⟨rfl, hb1⟩
  replace hb1 := hide (below_via hb1 ((Below.refl w1.heap.size w1).alloc (Nat.le_refl _) (.cells #[.int .i64 y, .int .i64 m, .int .i64 d] 37)))
  go_wp2_with fail
  rw [unhide hY, unhide hM]
  refine (unhide hl _).mono ?_
  rintro e w2 ⟨rfl, rfl⟩
  clear k1 k2 k3 k4 y1 y2 m1 m2 hY hM
  go_wp2_with fail
  go_quiet ((go_at_call 21; exact Calls.quiet_of_same (unhide hL _)))
  go_wp2_with fail
  refine (unhide hF _).mono ?_
  rintro e w3 ⟨rfl, hb3⟩
  have hb2 := hide (below_via (unhide hb1) ((Below.refl _ _).alloc (Nat.le_refl _) (.cells #[.int .i64 Y, .int .i64 M, .int .i64 l] 37)))
  replace hb3 := hide (below_via (below_drewN (unhide hb2) _) hb3)
  clear hb1 hb2
  go_wp2_with fail
  go_ret2
  exact ⟨rfl, unhide hb3⟩
set_option maxRecDepth 20000 in
set_option maxHeartbeats 2000000 in
theorem mon_5 (n y m d k Y M l L v g : Int) (y1 : 1 ≤ y) (y2 : y ≤ 9999) (m1 : 1 ≤ m) (m2 : m ≤ 12) (k1 : decide (k < -12000) = false) (k2 : decide (12000 < k) = false) (k3 : -12000 ≤ k) (k4 : k ≤ 12000)
    (hT : Hid (Tos n y m d 0)) (hY : Hid ((12 * y + m - 1 + k).tdiv 12 = Y)) (hM : Hid (wrap64 ((12 * y + m - 1 + k).tmod 12 + 1) = M)) (hl : Hid (Q 21 #[.int .i64 Y, .int .i64 M] (.int .i64 l))) (hL : Hid (Q 21 #[.int .i64 y, .int .i64 m] (.int .i64 L))) (hm : d ≤ l) (heq : (d == L) = true) (hF : Hid (Froms Y M l v g)) : MonsA n k true v g := by
  intro w
  go_enter Try.func10, Try.ntmps10
  go_wp2_with fail
  refine (unhide hT _).mono ?_
  rintro e w1 ⟨rfl, hb1⟩
  replace hb1 := hide (below_via hb1 ((Below.refl w1.heap.size w1).alloc (Nat.le_refl _) (.cells #[.int .i64 y, .int .i64 m, .int .i64 d] 37)))
  go_wp2_with fail
  rw [unhide hY, unhide hM]
  refine (unhide hl _).mono ?_
  rintro e w2 ⟨rfl, rfl⟩
  clear k1 k2 k3 k4 y1 y2 m1 m2 hY hM
  go_wp2_with fail
  go_quiet ((go_at_call 21; exact Calls.quiet_of_same (unhide hL _)))
  go_wp2_with fail
  refine (unhide hF _).mono ?_
  rintro e w3 ⟨rfl, hb3⟩
  have hb2 := hide (below_via (unhide hb1) ((Below.refl _ _).alloc (Nat.le_refl _) (.cells #[.int .i64 Y, .int .i64 M, .int .i64 d] 37)))
  replace hb3 := hide (below_via ((below_drewN (unhide hb2) _).setCell (by have := (unhide hb1).size; simpa using this) _) hb3)
  clear hb1 hb2
  go_wp2_with fail
  go_ret2
  exact ⟨rfl, unhide hb3⟩
set_option maxRecDepth 20000 in
set_option maxHeartbeats 2000000 in
theorem mon_6 (n y m d k Y M l L v g : Int) (y1 : 1 ≤ y) (y2 : y ≤ 9999) (m1 : 1 ≤ m) (m2 : m ≤ 12) (k1 : decide (k < -12000) = false) (k2 : decide (12000 < k) = false) (k3 : -12000 ≤ k) (k4 : k ≤ 12000)
    (hT : Hid (Tos n y m d 0)) (hY : Hid ((12 * y + m - 1 + k).tdiv 12 = Y)) (hM : Hid (wrap64 ((12 * y + m - 1 + k).tmod 12 + 1) = M)) (hl : Hid (Q 21 #[.int .i64 Y, .int .i64 M] (.int .i64 l))) (hL : Hid (Q 21 #[.int .i64 y, .int .i64 m] (.int .i64 L))) (hm : l < d) (heq : (d == L) = true) (hF : Hid (Froms Y M l v g)) : MonsA n k true v g := by
  intro w
  go_enter Try.func10, Try.ntmps10
  go_wp2_with fail
  refine (unhide hT _).mono ?_
  rintro e w1 ⟨rfl, hb1⟩
  replace hb1 := hide (below_via hb1 ((Below.refl w1.heap.size w1).alloc (Nat.le_refl _) (.cells #[.int .i64 y, .int .i64 m, .int .i64 d] 37)))
  go_wp2_with fail
  rw [unhide hY, unhide hM]
  refine (unhide hl _).mono ?_
  rintro e w2 ⟨rfl, rfl⟩
  clear k1 k2 k3 k4 y1 y2 m1 m2 hY hM
  go_wp2_with fail
  go_quiet ((go_at_call 21; exact Calls.quiet_of_same (unhide hL _)))
  go_wp2_with fail
  refine (unhide hF _).mono ?_
  rintro e w3 ⟨rfl, hb3⟩
  have hb2 := hide (below_via (unhide hb1) ((Below.refl _ _).alloc (Nat.le_refl _) (.cells #[.int .i64 Y, .int .i64 M, .int .i64 l] 37)))
  replace hb3 := hide (below_via ((below_drewN (unhide hb2) _).setCell (by have := (unhide hb1).size; simpa using this) _) hb3)
  clear hb1 hb2
  go_wp2_with fail
  go_ret2
  exact ⟨rfl, unhide hb3⟩
/-- Months, at any day: the months that it goes by. -/
theorem mon_any {y m d : Int} (h : Valid y m d) (k : Int) (en : Bool) (k3 : -12000 ≤ k) (k4 : k ≤ 12000) : MonsA (num y m d) k en (monN (ix y m + k) (en && (d == len (leap y) m)) d) (monE (ix y m + k)) := by
  have hT := hide (to_ok y m d h)
  obtain ⟨y1, y2, m1, m2, d1, _⟩ := h
  have e0 : 12 * y + m - 1 + k = ix y m + k := by unfold ix; omega
  have hL := last_any y m
  rw [last_in y1 y2] at hL
  have k1 : decide (k < -12000) = false := decide_eq_false (by omega)
  have k2 : decide (12000 < k) = false := decide_eq_false (by omega)
  obtain ⟨i, hi⟩ : ∃ i, i = ix y m + k := ⟨_, rfl⟩
  rw [← hi] at e0 ⊢
  obtain ⟨Y, hY⟩ : ∃ Y, (12 * y + m - 1 + k).tdiv 12 = Y := ⟨_, rfl⟩
  obtain ⟨M, hM⟩ : ∃ M, wrap64 ((12 * y + m - 1 + k).tmod 12 + 1) = M := ⟨_, rfl⟩
  have hl := last_any Y M
  obtain ⟨l, hl0⟩ : ∃ l, l = last Y M := ⟨_, rfl⟩
  obtain ⟨L, hL0⟩ : ∃ L, L = len (leap y) m := ⟨_, rfl⟩
  rw [← hl0] at hl
  rw [← hL0] at hL ⊢
  have key : ∀ D : Int, (D = if l < d ∨ (en && (d == L)) = true then l else d) → Froms Y M D (monN i (en && (d == L)) d) (monE i) := by
    intro D hD
    rw [e0] at hY hM
    by_cases c : 1 ≤ i / 12 ∧ i / 12 ≤ 9999
    · obtain ⟨a1, a2⟩ := mon_in (last := en && (d == L)) (d := d) c
      rw [a1, a2]
      have hi0 : 0 ≤ i := by omega
      rw [Int.tdiv_eq_ediv_of_nonneg hi0] at hY
      rw [Int.tmod_eq_emod_of_nonneg hi0, wrap_in ⟨by omega, by omega⟩] at hM
      rw [hY, hM]
      have hv : Valid Y M (dOf (en && (d == L)) d Y M) := dOf_valid (by omega) (by omega) (by omega) (by omega) d1
      have e : D = dOf (en && (d == L)) d Y M := by
        rw [hD, hl0, last_in (by omega) (by omega)]
        rfl
      rw [e]
      exact from_ok hv
    · obtain ⟨a1, a2⟩ := mon_out (last := en && (d == L)) (d := d) c
      rw [a1, a2]
      refine from_no (fun hv => ?_)
      have hY2 : ¬ (1 ≤ Y ∧ Y ≤ 9999) := by
        rw [← hY]
        by_cases hi0 : 0 ≤ i
        · rw [Int.tdiv_eq_ediv_of_nonneg hi0]; exact c
        · have := Int.tdiv_mul_add_tmod i 12
          have := Int.lt_tmod_of_pos i (b := 12) (by omega)
          have := Int.tmod_lt_of_pos i (b := 12) (by omega)
          omega
      exact hY2 ⟨hv.y1, hv.y2⟩
  replace hY := hide hY
  replace hM := hide hM
  cases en
  · simp only [Bool.false_and] at key ⊢
    by_cases hm : d ≤ l
    · exact mon_1 _ y m d k Y M l _ _ y1 y2 m1 m2 k1 k2 k3 k4 hT hY hM (hide hl) hm (hide (key d (by rw [if_neg (fun c => c.elim (fun c => by omega) (fun c => by cases c))])))
    · exact mon_2 _ y m d k Y M l _ _ y1 y2 m1 m2 k1 k2 k3 k4 hT hY hM (hide hl) (by omega) (hide (key l (by rw [if_pos (Or.inl (by omega))])))
  · simp only [Bool.true_and] at key ⊢
    cases heq : d == L
    · rw [heq] at key
      by_cases hm : d ≤ l
      · exact mon_3 _ y m d k Y M l L _ _ y1 y2 m1 m2 k1 k2 k3 k4 hT hY hM (hide hl) (hide hL) hm heq (hide (key d (by rw [if_neg (fun c => c.elim (fun c => by omega) (fun c => by cases c))])))
      · exact mon_4 _ y m d k Y M l L _ _ y1 y2 m1 m2 k1 k2 k3 k4 hT hY hM (hide hl) (hide hL) (by omega) heq (hide (key l (by rw [if_pos (Or.inl (by omega))])))
    · rw [heq] at key
      have hF := key l (by rw [if_pos (Or.inr rfl)])
      by_cases hm : d ≤ l
      · exact mon_5 _ y m d k Y M l L _ _ y1 y2 m1 m2 k1 k2 k3 k4 hT hY hM (hide hl) (hide hL) hm heq (hide hF)
      · exact mon_6 _ y m d k Y M l L _ _ y1 y2 m1 m2 k1 k2 k3 k4 hT hY hM (hide hl) (hide hL) (by omega) heq (hide hF)
theorem mon_far {y m d : Int} (h : Valid y m d) (k : Int) (en : Bool) (hk : ¬ (-12000 ≤ k ∧ k ≤ 12000)) : MonsA (num y m d) k en 0 2 := by
  have hT := hide (to_ok y m d h)
  by_cases c : k < -12000
  · exact mon_lo _ y m d k en (decide_eq_true c) hT
  · exact mon_hi _ y m d k en (decide_eq_false c) (decide_eq_true (by omega)) hT
end Go.Proofs.Ytmpalgfhamahnaa
