/- What period's Dates answers. -/
import Derived.Test.YtmpalgfhamahnaaMon
import Derived.Test.YtmpalgfhamahnaaRow
namespace Go.Proofs.Ytmpalgfhamahnaa
open Go.RowKit
set_option linter.unusedSimpArgs false
theorem Own.keep {w wr wr' : World} {P len : Nat} {f : Nat → Int} (h : Own w wr P len f) (hb : Below wr.heap.size wr wr') : Own w wr' P len f := by
  obtain ⟨h1, c, hc, h2⟩ := h
  have hlt := (Array.getElem?_eq_some_iff.1 hc).1
  exact ⟨h1.trans (hb.mono (Nat.le_of_lt hlt)), c, (hb.block P hlt).trans hc, h2⟩
theorem step_bd {step : Int} {k T : Nat} (s1 : 1 ≤ step) (s2 : step ≤ 12) (hk : k < T) (hT : T ≤ 600) : 1 ≤ step * ((k : Int) + 1) ∧ step * ((k : Int) + 1) ≤ 7200 := by
  have a : step * 1 ≤ step * ((k : Int) + 1) := Int.mul_le_mul_of_nonneg_left (by omega) (by omega)
  have b : step * ((k : Int) + 1) ≤ 12 * ((k : Int) + 1) := Int.mul_le_mul_of_nonneg_right s2 (by omega)
  omega
/-- Dates answers no row. -/
def DatesNo (f : Nat) (n step times : Int) (en : Bool) (g : Int) : Prop := ∀ w : World, Calls Try.prog f #[.int .i64 n, .int .i64 step, .int .i64 times, .bool en] w fun e w' => e = .returned (.tuple #[.slice none 0 0, .int .i64 g]) ∧ Below w.heap.size w w'
theorem dates_bad1 (n step times : Int) (en : Bool) (a1 : decide (step < 1) = true) : DatesNo 12 n step times en 2 := by
  intro w
  go_enter Try.func12, Try.ntmps12
  go_wp2_with fail
  go_ret2
  exact ⟨rfl, Below.refl _ _⟩
theorem dates_bad2 (n step times : Int) (en : Bool) (a1 : decide (step < 1) = false) (a2 : decide (12 < step) = true) : DatesNo 12 n step times en 2 := by
  intro w
  go_enter Try.func12, Try.ntmps12
  go_wp2_with fail
  go_ret2
  exact ⟨rfl, Below.refl _ _⟩
theorem dates_bad3 (n step times : Int) (en : Bool) (a1 : decide (step < 1) = false) (a2 : decide (12 < step) = false) (a3 : decide (times < 0) = true) : DatesNo 12 n step times en 2 := by
  intro w
  go_enter Try.func12, Try.ntmps12
  go_wp2_with fail
  go_ret2
  exact ⟨rfl, Below.refl _ _⟩
theorem dates_bad4 (n step times : Int) (en : Bool) (a1 : decide (step < 1) = false) (a2 : decide (12 < step) = false) (a3 : decide (times < 0) = false) (a4 : decide (600 < times) = true) : DatesNo 12 n step times en 2 := by
  intro w
  go_enter Try.func12, Try.ntmps12
  go_wp2_with fail
  go_ret2
  exact ⟨rfl, Below.refl _ _⟩
theorem dates_bad (n step times : Int) (en : Bool) (h : ¬ (1 ≤ step ∧ step ≤ 12 ∧ 0 ≤ times ∧ times ≤ 600)) : DatesNo 12 n step times en 2 := by
  by_cases h1 : step < 1
  · exact dates_bad1 n step times en (decide_eq_true h1)
  · by_cases h2 : 12 < step
    · exact dates_bad2 n step times en (decide_eq_false h1) (decide_eq_true h2)
    · by_cases h3 : times < 0
      · exact dates_bad3 n step times en (decide_eq_false h1) (decide_eq_false h2) (decide_eq_true h3)
      · exact dates_bad4 n step times en (decide_eq_false h1) (decide_eq_false h2) (decide_eq_false h3) (decide_eq_true (by omega))
set_option maxRecDepth 20000 in
set_option maxHeartbeats 2000000 in
theorem dates_ok (n step : Int) (T : Nat) (en : Bool) (f : Nat → Int) (s1 : 1 ≤ step) (s2 : step ≤ 12) (t2 : (T : Int) ≤ 600) (hf : Hid (∀ k : Nat, k < T → MonsA n (step * ((k : Int) + 1)) en (f k) 0)) (w : World) :
    Calls Try.prog 12 #[.int .i64 n, .int .i64 step, .int .i64 T, .bool en] w fun e w' => e = .returned (.tuple #[.slice (some ⟨w.heap.size, 0, none⟩) T T, .int .i64 0]) ∧ Own w w' w.heap.size T f := by
  have a1 : decide (step < 1) = false := decide_eq_false (by omega)
  have a2 : decide (12 < step) = false := decide_eq_false (by omega)
  have a3 : decide ((T : Int) < 0) = false := decide_eq_false (by omega)
  have a4 : decide (600 < (T : Int)) = false := decide_eq_false (by omega)
  have hmk := run_make_row' (P := Try.prog) 28 3 (.int .i64 0) 8 Try.underlying28 Try.info3 rfl .i64 .i64 T (by omega) (by omega)
  go_enter Try.func12, Try.ntmps12
  go_wp2_with fail
  clear hmk
  go_loopw [32] (fun i wr => ∃ k : Nat, k ≤ T ∧ i = .int .i64 k ∧ Hid (Own w wr w.heap.size T (fun j => if j < k then f j else 0))) (fun i _ => T - (intOf i).toNat)
  case atStart => exact ⟨0, by omega, rfl, hide ⟨(Below.refl _ _).alloc (Nat.le_refl _) _, (World.rowIs_made w _ T 3).congr (fun j _ => by simp)⟩⟩
  case round =>
    obtain ⟨k, hk, rfl, how⟩ := hrel
    by_cases hlt : k < T
    · skip
      obtain ⟨p1, p2⟩ := step_bd s1 s2 (show k < T by omega) (by omega)
      have hm := hide (unhide hf k hlt)
      have Hput : Hid (∀ j, (if j = k then f k else if j < k then f j else 0) = if j < k + 1 then f j else 0) := hide (fun j => by
        by_cases e : j = k
        · subst e; rw [if_pos rfl, if_pos (by omega)]
        · rw [if_neg e]
          by_cases c : j < k
          · rw [if_pos c, if_pos (by omega)]
          · rw [if_neg c, if_neg (by omega)])
      generalize f k = z at *
      have hkT : (k : Int) < (T : Int) := by omega
      have e0 : IntKind.i64.wrap (step * ((k : Int) + 1)) = step * ((k : Int) + 1) := IntWalk.i64_in _ ⟨by omega, by omega⟩
      go_wp2_with fail
      refine (unhide hm _).mono ?_
      rintro e w1 ⟨rfl, hb1⟩
      replace how := hide ((unhide how).keep hb1)
      clear hb1 hm
      have hpk := (unhide how).row.cell (show k < T by omega)
      have hpf := (unhide how).row.frozen k
      rw [if_neg (Nat.lt_irrefl k)] at hpk
      go_wp2_with fail
      go_roundw
      case rel => exact ⟨k + 1, by omega, by go_num, hide ((unhide how).put k z (unhide Hput))⟩
      case measure => simp [intOf]; omega
    · obtain rfl : k = T := by omega
      have how2 : Hid (Own w wr w.heap.size k f) := hide ⟨(unhide how).below, (unhide how).row.congr (fun j hj => by rw [if_pos hj])⟩
      clear how hf
      go_wp2_with fail
      go_ret2
      exact ⟨rfl, unhide how2⟩
set_option maxRecDepth 20000 in
set_option maxHeartbeats 2000000 in
theorem dates_no (n step v g : Int) (T J : Nat) (en : Bool) (f : Nat → Int) (s1 : 1 ≤ step) (s2 : step ≤ 12) (t2 : (T : Int) ≤ 600) (hJ : (J : Int) < (T : Int)) (hf : Hid (∀ k : Nat, k < J → MonsA n (step * ((k : Int) + 1)) en (f k) 0)) (hg : Hid (MonsA n (step * ((J : Int) + 1)) en v g)) (g0 : (g != 0) = true) : DatesNo 12 n step T en g := by
  intro w
  have a1 : decide (step < 1) = false := decide_eq_false (by omega)
  have a2 : decide (12 < step) = false := decide_eq_false (by omega)
  have a3 : decide ((T : Int) < 0) = false := decide_eq_false (by omega)
  have a4 : decide (600 < (T : Int)) = false := decide_eq_false (by omega)
  have hmk := run_make_row' (P := Try.prog) 28 3 (.int .i64 0) 8 Try.underlying28 Try.info3 rfl .i64 .i64 T (by omega) (by omega)
  go_enter Try.func12, Try.ntmps12
  go_wp2_with fail
  clear hmk
  go_loopw [32] (fun i wr => ∃ k : Nat, k ≤ J ∧ i = .int .i64 k ∧ Hid (Own w wr w.heap.size T (fun j => if j < k then f j else 0))) (fun i _ => T - (intOf i).toNat)
  case atStart => exact ⟨0, by omega, rfl, hide ⟨(Below.refl _ _).alloc (Nat.le_refl _) _, (World.rowIs_made w _ T 3).congr (fun j _ => by simp)⟩⟩
  case round =>
    obtain ⟨k, hk, rfl, how⟩ := hrel
    by_cases hlt : k < J
    · clear hg g0
      obtain ⟨p1, p2⟩ := step_bd s1 s2 (show k < T by omega) (by omega)
      have hm := hide (unhide hf k hlt)
      have Hput : Hid (∀ j, (if j = k then f k else if j < k then f j else 0) = if j < k + 1 then f j else 0) := hide (fun j => by
        by_cases e : j = k
        · subst e; rw [if_pos rfl, if_pos (by omega)]
        · rw [if_neg e]
          by_cases c : j < k
          · rw [if_pos c, if_pos (by omega)]
          · rw [if_neg c, if_neg (by omega)])
      generalize f k = z at *
      have hkT : (k : Int) < (T : Int) := by omega
      have e0 : IntKind.i64.wrap (step * ((k : Int) + 1)) = step * ((k : Int) + 1) := IntWalk.i64_in _ ⟨by omega, by omega⟩
      go_wp2_with fail
      refine (unhide hm _).mono ?_
      rintro e w1 ⟨rfl, hb1⟩
      replace how := hide ((unhide how).keep hb1)
      clear hb1 hm
      have hpk := (unhide how).row.cell (show k < T by omega)
      have hpf := (unhide how).row.frozen k
      rw [if_neg (Nat.lt_irrefl k)] at hpk
      go_wp2_with fail
      go_roundw
      case rel => exact ⟨k + 1, by omega, by go_num, hide ((unhide how).put k z (unhide Hput))⟩
      case measure => simp [intOf]; omega
    · obtain rfl : k = J := by omega
      obtain ⟨p1, p2⟩ := step_bd s1 s2 (show k < T by omega) (by omega)
      have e0 : IntKind.i64.wrap (step * ((k : Int) + 1)) = step * ((k : Int) + 1) := IntWalk.i64_in _ ⟨by omega, by omega⟩
      clear hf
      go_wp2_with fail
      refine (unhide hg _).mono ?_
      rintro e w1 ⟨rfl, hb1⟩
      replace hb1 := hide ((unhide how).keep hb1).below
      clear how hg
      go_wp2_with fail
      go_ret2
      exact ⟨rfl, unhide hb1⟩
end Go.Proofs.Ytmpalgfhamahnaa
