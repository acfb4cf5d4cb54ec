/- What the day's small functions answer: Leap, Last, daysAhead, monthsAhead, yearOf, Weekday. -/
import Derived.Test.YtmpalgfhamahnaaNum
import Derived.Test.YtmpalgfhamahnaaRows
import Derived.ProofKit
import Derived.Below
import Derived.Laws.Externs
import Derived.Deep.QuietTactic
import Derived.BigQuiet
namespace Go.Proofs.Ytmpalgfhamahnaa
open Go.RowKit
set_option linter.unusedSimpArgs false
def Hid (p : Prop) : Prop := p
theorem hide {p : Prop} (h : p) : Hid p := h
theorem unhide {p : Prop} (h : Hid p) : p := h
/-- That function answers so, and nothing else happens. -/
def Q (f : Nat) (args : Array Value) (v : Value) : Prop := ∀ w : World, Calls Try.prog f args w fun e w' => e = .returned v ∧ w' = w
theorem tm0 (y k : Int) : y.tmod k = 0 ↔ y % k = 0 := by rw [← Int.dvd_iff_tmod_eq_zero, Int.dvd_iff_emod_eq_zero]
theorem leap_a {y : Int} (h4 : y.tmod 4 = 0) (h1 : y.tmod 100 = 0) : leap y = (y.tmod 400 == 0) := by
  unfold leap
  rw [decide_eq_true ((tm0 y 4).1 h4), decide_eq_true ((tm0 y 100).1 h1), Bool.true_and, Bool.not_true, Bool.false_or]
  by_cases h : y.tmod 400 = 0
  · rw [decide_eq_true ((tm0 y 400).1 h), h]; rfl
  · rw [decide_eq_false (fun c => h ((tm0 y 400).2 c)), beq_false_of_ne h]
theorem leap_b {y : Int} (h4 : y.tmod 4 = 0) (h1 : ¬ y.tmod 100 = 0) : leap y = true := by
  unfold leap
  rw [decide_eq_true ((tm0 y 4).1 h4), decide_eq_false (fun c => h1 ((tm0 y 100).2 c))]; rfl
theorem leap_c {y : Int} (h4 : ¬ y.tmod 4 = 0) : leap y = false := by
  unfold leap
  rw [decide_eq_false (fun c => h4 ((tm0 y 4).2 c))]; rfl
theorem leap_any (y : Int) : Q 35 #[.int .i64 y] (.bool (leap y)) := by
  intro w
  by_cases h4 : y.tmod 4 = 0
  · by_cases h1 : y.tmod 100 = 0
    · rw [leap_a h4 h1]
      go_enter Try.func35, Try.ntmps35
      go_wp2_with fail
      go_ret
      exact ⟨rfl, rfl⟩
    · rw [leap_b h4 h1]
      go_enter Try.func35, Try.ntmps35
      go_wp2_with fail
      go_ret
      exact ⟨rfl, rfl⟩
  · rw [leap_c h4]
    go_enter Try.func35, Try.ntmps35
    go_wp2_with fail
    go_ret
    exact ⟨rfl, rfl⟩
/-- What daysAhead answers, going round. -/
def da (y : Int) : Int := wrap64 (wrap64 (wrap64 (wrap64 (wrap64 (y - 1) * 365) + wrap64 ((wrap64 (y - 1)).tdiv 4)) - wrap64 ((wrap64 (y - 1)).tdiv 100)) + wrap64 ((wrap64 (y - 1)).tdiv 400))
theorem da_in {y : Int} (h1 : 1 ≤ y) (h2 : y ≤ 10001) : da y = ds (y - 1) := by
  unfold da ds
  rw [wrap_in (n := y - 1) ⟨by omega, by omega⟩, Int.tdiv_eq_ediv_of_nonneg (by omega), Int.tdiv_eq_ediv_of_nonneg (by omega), Int.tdiv_eq_ediv_of_nonneg (by omega)]
  rw [wrap_in (n := (y - 1) * 365) ⟨by omega, by omega⟩, wrap_in (n := (y - 1) / 4) ⟨by omega, by omega⟩, wrap_in (n := (y - 1) / 100) ⟨by omega, by omega⟩, wrap_in (n := (y - 1) / 400) ⟨by omega, by omega⟩]
  rw [wrap_in (n := (y - 1) * 365 + (y - 1) / 4) ⟨by omega, by omega⟩, wrap_in (n := (y - 1) * 365 + (y - 1) / 4 - (y - 1) / 100) ⟨by omega, by omega⟩, wrap_in ⟨by omega, by omega⟩]
  omega
theorem da_64 (y : Int) : In64 (da y) := in64_wrap _
theorem da_any (y : Int) : Q 33 #[.int .i64 y] (.int .i64 (da y)) := by
  intro w
  go_enter Try.func33, Try.ntmps33
  go_wp2_with fail
  go_ret
  exact ⟨rfl, rfl⟩
theorem wd_num (n : Int) : (wrap64 (n.tmod 7 + 6)).tmod 7 = (n - 1) % 7 := by
  have h1 := Int.tmod_lt_of_pos n (b := 7) (by omega)
  have h2 := Int.lt_tmod_of_pos n (b := 7) (by omega)
  have h3 := Int.tdiv_mul_add_tmod n 7
  generalize n.tmod 7 = t at *
  generalize n.tdiv 7 = q at *
  rw [wrap_in ⟨by omega, by omega⟩, Int.tmod_eq_emod_of_nonneg (by omega)]
  omega
theorem weekday_any (n : Int) : Q 29 #[.int .i64 n] (.int .i64 ((n - 1) % 7)) := by
  intro w
  rw [← wd_num n]
  go_enter Try.func29, Try.ntmps29
  go_wp2_with fail
  go_ret
  exact ⟨rfl, rfl⟩
set_option maxHeartbeats 2000000 in
theorem last_any (y m : Int) : Q 21 #[.int .i64 y, .int .i64 m] (.int .i64 (last y m)) := by
  intro w
  have hl := leap_any y
  by_cases a : y < 1
  · rw [last_out (by omega)]
    have d1 : decide (y < 1) = true := decide_eq_true a
    clear hl
    go_enter Try.func21, Try.ntmps21
    go_wp2_with fail
    go_ret
    exact ⟨rfl, rfl⟩
  by_cases b : 9999 < y
  · rw [last_out (by omega)]
    have d1 : decide (y < 1) = false := decide_eq_false a
    have d2 : decide (9999 < y) = true := decide_eq_true b
    clear hl
    go_enter Try.func21, Try.ntmps21
    go_wp2_with fail
    go_ret
    exact ⟨rfl, rfl⟩
  rw [last_in (by omega) (by omega)]
  have d1 : decide (y < 1) = false := decide_eq_false a
  have d2 : decide (9999 < y) = false := decide_eq_false b
  clear a b
  generalize leap y = L at hl ⊢
  by_cases h2 : m = 2
  · subst h2
    cases L
    · replace hl := hide hl
      rw [show len false 2 = 28 from rfl]
      go_enter Try.func21, Try.ntmps21
      go_wp2_with fail
      refine (unhide hl _).mono ?_
      rintro e w1 ⟨rfl, rfl⟩
      go_wp2_with fail
      go_ret
      exact ⟨rfl, rfl⟩
    · replace hl := hide hl
      rw [show len true 2 = 29 from rfl]
      go_enter Try.func21, Try.ntmps21
      go_wp2_with fail
      refine (unhide hl _).mono ?_
      rintro e w1 ⟨rfl, rfl⟩
      go_wp2_with fail
      go_ret
      exact ⟨rfl, rfl⟩
  clear hl
  by_cases h4 : m = 4
  · subst h4
    rw [show len L 4 = 30 from by cases L <;> rfl]
    go_enter Try.func21, Try.ntmps21
    go_wp2_with fail
    go_ret
    exact ⟨rfl, rfl⟩
  by_cases h6 : m = 6
  · subst h6
    rw [show len L 6 = 30 from by cases L <;> rfl]
    go_enter Try.func21, Try.ntmps21
    go_wp2_with fail
    go_ret
    exact ⟨rfl, rfl⟩
  by_cases h9 : m = 9
  · subst h9
    rw [show len L 9 = 30 from by cases L <;> rfl]
    go_enter Try.func21, Try.ntmps21
    go_wp2_with fail
    go_ret
    exact ⟨rfl, rfl⟩
  by_cases h11 : m = 11
  · subst h11
    rw [show len L 11 = 30 from by cases L <;> rfl]
    go_enter Try.func21, Try.ntmps21
    go_wp2_with fail
    go_ret
    exact ⟨rfl, rfl⟩
  by_cases h1 : m = 1
  · subst h1
    rw [show len L 1 = 31 from by cases L <;> rfl]
    go_enter Try.func21, Try.ntmps21
    go_wp2_with fail
    go_ret
    exact ⟨rfl, rfl⟩
  by_cases h3 : m = 3
  · subst h3
    rw [show len L 3 = 31 from by cases L <;> rfl]
    go_enter Try.func21, Try.ntmps21
    go_wp2_with fail
    go_ret
    exact ⟨rfl, rfl⟩
  by_cases h5 : m = 5
  · subst h5
    rw [show len L 5 = 31 from by cases L <;> rfl]
    go_enter Try.func21, Try.ntmps21
    go_wp2_with fail
    go_ret
    exact ⟨rfl, rfl⟩
  by_cases h7 : m = 7
  · subst h7
    rw [show len L 7 = 31 from by cases L <;> rfl]
    go_enter Try.func21, Try.ntmps21
    go_wp2_with fail
    go_ret
    exact ⟨rfl, rfl⟩
  by_cases h8 : m = 8
  · subst h8
    rw [show len L 8 = 31 from by cases L <;> rfl]
    go_enter Try.func21, Try.ntmps21
    go_wp2_with fail
    go_ret
    exact ⟨rfl, rfl⟩
  by_cases h10 : m = 10
  · subst h10
    rw [show len L 10 = 31 from by cases L <;> rfl]
    go_enter Try.func21, Try.ntmps21
    go_wp2_with fail
    go_ret
    exact ⟨rfl, rfl⟩
  by_cases h12 : m = 12
  · subst h12
    rw [show len L 12 = 31 from by cases L <;> rfl]
    go_enter Try.func21, Try.ntmps21
    go_wp2_with fail
    go_ret
    exact ⟨rfl, rfl⟩
  rw [len_none L (by omega)]
  have e1 := beq_false_of_ne h1
  have e2 := beq_false_of_ne h2
  have e3 := beq_false_of_ne h3
  have e4 := beq_false_of_ne h4
  have e5 := beq_false_of_ne h5
  have e6 := beq_false_of_ne h6
  have e7 := beq_false_of_ne h7
  have e8 := beq_false_of_ne h8
  have e9 := beq_false_of_ne h9
  have e10 := beq_false_of_ne h10
  have e11 := beq_false_of_ne h11
  have e12 := beq_false_of_ne h12
  clear h1 h2 h3 h4 h5 h6 h7 h8 h9 h10 h11 h12
  go_enter Try.func21, Try.ntmps21
  go_wp2_with fail
  go_ret
  exact ⟨rfl, rfl⟩
end Go.Proofs.Ytmpalgfhamahnaa
