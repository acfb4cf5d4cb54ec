/- What the reference's small functions answer: Leap, Last, Weekday, ahead. -/
import Derived.Test.YtmpalgfhamahnaaMonths
import Derived.WalkKit
import Derived.WalkSpells
namespace Go.Proofs.Ytmpalgfhamahnaa
open Go.RowKit
set_option linter.unusedSimpArgs false
theorem rleap_any (y : Int) : Q 36 #[.int .i64 y] (.bool (leap y)) := by
  intro w
  by_cases h4 : y.tmod 4 = 0
  · by_cases h1 : y.tmod 100 = 0
    · rw [leap_a h4 h1]
      go_enter Try.func36, Try.ntmps36
      go_wp2_with fail
      go_ret
      exact ⟨rfl, rfl⟩
    · rw [leap_b h4 h1]
      go_enter Try.func36, Try.ntmps36
      go_wp2_with fail
      go_ret
      exact ⟨rfl, rfl⟩
  · have h400 : ¬ y.tmod 400 = 0 := fun c => h4 ((tm0 y 4).2 (by have := (tm0 y 400).1 c; omega))
    have e400 : (y.tmod 400 == 0) = false := beq_false_of_ne h400
    rw [leap_c h4]
    go_enter Try.func36, Try.ntmps36
    go_wp2_with fail
    go_ret
    exact ⟨rfl, rfl⟩
theorem rwd_num (n : Int) : (wrap64 ((wrap64 (n.tmod 7 - 1)).tmod 7 + 7)).tmod 7 = (n - 1) % 7 := by
  have h1 := Int.tmod_lt_of_pos n (b := 7) (by omega)
  have h2 := Int.lt_tmod_of_pos n (b := 7) (by omega)
  have h3 := Int.tdiv_mul_add_tmod n 7
  generalize n.tmod 7 = t at *
  generalize n.tdiv 7 = q at *
  rw [wrap_in (n := t - 1) ⟨by omega, by omega⟩]
  have k1 := Int.tmod_lt_of_pos (t - 1) (b := 7) (by omega)
  have k2 := Int.lt_tmod_of_pos (t - 1) (b := 7) (by omega)
  have k3 := Int.tdiv_mul_add_tmod (t - 1) 7
  generalize (t - 1).tmod 7 = u at *
  generalize (t - 1).tdiv 7 = v at *
  rw [wrap_in ⟨by omega, by omega⟩, Int.tmod_eq_emod_of_nonneg (by omega)]
  omega
theorem rweekday_any (n : Int) : Q 31 #[.int .i64 n] (.int .i64 ((n - 1) % 7)) := by
  intro w
  rw [← rwd_num n]
  go_enter Try.func31, Try.ntmps31
  go_wp2_with fail
  go_ret
  exact ⟨rfl, rfl⟩
theorem build41 (w : World) : Sem.run Try.prog (Instr.build 56 #[(0, .int .i64 31), (1, .int .i64 28), (2, .int .i64 31), (3, .int .i64 30), (4, .int .i64 31), (5, .int .i64 30), (6, .int .i64 31), (7, .int .i64 31), (8, .int .i64 30), (9, .int .i64 31), (10, .int .i64 30), (11, .int .i64 31)]) w = .ok (.agg #[.int .i64 31, .int .i64 28, .int .i64 31, .int .i64 30, .int .i64 31, .int .i64 30, .int .i64 31, .int .i64 31, .int .i64 30, .int .i64 31, .int .i64 30, .int .i64 31]) w := by kernel_rfl
theorem idx0 (w : World) : Sem.run Try.prog (Instr.index 56 (.agg #[.int .i64 31, .int .i64 28, .int .i64 31, .int .i64 30, .int .i64 31, .int .i64 30, .int .i64 31, .int .i64 31, .int .i64 30, .int .i64 31, .int .i64 30, .int .i64 31]) (.int .i64 0)) w = .ok (.int .i64 31) w := by kernel_rfl
theorem idx1 (w : World) : Sem.run Try.prog (Instr.index 56 (.agg #[.int .i64 31, .int .i64 28, .int .i64 31, .int .i64 30, .int .i64 31, .int .i64 30, .int .i64 31, .int .i64 31, .int .i64 30, .int .i64 31, .int .i64 30, .int .i64 31]) (.int .i64 1)) w = .ok (.int .i64 28) w := by kernel_rfl
theorem idx2 (w : World) : Sem.run Try.prog (Instr.index 56 (.agg #[.int .i64 31, .int .i64 28, .int .i64 31, .int .i64 30, .int .i64 31, .int .i64 30, .int .i64 31, .int .i64 31, .int .i64 30, .int .i64 31, .int .i64 30, .int .i64 31]) (.int .i64 2)) w = .ok (.int .i64 31) w := by kernel_rfl
theorem idx3 (w : World) : Sem.run Try.prog (Instr.index 56 (.agg #[.int .i64 31, .int .i64 28, .int .i64 31, .int .i64 30, .int .i64 31, .int .i64 30, .int .i64 31, .int .i64 31, .int .i64 30, .int .i64 31, .int .i64 30, .int .i64 31]) (.int .i64 3)) w = .ok (.int .i64 30) w := by kernel_rfl
theorem idx4 (w : World) : Sem.run Try.prog (Instr.index 56 (.agg #[.int .i64 31, .int .i64 28, .int .i64 31, .int .i64 30, .int .i64 31, .int .i64 30, .int .i64 31, .int .i64 31, .int .i64 30, .int .i64 31, .int .i64 30, .int .i64 31]) (.int .i64 4)) w = .ok (.int .i64 31) w := by kernel_rfl
theorem idx5 (w : World) : Sem.run Try.prog (Instr.index 56 (.agg #[.int .i64 31, .int .i64 28, .int .i64 31, .int .i64 30, .int .i64 31, .int .i64 30, .int .i64 31, .int .i64 31, .int .i64 30, .int .i64 31, .int .i64 30, .int .i64 31]) (.int .i64 5)) w = .ok (.int .i64 30) w := by kernel_rfl
theorem idx6 (w : World) : Sem.run Try.prog (Instr.index 56 (.agg #[.int .i64 31, .int .i64 28, .int .i64 31, .int .i64 30, .int .i64 31, .int .i64 30, .int .i64 31, .int .i64 31, .int .i64 30, .int .i64 31, .int .i64 30, .int .i64 31]) (.int .i64 6)) w = .ok (.int .i64 31) w := by kernel_rfl
theorem idx7 (w : World) : Sem.run Try.prog (Instr.index 56 (.agg #[.int .i64 31, .int .i64 28, .int .i64 31, .int .i64 30, .int .i64 31, .int .i64 30, .int .i64 31, .int .i64 31, .int .i64 30, .int .i64 31, .int .i64 30, .int .i64 31]) (.int .i64 7)) w = .ok (.int .i64 31) w := by kernel_rfl
theorem idx8 (w : World) : Sem.run Try.prog (Instr.index 56 (.agg #[.int .i64 31, .int .i64 28, .int .i64 31, .int .i64 30, .int .i64 31, .int .i64 30, .int .i64 31, .int .i64 31, .int .i64 30, .int .i64 31, .int .i64 30, .int .i64 31]) (.int .i64 8)) w = .ok (.int .i64 30) w := by kernel_rfl
theorem idx9 (w : World) : Sem.run Try.prog (Instr.index 56 (.agg #[.int .i64 31, .int .i64 28, .int .i64 31, .int .i64 30, .int .i64 31, .int .i64 30, .int .i64 31, .int .i64 31, .int .i64 30, .int .i64 31, .int .i64 30, .int .i64 31]) (.int .i64 9)) w = .ok (.int .i64 31) w := by kernel_rfl
theorem idx10 (w : World) : Sem.run Try.prog (Instr.index 56 (.agg #[.int .i64 31, .int .i64 28, .int .i64 31, .int .i64 30, .int .i64 31, .int .i64 30, .int .i64 31, .int .i64 31, .int .i64 30, .int .i64 31, .int .i64 30, .int .i64 31]) (.int .i64 10)) w = .ok (.int .i64 30) w := by kernel_rfl
theorem idx11 (w : World) : Sem.run Try.prog (Instr.index 56 (.agg #[.int .i64 31, .int .i64 28, .int .i64 31, .int .i64 30, .int .i64 31, .int .i64 30, .int .i64 31, .int .i64 31, .int .i64 30, .int .i64 31, .int .i64 30, .int .i64 31]) (.int .i64 11)) w = .ok (.int .i64 31) w := by kernel_rfl
set_option maxHeartbeats 4000000 in
theorem rlast_any (y m : Int) : Q 24 #[.int .i64 y, .int .i64 m] (.int .i64 (last y m)) := by
  intro w
  have hl := rleap_any y
  by_cases a : y < 1
  · rw [last_out (by omega)]
    have d1 : decide (y < 1) = true := decide_eq_true a
    clear hl
    go_enter Try.func24, Try.ntmps24
    go_wp2_with fail
    go_ret
    exact ⟨rfl, rfl⟩
  by_cases b : 9999 < y
  · rw [last_out (by omega)]
    have d1 : decide (y < 1) = false := decide_eq_false a
    have d2 : decide (9999 < y) = true := decide_eq_true b
    clear hl
    go_enter Try.func24, Try.ntmps24
    go_wp2_with fail
    go_ret
    exact ⟨rfl, rfl⟩
  rw [last_in (by omega) (by omega)]
  have d1 : decide (y < 1) = false := decide_eq_false a
  have d2 : decide (9999 < y) = false := decide_eq_false b
  clear a b
  generalize leap y = L at hl ⊢
  by_cases c : m < 1
  · rw [len_none L (by omega)]
    have d3 : decide (m < 1) = true := decide_eq_true c
    clear hl
    go_enter Try.func24, Try.ntmps24
    go_wp2_with fail
    go_ret
    exact ⟨rfl, rfl⟩
  by_cases c2 : 12 < m
  · rw [len_none L (by omega)]
    have d3 : decide (m < 1) = false := decide_eq_false c
    have d4 : decide (12 < m) = true := decide_eq_true c2
    clear hl
    go_enter Try.func24, Try.ntmps24
    go_wp2_with fail
    go_ret
    exact ⟨rfl, rfl⟩
  by_cases h2 : m = 2
  · subst h2
    clear c c2
    cases L
    · replace hl := hide hl
      rw [show len false 2 = 28 from rfl]
      go_enter Try.func24, Try.ntmps24
      go_wp2_with fail
      refine (unhide hl _).mono ?_
      rintro e w1 ⟨rfl, rfl⟩
      go_wp2_with (first | rw [build41] | rw [idx1])
      go_ret
      exact ⟨rfl, rfl⟩
    · replace hl := hide hl
      rw [show len true 2 = 29 from rfl]
      go_enter Try.func24, Try.ntmps24
      go_wp2_with fail
      refine (unhide hl _).mono ?_
      rintro e w1 ⟨rfl, rfl⟩
      go_wp2_with fail
      go_ret
      exact ⟨rfl, rfl⟩
  clear hl
  by_cases h1 : m = 1
  · subst h1
    clear c c2
    rw [show len L 1 = 31 from by cases L <;> rfl]
    go_enter Try.func24, Try.ntmps24
    go_wp2_with (first | rw [build41] | rw [idx0])
    go_ret
    exact ⟨rfl, rfl⟩
  by_cases h3 : m = 3
  · subst h3
    clear c c2
    rw [show len L 3 = 31 from by cases L <;> rfl]
    go_enter Try.func24, Try.ntmps24
    go_wp2_with (first | rw [build41] | rw [idx2])
    go_ret
    exact ⟨rfl, rfl⟩
  by_cases h4 : m = 4
  · subst h4
    clear c c2
    rw [show len L 4 = 30 from by cases L <;> rfl]
    go_enter Try.func24, Try.ntmps24
    go_wp2_with (first | rw [build41] | rw [idx3])
    go_ret
    exact ⟨rfl, rfl⟩
  by_cases h5 : m = 5
  · subst h5
    clear c c2
    rw [show len L 5 = 31 from by cases L <;> rfl]
    go_enter Try.func24, Try.ntmps24
    go_wp2_with (first | rw [build41] | rw [idx4])
    go_ret
    exact ⟨rfl, rfl⟩
  by_cases h6 : m = 6
  · subst h6
    clear c c2
    rw [show len L 6 = 30 from by cases L <;> rfl]
    go_enter Try.func24, Try.ntmps24
    go_wp2_with (first | rw [build41] | rw [idx5])
    go_ret
    exact ⟨rfl, rfl⟩
  by_cases h7 : m = 7
  · subst h7
    clear c c2
    rw [show len L 7 = 31 from by cases L <;> rfl]
    go_enter Try.func24, Try.ntmps24
    go_wp2_with (first | rw [build41] | rw [idx6])
    go_ret
    exact ⟨rfl, rfl⟩
  by_cases h8 : m = 8
  · subst h8
    clear c c2
    rw [show len L 8 = 31 from by cases L <;> rfl]
    go_enter Try.func24, Try.ntmps24
    go_wp2_with (first | rw [build41] | rw [idx7])
    go_ret
    exact ⟨rfl, rfl⟩
  by_cases h9 : m = 9
  · subst h9
    clear c c2
    rw [show len L 9 = 30 from by cases L <;> rfl]
    go_enter Try.func24, Try.ntmps24
    go_wp2_with (first | rw [build41] | rw [idx8])
    go_ret
    exact ⟨rfl, rfl⟩
  by_cases h10 : m = 10
  · subst h10
    clear c c2
    rw [show len L 10 = 31 from by cases L <;> rfl]
    go_enter Try.func24, Try.ntmps24
    go_wp2_with (first | rw [build41] | rw [idx9])
    go_ret
    exact ⟨rfl, rfl⟩
  by_cases h11 : m = 11
  · subst h11
    clear c c2
    rw [show len L 11 = 30 from by cases L <;> rfl]
    go_enter Try.func24, Try.ntmps24
    go_wp2_with (first | rw [build41] | rw [idx10])
    go_ret
    exact ⟨rfl, rfl⟩
  obtain rfl : m = 12 := by omega
  rw [show len L 12 = 31 from by cases L <;> rfl]
  go_enter Try.func24, Try.ntmps24
  go_wp2_with (first | rw [build41] | rw [idx11])
  go_ret
  exact ⟨rfl, rfl⟩
set_option maxHeartbeats 1000000 in
theorem ahead_any (Y : Nat) (h1 : 1 ≤ Y) (h2 : (Y : Int) ≤ 9999) : Q 37 #[.int .i64 Y] (.int .i64 (ds (Y - 1))) := by
  intro w
  have hL := hide (fun k : Nat => rleap_any k)
  go_enter Try.func37, Try.ntmps37
  go_wp2_with fail
  go_loopw [3, 4] (fun a i wr => ∃ (k : Nat), 1 ≤ k ∧ k ≤ Y ∧ i = .int .i64 k ∧ a = .int .i64 (ds (k - 1)) ∧ wr = w) (fun _ i _ => Y - (intOf i).toNat)
  case atStart => exact ⟨1, by omega, by omega, rfl, by rw [show ((1 : Nat) : Int) - 1 = 0 from by omega, ds_zero], rfl⟩
  case round =>
    obtain ⟨k, hk1, hk2, rfl, rfl, rfl⟩ := hrel
    by_cases hlt : (k : Int) < (Y : Int)
    · have hlt' : decide ((k : Int) < (Y : Int)) = true := decide_eq_true hlt
      have s := ds_step k
      have m1 := ds_mono (y := 0) (z := (k : Int) - 1) (by omega)
      have m2 := ds_mono (y := (k : Int) - 1) (z := 9999) (by omega)
      rw [ds_zero] at m1
      rw [show ds 9999 = 3652059 from by decide] at m2
      have hl := unhide hL k
      have hz : Hid (ds (((k + 1 : Nat) : Int) - 1) = ds k) := hide (by rw [show ((k + 1 : Nat) : Int) - 1 = k from by omega])
      cases hb : leap k
      · rw [hb] at hl s
        have s2 : Hid (ds k = ds (k - 1) + 365) := hide s
        replace hl := hide hl
        clear s hb
        generalize ds ((k : Int) - 1) = D at *
        go_wp2_with fail
        refine (unhide hl _).mono ?_
        rintro e w2 ⟨rfl, rfl⟩
        go_wp2_with fail
        go_roundw
        case rel => exact ⟨k + 1, by omega, by omega, by go_num, by rw [unhide hz, unhide s2], by trivial⟩
        case measure => simp [intOf]; omega
      · rw [hb] at hl s
        have s2 : Hid (ds k = ds (k - 1) + 365 + 1) := hide (by rw [s]; show _ + (366 : Int) = _; omega)
        replace hl := hide hl
        clear s hb
        generalize ds ((k : Int) - 1) = D at *
        go_wp2_with fail
        refine (unhide hl _).mono ?_
        rintro e w2 ⟨rfl, rfl⟩
        go_wp2_with fail
        go_roundw
        case rel => exact ⟨k + 1, by omega, by omega, by go_num, by rw [unhide hz, unhide s2], by trivial⟩
        case measure => simp [intOf]; omega
    · have hlt' : decide ((k : Int) < (Y : Int)) = false := decide_eq_false hlt
      have hk : k = Y := by omega
      subst hk
      clear hL
      go_wp2_with fail
      go_ret
      exact ⟨rfl, rfl⟩
end Go.Proofs.Ytmpalgfhamahnaa
