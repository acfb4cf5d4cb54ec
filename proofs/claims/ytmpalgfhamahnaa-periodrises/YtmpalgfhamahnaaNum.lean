/- Plain facts on 64-bit numbers and on the calendar: years, months, days and their numbers. No program in this text. -/
import Derived.RowKit
namespace Go.Proofs.Ytmpalgfhamahnaa
open Go.RowKit (wrap64)
/-- A number of 64 bits. -/
structure In64 (a : Int) : Prop where
  lo : -9223372036854775808 ≤ a
  hi : a ≤ 9223372036854775807
theorem in64_of {a : Int} (h : (Lit.int .i64 a).wf = true) : In64 a := by
  simp only [Lit.wf, IntKind.min, IntKind.max, IntKind.signed, IntKind.bits, Bool.and_eq_true, decide_eq_true_eq, if_true] at h
  exact ⟨by omega, by omega⟩
theorem in64_wrap (n : Int) : In64 (wrap64 n) := by
  unfold wrap64; exact ⟨by omega, by omega⟩
theorem wrap_in {n : Int} (h : In64 n) : wrap64 n = n := by
  have h1 := h.lo
  have h2 := h.hi
  unfold wrap64; omega
/-- Has the year that day? -/
def leap (y : Int) : Bool := decide (y % 4 = 0) && (!decide (y % 100 = 0) || decide (y % 400 = 0))
/-- A month's days, of a leap year or another. -/
def len (L : Bool) (m : Int) : Int :=
  if m = 2 then (if L then 29 else 28) else if m = 4 ∨ m = 6 ∨ m = 9 ∨ m = 11 then 30 else if 1 ≤ m ∧ m ≤ 12 then 31 else 0
/-- A month's days, 0 where there is no such year or month. -/
def last (y m : Int) : Int := if 1 ≤ y ∧ y ≤ 9999 then len (leap y) m else 0
/-- The days of the months ahead of the one with that number. -/
def mo (L : Bool) : Nat → Int
  | 0 => 0
  | k + 1 => mo L k + len L k
/-- The days of that many years. -/
def ds (y : Int) : Int := 365 * y + y / 4 - y / 100 + y / 400
def yl (L : Bool) : Int := if L then 366 else 365
/-- There is such a day. -/
structure Valid (y m d : Int) : Prop where
  y1 : 1 ≤ y
  y2 : y ≤ 9999
  m1 : 1 ≤ m
  m2 : m ≤ 12
  d1 : 1 ≤ d
  d2 : d ≤ len (leap y) m
/-- A date's number. -/
def num (y m d : Int) : Int := ds (y - 1) + mo (leap y) m.toNat + d
theorem leap_yes {y : Int} (h : leap y = true) : y % 4 = 0 ∧ (y % 100 ≠ 0 ∨ y % 400 = 0) := by
  unfold leap at h
  simp only [Bool.and_eq_true, Bool.or_eq_true, decide_eq_true_eq, Bool.not_eq_true', decide_eq_false_iff_not] at h
  exact h
theorem leap_no {y : Int} (h : leap y = false) : y % 4 ≠ 0 ∨ (y % 100 = 0 ∧ y % 400 ≠ 0) := by
  by_cases h1 : y % 4 = 0
  · refine Or.inr ?_
    unfold leap at h
    simp only [h1, decide_true, Bool.true_and, Bool.or_eq_false_iff, Bool.not_eq_false', decide_eq_true_eq, decide_eq_false_iff_not] at h
    exact h
  · exact Or.inl h1
theorem len_bd (L : Bool) (m : Int) : 0 ≤ len L m ∧ len L m ≤ 31 := by
  unfold len
  cases L <;> (repeat' split) <;> omega
theorem len_pos (L : Bool) {m : Int} (h1 : 1 ≤ m) (h2 : m ≤ 12) : 28 ≤ len L m := by
  unfold len
  cases L <;> (repeat' split) <;> omega
theorem len_none (L : Bool) {m : Int} (h : ¬ (1 ≤ m ∧ m ≤ 12)) : len L m = 0 := by
  unfold len
  rw [if_neg (by omega), if_neg (by omega), if_neg h]
theorem last_in {y m : Int} (h1 : 1 ≤ y) (h2 : y ≤ 9999) : last y m = len (leap y) m := if_pos ⟨h1, h2⟩
theorem last_out {y m : Int} (h : ¬ (1 ≤ y ∧ y ≤ 9999)) : last y m = 0 := if_neg h
theorem mo_all : ∀ (L : Bool), mo L 1 = 0 ∧ mo L 13 = yl L ∧ ∀ k : Fin 14, ∀ j : Fin 14, k.val < j.val → mo L k.val + len L k.val ≤ mo L j.val := by decide +kernel
theorem mo_step (L : Bool) (k : Nat) : mo L (k + 1) = mo L k + len L k := rfl
theorem mo_one (L : Bool) : mo L 1 = 0 := (mo_all L).1
theorem mo_end (L : Bool) : mo L 13 = yl L := (mo_all L).2.1
theorem mo_lt (L : Bool) {k j : Nat} (h : k < j) (hj : j ≤ 13) : mo L k + len L k ≤ mo L j := (mo_all L).2.2 ⟨k, by omega⟩ ⟨j, by omega⟩ h
theorem mo_nonneg (L : Bool) {k : Nat} (h : k ≤ 13) : 0 ≤ mo L k := by
  cases k with
  | zero => exact Int.le_refl 0
  | succ k =>
    have := mo_lt L (k := 0) (j := k + 1) (by omega) h
    have e : mo L 0 = 0 := rfl
    have := (len_bd L ((0 : Nat) : Int)).1
    omega
theorem yl_bd (L : Bool) : 365 ≤ yl L ∧ yl L ≤ 366 := by cases L <;> decide
/-- One year more. -/
theorem ds_step (y : Int) : ds y = ds (y - 1) + yl (leap y) := by
  have a4 : y / 4 = (y - 1) / 4 + (if y % 4 = 0 then 1 else 0) := by split <;> omega
  have a100 : y / 100 = (y - 1) / 100 + (if y % 100 = 0 then 1 else 0) := by split <;> omega
  have a400 : y / 400 = (y - 1) / 400 + (if y % 400 = 0 then 1 else 0) := by split <;> omega
  unfold ds
  rw [a4, a100, a400]
  generalize (y - 1) / 4 = p
  generalize (y - 1) / 100 = q
  generalize (y - 1) / 400 = r
  cases h : leap y
  · have h' := leap_no h
    show _ = _ + (365 : Int)
    rcases h' with h' | ⟨h1, h2⟩
    · rw [if_neg h', if_neg (by omega), if_neg (by omega)]; omega
    · by_cases h4 : y % 4 = 0
      · rw [if_pos h4, if_pos h1, if_neg h2]; omega
      · omega
  · have h' := leap_yes h
    show _ = _ + (366 : Int)
    rcases h' with ⟨h4, h1 | h1⟩
    · rw [if_pos h4, if_neg h1, if_neg (by omega)]; omega
    · rw [if_pos h4, if_pos (by omega), if_pos h1]; omega
theorem ds_mono {y z : Int} (h : y ≤ z) : ds y ≤ ds z := by
  by_cases e : y = z
  · rw [e]; omega
  · unfold ds; omega
theorem ds_zero : ds 0 = 0 := by decide
/-- A date's number lies in its year. -/
theorem num_year {y m d : Int} (h : Valid y m d) : ds (y - 1) < num y m d ∧ num y m d ≤ ds y := by
  obtain ⟨y1, y2, m1, m2, d1, d2⟩ := h
  rw [ds_step y]
  unfold num
  obtain ⟨k, rfl⟩ : ∃ k : Nat, m = (k : Int) := ⟨m.toNat, by omega⟩
  rw [Int.toNat_natCast]
  have h1 := mo_nonneg (leap y) (k := k) (by omega)
  have h2 := mo_lt (leap y) (k := k) (j := 13) (by omega) (by omega)
  rw [mo_end] at h2
  omega
theorem num_range {y m d : Int} (h : Valid y m d) : 1 ≤ num y m d ∧ num y m d ≤ 3652059 := by
  have h1 := num_year h
  have h2 := ds_mono (y := 0) (z := y - 1) (by have := h.y1; omega)
  have h3 := ds_mono (y := y) (z := 9999) h.y2
  have e : ds 9999 = 3652059 := by decide
  rw [ds_zero] at h2
  omega
/-- Later dates have greater numbers. -/
theorem num_lt {y m d y' m' d' : Int} (h : Valid y m d) (h' : Valid y' m' d') (hl : y < y' ∨ (y = y' ∧ (m < m' ∨ (m = m' ∧ d < d')))) : num y m d < num y' m' d' := by
  have n1 := num_year h
  have n2 := num_year h'
  obtain ⟨y1, y2, m1, m2, d1, d2⟩ := h
  obtain ⟨y1', y2', m1', m2', d1', d2'⟩ := h'
  rcases hl with hl | ⟨rfl, hl | ⟨rfl, hl⟩⟩
  · have := ds_mono (y := y) (z := y' - 1) (by omega)
    omega
  · unfold num
    have := mo_lt (leap y) (k := m.toNat) (j := m'.toNat) (by omega) (by omega)
    have e : ((m.toNat : Nat) : Int) = m := by omega
    rw [e] at this
    omega
  · unfold num; omega
theorem num_inj {y m d y' m' d' : Int} (h : Valid y m d) (h' : Valid y' m' d') (e : num y m d = num y' m' d') : y = y' ∧ m = m' ∧ d = d' := by
  by_cases a : y < y' ∨ (y = y' ∧ (m < m' ∨ (m = m' ∧ d < d')))
  · have := num_lt h h' a; omega
  · by_cases b : y' < y ∨ (y' = y ∧ (m' < m ∨ (m' = m ∧ d' < d)))
    · have := num_lt h' h b; omega
    · omega
/-- The year by its mean length: that year or the one ahead of it. -/
def guess (n : Int) : Int := 1 + (n - 1) * 400 / 146097
theorem guess_bd {n : Int} (h1 : 1 ≤ n) (h2 : n ≤ 3652059) : 1 ≤ guess n ∧ guess n ≤ 9999 ∧ ds (guess n - 1) < n ∧ n ≤ ds (guess n + 1) := by
  unfold guess
  refine ⟨by omega, by omega, ?_, ?_⟩
  · unfold ds; omega
  · unfold ds; omega
def year (n : Int) : Int := if ds (guess n) < n then guess n + 1 else guess n
theorem year_bd {n : Int} (h1 : 1 ≤ n) (h2 : n ≤ 3652059) : 1 ≤ year n ∧ year n ≤ 9999 ∧ ds (year n - 1) < n ∧ n ≤ ds (year n) := by
  obtain ⟨g1, g2, g3, g4⟩ := guess_bd h1 h2
  unfold year
  by_cases h : ds (guess n) < n
  · rw [if_pos h]
    have e : ds 9999 = 3652059 := by decide
    have : ¬ guess n = 9999 := fun c => by rw [c] at h; omega
    refine ⟨by omega, by omega, ?_, g4⟩
    rw [show guess n + 1 - 1 = guess n from by omega]; exact h
  · rw [if_neg h]
    exact ⟨g1, g2, g3, by omega⟩
end Go.Proofs.Ytmpalgfhamahnaa
