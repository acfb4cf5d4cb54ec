/- Plain facts on 64-bit numbers: when a sum, a difference or a product goes round, and which way. No program in this text. -/
import Derived.RowKit
namespace Go.Proofs.Ytdbefnghljjieaa
open Go.RowKit (wrap64)
/-- A number of 64 bits. -/
structure In64 (a : Int) : Prop where
  lo : -9223372036854775808 ≤ a
  hi : a ≤ 9223372036854775807
/-- Which way a true number n leaves the 64 bits, within one turn: 1 above, -1 below, 0 inside. -/
def turn (n : Int) : Int := if 9223372036854775807 < n then 1 else if n < -9223372036854775808 then -1 else 0
theorem in64_of {a : Int} (h : (Lit.int .i64 a).wf = true) : In64 a := by
  simp only [Lit.wf, IntKind.min, IntKind.max, IntKind.signed, IntKind.bits, Bool.and_eq_true, decide_eq_true_eq, if_true] at h
  exact ⟨by omega, by omega⟩
theorem wf_of {a : Int} (h : In64 a) : (Lit.int .i64 a).wf = true := by
  have h1 := h.lo
  have h2 := h.hi
  simp only [Lit.wf, IntKind.min, IntKind.max, IntKind.signed, IntKind.bits, Bool.and_eq_true, decide_eq_true_eq, if_true]
  omega
theorem in64_wrap (n : Int) : In64 (wrap64 n) := by
  unfold wrap64; exact ⟨by omega, by omega⟩
theorem wrap_in {n : Int} (h : In64 n) : wrap64 n = n := by
  have h1 := h.lo
  have h2 := h.hi
  unfold wrap64; omega
theorem turn_in {n : Int} (h : In64 n) : turn n = 0 := by
  have h1 := h.lo
  have h2 := h.hi
  unfold turn; rw [if_neg (by omega), if_neg (by omega)]
theorem in_of_turn {n : Int} (h : turn n = 0) : In64 n := by
  unfold turn at h
  by_cases h1 : 9223372036854775807 < n
  · rw [if_pos h1] at h; omega
  · by_cases h2 : n < -9223372036854775808
    · rw [if_neg h1, if_pos h2] at h; omega
    · exact ⟨by omega, by omega⟩
/-- A true number within one turn is what is left of it and its turns. -/
theorem wrap_turn {n : Int} (h1 : -27670116110564327424 ≤ n) (h2 : n ≤ 27670116110564327423) : n = wrap64 n + 18446744073709551616 * turn n := by
  unfold wrap64 turn
  by_cases h3 : 9223372036854775807 < n
  · rw [if_pos h3]; omega
  · by_cases h4 : n < -9223372036854775808
    · rw [if_neg h3, if_pos h4]; omega
    · rw [if_neg h3, if_neg h4]; omega
/-- The machine's tests of a sum. -/
theorem plus_up {a b : Int} (ha : In64 a) (hb : In64 b) (h0 : 0 < b) (h : wrap64 (a + b) < a) : turn (a + b) = 1 := by
  have h1 := ha.lo; have h2 := ha.hi; have h3 := hb.lo; have h4 := hb.hi
  unfold wrap64 at h; unfold turn; rw [if_pos (by omega)]
theorem plus_pos {a b : Int} (ha : In64 a) (hb : In64 b) (h0 : 0 < b) (h : ¬ wrap64 (a + b) < a) : turn (a + b) = 0 := by
  have h1 := ha.lo; have h2 := ha.hi; have h3 := hb.lo; have h4 := hb.hi
  unfold wrap64 at h; unfold turn; rw [if_neg (by omega), if_neg (by omega)]
theorem plus_down {a b : Int} (ha : In64 a) (hb : In64 b) (h0 : b < 0) (h : a < wrap64 (a + b)) : turn (a + b) = -1 := by
  have h1 := ha.lo; have h2 := ha.hi; have h3 := hb.lo; have h4 := hb.hi
  unfold wrap64 at h; unfold turn; rw [if_neg (by omega), if_pos (by omega)]
theorem plus_neg {a b : Int} (ha : In64 a) (hb : In64 b) (h0 : b < 0) (h : ¬ a < wrap64 (a + b)) : turn (a + b) = 0 := by
  have h1 := ha.lo; have h2 := ha.hi; have h3 := hb.lo; have h4 := hb.hi
  unfold wrap64 at h; unfold turn; rw [if_neg (by omega), if_neg (by omega)]
theorem plus_zero {a b : Int} (ha : In64 a) (h0 : ¬ 0 < b) (h : ¬ b < 0) : turn (a + b) = 0 := by
  have h1 := ha.lo; have h2 := ha.hi
  unfold turn; rw [if_neg (by omega), if_neg (by omega)]
/-- The machine's tests of a difference. -/
theorem minus_up {a b : Int} (ha : In64 a) (hb : In64 b) (h0 : b < 0) (h : wrap64 (a - b) < a) : turn (a - b) = 1 := by
  have h1 := ha.lo; have h2 := ha.hi; have h3 := hb.lo; have h4 := hb.hi
  unfold wrap64 at h; unfold turn; rw [if_pos (by omega)]
theorem minus_pos {a b : Int} (ha : In64 a) (hb : In64 b) (h0 : b < 0) (h : ¬ wrap64 (a - b) < a) : turn (a - b) = 0 := by
  have h1 := ha.lo; have h2 := ha.hi; have h3 := hb.lo; have h4 := hb.hi
  unfold wrap64 at h; unfold turn; rw [if_neg (by omega), if_neg (by omega)]
theorem minus_down {a b : Int} (ha : In64 a) (hb : In64 b) (h0 : 0 < b) (h : a < wrap64 (a - b)) : turn (a - b) = -1 := by
  have h1 := ha.lo; have h2 := ha.hi; have h3 := hb.lo; have h4 := hb.hi
  unfold wrap64 at h; unfold turn; rw [if_neg (by omega), if_pos (by omega)]
theorem minus_neg {a b : Int} (ha : In64 a) (hb : In64 b) (h0 : 0 < b) (h : ¬ a < wrap64 (a - b)) : turn (a - b) = 0 := by
  have h1 := ha.lo; have h2 := ha.hi; have h3 := hb.lo; have h4 := hb.hi
  unfold wrap64 at h; unfold turn; rw [if_neg (by omega), if_neg (by omega)]
theorem minus_zero {a b : Int} (ha : In64 a) (h0 : ¬ 0 < b) (h : ¬ b < 0) : turn (a - b) = 0 := by
  have h1 := ha.lo; have h2 := ha.hi
  unfold turn; rw [if_neg (by omega), if_neg (by omega)]
/-- The answer's number, and its error: the true number, if the 64 bits hold it, else 0 and 3 (too great). -/
def okN (n : Int) : Int := if turn n = 0 then n else 0
def okE (n : Int) : Int := if turn n = 0 then 0 else 3
theorem okN_in {n : Int} (h : turn n = 0) : okN n = n := if_pos h
theorem okE_in {n : Int} (h : turn n = 0) : okE n = 0 := if_pos h
theorem okN_out {n : Int} (h : ¬ turn n = 0) : okN n = 0 := if_neg h
theorem okE_out {n : Int} (h : ¬ turn n = 0) : okE n = 3 := if_neg h
theorem okN_in64 (n : Int) : In64 (okN n) := by
  by_cases h : turn n = 0
  · rw [okN_in h]; exact in_of_turn h
  · rw [okN_out h]; exact ⟨by omega, by omega⟩
/-- A product that is divided again by one of its factors is the other one just where it did not go round. -/
theorem times_iff {a b : Int} (ha : In64 a) (hb : In64 b) (h0 : ¬ b = 0) (h1 : ¬ b = -1) : wrap64 ((wrap64 (a * b)).tdiv b) = a ↔ turn (a * b) = 0 := by
  constructor
  · intro h
    have hw : In64 ((wrap64 (a * b)).tdiv b) := by
      have hn := in64_wrap (a * b)
      generalize wrap64 (a * b) = n at hn
      have e := Int.natAbs_tdiv n b
      have hb2 : 2 ≤ b.natAbs ∨ b = 1 := by omega
      have n1 := hn.lo; have n2 := hn.hi
      rcases hb2 with hb2 | rfl
      · have : n.natAbs / b.natAbs ≤ n.natAbs / 2 := Nat.div_le_div_left hb2 (by decide)
        have e2 : (n.tdiv b).natAbs ≤ n.natAbs / 2 := by rw [e]; exact this
        exact ⟨by omega, by omega⟩
      · rw [Int.tdiv_one]; exact hn
    rw [wrap_in hw] at h
    have e := Int.tdiv_mul_add_tmod (wrap64 (a * b)) b
    rw [h] at e
    have r := Int.natAbs_tmod (wrap64 (a * b)) b
    have r2 : (wrap64 (a * b)).natAbs % b.natAbs < b.natAbs := Nat.mod_lt _ (by omega)
    have hb1 := hb.lo; have hb2 := hb.hi
    have hn := in64_wrap (a * b)
    have w : wrap64 (a * b) = a * b := by
      have u : ∃ k : Int, wrap64 (a * b) = a * b + 18446744073709551616 * k := ⟨-((a * b + 9223372036854775808) / 18446744073709551616), by unfold wrap64; omega⟩
      obtain ⟨k, hk⟩ := u
      generalize (wrap64 (a * b)).tmod b = t at e r
      omega
    rw [← w]; exact turn_in hn
  · intro h
    rw [wrap_in (in_of_turn h), Int.mul_tdiv_cancel a h0, wrap_in ha]
def may (n : Int) : Bool := decide (-10000000000000 ≤ n) && decide (n ≤ 10000000000000)
end Go.Proofs.Ytdbefnghljjieaa
