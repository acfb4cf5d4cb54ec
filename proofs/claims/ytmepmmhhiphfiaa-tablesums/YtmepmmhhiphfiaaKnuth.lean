/- The arithmetic of a long division by digits of 32 bits. No program in this text. -/
import Derived.RowKit
import Derived.Laws.Bits64b
namespace Go.Proofs.Ytmepmmhhiphfiaa
namespace Kn
/-- A guess q with rest r, for the digit of u, d by the divisor v1, v0. -/
structure Guess (u d v1 v0 q r : Nat) : Prop where
  sum : q * v1 + r = u
  least : (u * 4294967296 + d) / (v1 * 4294967296 + v0) ≤ q
theorem cross (q v1 v0 r u : Nat) (h : q * v1 + r = u) : q * (v1 * 4294967296 + v0) + r * 4294967296 = u * 4294967296 + q * v0 := by
  rw [← h, Nat.mul_add, Nat.add_mul, ← Nat.mul_assoc]
  omega
theorem start {u d v1 v0 : Nat} (h1 : 0 < v1) (hd : d < 4294967296) : Guess u d v1 v0 (u / v1) (u % v1) := by
  refine ⟨by rw [Nat.mul_comm]; exact Nat.div_add_mod u v1, ?_⟩
  have e : (u * 4294967296 + d) / 4294967296 = u := by omega
  calc (u * 4294967296 + d) / (v1 * 4294967296 + v0) ≤ (u * 4294967296 + d) / (v1 * 4294967296) := Nat.div_le_div_left (by omega) (by omega)
    _ = (u * 4294967296 + d) / 4294967296 / v1 := by rw [Nat.mul_comm v1, Nat.div_div_eq_div_mul]
    _ = u / v1 := by rw [e]
theorem digit_lt {u d v1 v0 : Nat} (hu : u < v1 * 4294967296 + v0) (hd : d < 4294967296) : (u * 4294967296 + d) / (v1 * 4294967296 + v0) < 4294967296 := by
  rw [Nat.div_lt_iff_lt_mul (by omega)]
  omega
theorem too_great {u d v1 v0 q r : Nat} (h : Guess u d v1 v0 q r) (hv : 0 < v1) (hp : 4294967296 * r + d < q * v0) : (u * 4294967296 + d) / (v1 * 4294967296 + v0) < q := by
  have := cross q v1 v0 r u h.sum
  rw [Nat.div_lt_iff_lt_mul (by omega)]
  omega
theorem next {u d v1 v0 q r : Nat} (h : Guess u d v1 v0 q r) (hq : (u * 4294967296 + d) / (v1 * 4294967296 + v0) < q) : Guess u d v1 v0 (q - 1) (r + v1) := by
  refine ⟨?_, Nat.le_sub_one_of_lt hq⟩
  have hq0 : 0 < q := Nat.lt_of_le_of_lt (Nat.zero_le _) hq
  clear hq
  obtain ⟨p, rfl⟩ : ∃ p, q = p + 1 := ⟨q - 1, by omega⟩
  have := h.sum
  rw [Nat.add_mul] at this
  rw [Nat.add_sub_cancel]
  omega
theorem done {u d v1 v0 q r : Nat} (h : Guess u d v1 v0 q r) (hv : 0 < v1) (hp : q * v0 ≤ 4294967296 * r + d) : q = (u * 4294967296 + d) / (v1 * 4294967296 + v0) := by
  have := cross q v1 v0 r u h.sum
  have h2 : q ≤ (u * 4294967296 + d) / (v1 * 4294967296 + v0) := (Nat.le_div_iff_mul_le (by omega)).2 (by omega)
  have := h.least
  omega
theorem broke {u d v1 v0 q r : Nat} (h : Guess u d v1 v0 q r) (hv : 0 < v1) (hu : u < v1 * 4294967296 + v0) (h0 : v0 < 4294967296) (hr : 4294967296 ≤ r) : q = (u * 4294967296 + d) / (v1 * 4294967296 + v0) := by
  refine done h hv ?_
  have hs := h.sum
  have hq : q < 4294967296 := by
    have h1 : q * v1 < 4294967296 * v1 := by omega
    exact Nat.lt_of_mul_lt_mul_right h1
  have hp : q * v0 ≤ 4294967295 * 4294967295 := Nat.mul_le_mul (by omega) (by omega)
  omega
/-- The normed numbers: the divisor Y has its highest bit, u and c are the halves of what is divided. -/
theorem norm (hi lo y s : Nat) (hs : s ≤ 63) (hhy : hi < y) (hl : lo < 18446744073709551616) (h1 : y * 2 ^ s < 18446744073709551616) :
    hi * 2 ^ s + lo / 2 ^ (64 - s) < y * 2 ^ s ∧ hi * 2 ^ s < 18446744073709551616 ∧
    ((hi * 2 ^ s) ||| (lo / 2 ^ (64 - s))) = hi * 2 ^ s + lo / 2 ^ (64 - s) ∧
    ((hi * 2 ^ s + lo / 2 ^ (64 - s)) * 18446744073709551616 + lo * 2 ^ s % 18446744073709551616) / (y * 2 ^ s) = (hi * 18446744073709551616 + lo) / y := by
  have hp : 0 < 2 ^ s := Nat.two_pow_pos s
  have hp2 : 0 < 2 ^ (64 - s) := Nat.two_pow_pos _
  have e64 : 2 ^ (64 - s) * 2 ^ s = 18446744073709551616 := by rw [← Nat.pow_add, show 64 - s + s = 64 from by omega]
  have hlo : lo / 2 ^ (64 - s) < 2 ^ s := by
    rw [Nat.div_lt_iff_lt_mul hp2, Nat.mul_comm, e64]; exact hl
  have hyy : hi * 2 ^ s + 2 ^ s ≤ y * 2 ^ s := by
    have : (hi + 1) * 2 ^ s ≤ y * 2 ^ s := Nat.mul_le_mul_right _ hhy
    rw [Nat.add_mul, Nat.one_mul] at this
    exact this
  refine ⟨by omega, by omega, ?_, ?_⟩
  · rw [Nat.mul_comm hi]
    exact (Nat.two_pow_add_eq_or_of_lt hlo hi).symm
  · have e : lo * 2 ^ s / 18446744073709551616 = lo / 2 ^ (64 - s) := by
      rw [← e64, Nat.mul_div_mul_right _ _ hp]
    have e2 : (hi * 2 ^ s + lo / 2 ^ (64 - s)) * 18446744073709551616 + lo * 2 ^ s % 18446744073709551616 = (hi * 18446744073709551616 + lo) * 2 ^ s := by
      rw [Nat.add_mul, ← e, Nat.add_mul, Nat.mul_right_comm hi]
      have := Nat.div_add_mod (lo * 2 ^ s) 18446744073709551616
      omega
    rw [e2, Nat.mul_div_mul_right _ _ hp]
/-- Two digits are the quotient. -/
theorem whole (u c Y q t : Nat) (hY : 0 < Y) (h : Y * q + t = u * 4294967296 + c / 4294967296) :
    (u * 18446744073709551616 + c) / Y = q * 4294967296 + (t * 4294967296 + c % 4294967296) / Y := by
  have e2 : u * 18446744073709551616 + c = Y * (q * 4294967296) + (t * 4294967296 + c % 4294967296) := by
    rw [← Nat.mul_assoc]
    omega
  rw [e2, Nat.mul_add_div hY]
end Kn
end Go.Proofs.Ytmepmmhhiphfiaa
