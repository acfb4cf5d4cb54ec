/- What wide's functions answer: Ints as the whole numbers that they are. -/
import Derived.Test.YtmepmmhhiphfiaaDiv
import Derived.Laws.Externs
import Derived.Shelf.Spec.BitsCarry
import Derived.ProofKit
import Derived.Below
import Derived.Deep.QuietTactic
import Derived.BigQuiet
namespace Go.Proofs.Ytmepmmhhiphfiaa
open Go.RowKit
theorem add64 (x y c : Int) (hx : 0 ≤ x) (hy : 0 ≤ y) (hc0 : 0 ≤ c) (hc : c ≤ 1) (w : World) : (callFunc 53 #[.int .u64 x, .int .u64 y, .int .u64 c]).run Try.prog w =
    .ok (.value (.tuple #[.int .u64 ((x + y + c) % 18446744073709551616), .int .u64 ((x + y + c) / 18446744073709551616)])) w := by
  rw [run_callFunc_extern Try.func53 (by kernel_rfl) (by kernel_rfl) (by kernel_rfl) (e := add64Entry) (by kernel_rfl), run_add64 x y c hx hy hc0 hc]
  rfl
/-- The borrow. -/
def bor (x y : Int) : Int := if x < y then 1 else 0
theorem sub64 (x y b : Int) (hx : 0 ≤ x) (hy : 0 ≤ y) (hy' : y < 18446744073709551616) (hb0 : 0 ≤ b) (hb : b ≤ 1) (w : World) : (callFunc 60 #[.int .u64 x, .int .u64 y, .int .u64 b]).run Try.prog w =
    .ok (.value (.tuple #[.int .u64 ((x - y - b) % 18446744073709551616), .int .u64 (bor x (y + b))])) w := by
  obtain ⟨x, rfl⟩ := Int.eq_ofNat_of_zero_le hx
  obtain ⟨y, rfl⟩ := Int.eq_ofNat_of_zero_le hy
  obtain ⟨b, rfl⟩ := Int.eq_ofNat_of_zero_le hb0
  have e1 : (((x + 18446744073709551616 - y - b) % 18446744073709551616 : Nat) : Int) = ((x : Int) - y - b) % 18446744073709551616 := by omega
  have e2 : ((if x < y + b then 1 else 0 : Nat) : Int) = bor x ((y : Int) + b) := by unfold bor; split <;> split <;> omega
  rw [← e1, ← e2]
  rw [run_callFunc_extern Try.func60 (by kernel_rfl) (by kernel_rfl) (by kernel_rfl) (e := sub64Entry) (by kernel_rfl), run_sub64 x y b (by omega)]
  rfl
theorem add64_0 (x y : Int) (hx : 0 ≤ x) (hy : 0 ≤ y) (w : World) : (callFunc 53 #[.int .u64 x, .int .u64 y, .int .u64 0]).run Try.prog w =
    .ok (.value (.tuple #[.int .u64 ((x + y) % 18446744073709551616), .int .u64 ((x + y) / 18446744073709551616)])) w := by
  simpa using add64 x y 0 hx hy (Int.le_refl 0) (by decide) w
theorem sub64_0 (y : Int) (hy : 0 ≤ y) (hy' : y < 18446744073709551616) (w : World) : (callFunc 60 #[.int .u64 0, .int .u64 y, .int .u64 0]).run Try.prog w =
    .ok (.value (.tuple #[.int .u64 (-y % 18446744073709551616), .int .u64 (bor 0 y)])) w := by
  simpa using sub64 0 y 0 (Int.le_refl 0) hy hy' (Int.le_refl 0) (by decide) w
/-- The upper half and the lower one. -/
def hi (X : Int) : Int := wrap64 (X / 18446744073709551616)
def lo (X : Int) : Int := X % 18446744073709551616
structure In128 (X : Int) : Prop where
  lo : -170141183460469231731687303715884105728 ≤ X
  hi : X ≤ 170141183460469231731687303715884105727
theorem hi_bd (X : Int) : -9223372036854775808 ≤ hi X ∧ hi X ≤ 9223372036854775807 := ⟨(in64_wrap _).lo, (in64_wrap _).hi⟩
theorem lo_bd (X : Int) : 0 ≤ lo X ∧ lo X ≤ 18446744073709551615 := by unfold lo; omega
theorem hilo {X : Int} (h : In128 X) : X = hi X * 18446744073709551616 + lo X := by
  have h1 := h.lo; have h2 := h.hi
  unfold hi lo wrap64
  omega
theorem hi_mk {h l : Int} (h1 : -9223372036854775808 ≤ h) (h2 : h ≤ 9223372036854775807) (l1 : 0 ≤ l) (l2 : l ≤ 18446744073709551615) : hi (h * 18446744073709551616 + l) = h ∧ lo (h * 18446744073709551616 + l) = l ∧ In128 (h * 18446744073709551616 + l) := by
  refine ⟨?_, ?_, ?_, ?_⟩
  · unfold hi wrap64; omega
  · unfold lo; omega
  · omega
  · omega
/-- Below 0: -1. -/
def sg (n : Int) : Int := n / 9223372036854775808
theorem sg_neg {n : Int} (h : In64 n) (h0 : n < 0) : sg n = -1 := by have := h.lo; unfold sg; omega
theorem sg_pos {n : Int} (h : In64 n) (h0 : ¬ n < 0) : sg n = 0 := by have := h.hi; unfold sg; omega
theorem sign_any (n : Int) (h : In64 n) (w : World) : Calls Try.prog 48 #[.int .i64 n] w fun e w' => e = .returned (.int .i64 (sg n)) ∧ w = w' := by
  have h1 := h.lo; have h2 := h.hi
  clear h
  go_enter Try.func48, Try.ntmps48
  go_wp2
  go_ret
  exact ⟨rfl, rfl⟩
theorem of_ex (n : Int) (h : In64 n) (w : World) : Calls Try.prog 45 #[.int .i64 n] w fun e w' => e = .returned (.agg #[.int .i64 (hi n), .int .u64 (lo n)]) ∧ ∃ o, w' = w.alloc o := by
  have h1 := h.lo; have h2 := h.hi
  have e1 := hide (show sg n = hi n by unfold sg hi wrap64; omega)
  go_enter Try.func45, Try.ntmps45
  go_wp2_with fail
  refine (sign_any n h _).mono ?_
  rintro e w' ⟨rfl, rfl⟩
  go_wp2_with fail
  refine bodyPost_ret (v := .agg #[.int .i64 (sg n), .int .u64 (IntKind.u64.wrap n)]) (by simp [results, Try.results45, go_sem]) rfl ⟨?_, _, rfl⟩
  rw [unhide e1, IntKind.wrap_u64]
  rfl
theorem below_one {w w' : World} (h : ∃ o, w' = w.alloc o) : Below w.heap.size w w' := by
  obtain ⟨o, rfl⟩ := h
  exact (Below.refl _ _).alloc (Nat.le_refl _) _
theorem of_any (n : Int) (h : In64 n) (w : World) : Calls Try.prog 45 #[.int .i64 n] w fun e w' => e = .returned (.agg #[.int .i64 (hi n), .int .u64 (lo n)]) ∧ Below w.heap.size w w' := (of_ex n h w).mono fun _ _ h => ⟨h.1, below_one h.2⟩
theorem wrap_toNat (b : Int) (h : In64 b) : IntKind.i64.wrap ((BitVec.ofInt 64 b).toNat : Int) = b := by
  have h1 := h.lo; have h2 := h.hi
  rw [BitVec.toNat_ofInt, IntKind.wrap_i64]
  omega
theorem and_ones (b : Int) (h : In64 b) : bits .and .i64 b (-1) = b := by
  show IntKind.i64.wrap ((BitVec.ofInt 64 b &&& BitVec.ofInt 64 (-1)).toNat : Int) = _
  rw [show BitVec.ofInt 64 (-1) = BitVec.allOnes 64 from by decide +kernel, BitVec.and_allOnes]
  exact wrap_toNat b h
theorem and_none (b : Int) : bits .and .i64 b 0 = 0 := by
  show IntKind.i64.wrap ((BitVec.ofInt 64 b &&& BitVec.ofInt 64 0).toNat : Int) = _
  rw [show BitVec.ofInt 64 0 = 0#64 from by decide +kernel, BitVec.and_zero]
  decide +kernel
theorem and_sg (b a : Int) (ha : In64 a) (hb : In64 b) : bits .and .i64 b (sg a) = -(b * sg a) := by
  by_cases h : a < 0
  · rw [sg_neg ha h, and_ones b hb]; omega
  · rw [sg_pos ha h, and_none]; omega
theorem wrap_three (p q r : Int) : wrap64 (wrap64 (wrap64 p - q) - r) = wrap64 (p - q - r) := by
  unfold wrap64
  omega
theorem wrap_add_M (p k : Int) : wrap64 (p + 18446744073709551616 * k) = wrap64 p := by
  unfold wrap64
  omega
theorem mul_parts (a b sa sb x y H L : Int) (hx : x = a - 18446744073709551616 * sa) (hy : y = b - 18446744073709551616 * sb) (hL0 : 0 ≤ L) (hL1 : L < 18446744073709551616) (h : x * y = H * 18446744073709551616 + L) :
    hi (a * b) = wrap64 (H + b * sa + a * sb) ∧ lo (a * b) = L := by
  have e : a * b = L + 18446744073709551616 * (H + b * sa + a * sb + 18446744073709551616 * (-(sa * sb))) := by
    rw [hx, hy, Int.sub_mul, Int.mul_sub, Int.mul_sub, Int.mul_left_comm a, Int.mul_assoc _ sa b, Int.mul_comm sa b, Int.mul_assoc _ sa, Int.mul_left_comm sa] at h
    omega
  constructor
  · unfold hi
    rw [e, Int.add_mul_ediv_left _ _ (by decide), Int.ediv_eq_zero_of_lt hL0 hL1, Int.zero_add, wrap_add_M]
  · unfold lo
    rw [e, Int.add_mul_emod_self_left, Int.emod_eq_of_lt hL0 hL1]
theorem u64_of (n : Int) (h : In64 n) : ∃ m : Nat, IntKind.u64.wrap n = (m : Int) ∧ m < 18446744073709551616 ∧ (m : Int) = n - 18446744073709551616 * sg n := by
  have h1 := h.lo; have h2 := h.hi
  refine ⟨(n % 18446744073709551616).toNat, by rw [IntKind.wrap_u64]; omega, by omega, ?_⟩
  unfold sg
  omega
theorem mul_any (a b : Int) (ha : In64 a) (hb : In64 b) (w : World) : Calls Try.prog 38 #[.int .i64 a, .int .i64 b] w fun e w' => e = .returned (.agg #[.int .i64 (hi (a * b)), .int .u64 (lo (a * b))]) ∧ Below w.heap.size w w' := by
  obtain ⟨x, ex, hx, hxa⟩ := u64_of a ha
  obtain ⟨y, ey, hy, hyb⟩ := u64_of b hb
  have Hx := hide hxa; have Hy := hide hyb
  clear hxa hyb
  have hm := hide (mul64_any x y hx hy)
  go_enter Try.func38, Try.ntmps38
  go_wp2_with fail
  refine (unhide hm _).mono ?_
  rintro e w' ⟨rfl, rfl⟩
  obtain ⟨H, hH⟩ : ∃ H : Nat, H = x * y / 18446744073709551616 := ⟨_, rfl⟩
  obtain ⟨L, hL⟩ : ∃ L : Nat, L = x * y % 18446744073709551616 := ⟨_, rfl⟩
  rw [← hH, ← hL]
  have HH := hide hH
  have HL := hide hL
  clear hH hL
  go_wp2_with fail
  refine (sign_any a ha _).mono ?_
  rintro e w' ⟨rfl, rfl⟩
  go_wp2_with fail
  refine (sign_any b hb _).mono ?_
  rintro e w' ⟨rfl, rfl⟩
  go_wp2_with fail
  refine bodyPost_ret (v := .agg #[.int .i64 (wrap64 (wrap64 (wrap64 ↑H - bits BinOp.and IntKind.i64 b (sg a)) - bits BinOp.and IntKind.i64 a (sg b))), .int .u64 (L : Int)]) (by simp [results, Try.results38, go_sem]) rfl ⟨?_, (Below.refl _ _).alloc (Nat.le_refl _) _⟩
  have h := mul_parts a b (sg a) (sg b) x y H L (unhide Hx) (unhide Hy) (by omega) (by rw [unhide HL]; omega) (by rw [← Int.natCast_mul]; have h1 := unhide HH; have h2 := unhide HL; have h3 := Nat.div_add_mod (x * y) 18446744073709551616; rw [← h1, ← h2] at h3; omega)
  rw [h.1, h.2, wrap_three, and_sg b a ha hb, and_sg a b hb ha]
  rw [show (H : Int) - -(b * sg a) - -(a * sg b) = H + b * sg a + a * sg b from by omega]
end Go.Proofs.Ytmepmmhhiphfiaa
