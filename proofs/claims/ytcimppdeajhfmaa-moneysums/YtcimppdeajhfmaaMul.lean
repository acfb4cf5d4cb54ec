/- What math/bits' Mul64 and Div64 answer (Div64: where the high half is 0). -/
import Derived.Test.YtcimppdeajhfmaaSum
import Derived.Lib.Mul64
import Derived.Laws.Bits64b
import Derived.Deep.Draws
namespace Go.Proofs.Ytcimppdeajhfmaa
open Go.RowKit
namespace M
theorem maskN (a : Nat) (ha : a < 18446744073709551616) : bits .and .u64 (a : Int) 4294967295 = ((a % 4294967296 : Nat) : Int) := by
  have h := bits_and_u64_nat a 4294967295 ha (by omega)
  have e : a &&& 4294967295 = a % 4294967296 := Nat.and_two_pow_sub_one_eq_mod a 32
  rw [e] at h
  exact h
theorem divN (a : Nat) : (a : Int) / 4294967296 = ((a / 4294967296 : Nat) : Int) := by omega
theorem mulN (a b : Nat) : (a : Int) * (b : Int) = ((a * b : Nat) : Int) := (Int.natCast_mul a b).symm
theorem addN (a b : Nat) : (a : Int) + (b : Int) = ((a + b : Nat) : Int) := (Int.natCast_add a b).symm
theorem wrapN (a : Nat) (ha : a < 18446744073709551616) : IntKind.u64.wrap (a : Int) = (a : Int) := by rw [IntKind.wrap_u64]; omega
theorem wrapM (a : Nat) : IntKind.u64.wrap (a : Int) = ((a % 18446744073709551616 : Nat) : Int) := by rw [IntKind.wrap_u64]; omega
end M
set_option maxHeartbeats 1000000 in
theorem mul64_any (x y : Nat) (hx : x < 18446744073709551616) (hy : y < 18446744073709551616) (w : World) :
    Calls Try.prog 34 #[.int .u64 x, .int .u64 y] w fun e w' => e = .returned (.tuple #[.int .u64 ((x * y / 18446744073709551616 : Nat) : Int), .int .u64 ((x * y % 18446744073709551616 : Nat) : Int)]) ∧ w = w' := by
  obtain ⟨bd, bt, bw, hhi⟩ := Lib.mul64_hi x y hx hy
  have ba := Lib.half_mul_le (a := x / 4294967296) (b := y / 4294967296) (by omega) (by omega)
  have bb := Lib.half_mul_le (a := x / 4294967296) (b := y % 4294967296) (by omega) (by omega)
  have bc := Lib.half_mul_le (a := x % 4294967296) (b := y / 4294967296) (by omega) (by omega)
  have ba' : x / 4294967296 * (y / 4294967296) < 18446744073709551616 := by omega
  have bb' : x / 4294967296 * (y % 4294967296) < 18446744073709551616 := by omega
  have bc' : x % 4294967296 * (y / 4294967296) < 18446744073709551616 := by omega
  have bh1 : x / 4294967296 * (y / 4294967296) + (x / 4294967296 * (y % 4294967296) + x % 4294967296 * (y % 4294967296) / 4294967296) / 4294967296 < 18446744073709551616 := by omega
  have bh : x / 4294967296 * (y / 4294967296) + (x / 4294967296 * (y % 4294967296) + x % 4294967296 * (y % 4294967296) / 4294967296) / 4294967296 + ((x / 4294967296 * (y % 4294967296) + x % 4294967296 * (y % 4294967296) / 4294967296) % 4294967296 + x % 4294967296 * (y / 4294967296)) / 4294967296 < 18446744073709551616 := by omega
  go_enter Try.func34, Try.ntmps34
  go_wp2
  simp only [M.maskN x hx, M.maskN y hy, M.divN, M.mulN, M.addN, M.wrapN _ bd, M.wrapN _ bb', M.wrapN _ bt, M.maskN _ bt, M.wrapN _ bc', M.wrapN _ bw, M.wrapN _ ba', M.wrapN _ bh1, M.wrapN _ bh, M.wrapM (x * y)]
  rw [hhi]
  go_ret2
  exact ⟨rfl, rfl⟩
theorem ret_pair {k l : IntKind} {a b c d : Int} (h1 : a = b) (h2 : c = d) : Ending.returned (.tuple #[.int k a, .int l c]) = .returned (.tuple #[.int k b, .int l d]) := by rw [h1, h2]
theorem ret_int {k : IntKind} {a b : Int} (h : a = b) : Ending.returned (.int k a) = .returned (.int k b) := by rw [h]
set_option maxHeartbeats 400000 in
theorem div64_low (lo y : Nat) (hl : lo < 18446744073709551616) (_hy : y < 18446744073709551616) (h0 : 0 < y) (w : World) :
    Calls Try.prog 35 #[.int .u64 0, .int .u64 lo, .int .u64 y] w fun e w' => e = .returned (.tuple #[.int .u64 ((lo / y : Nat) : Int), .int .u64 ((lo % y : Nat) : Int)]) ∧ ∃ n, w' = w.drewN n := by
  have hq := hide (M.wrapN (lo / y) (Nat.lt_of_le_of_lt (Nat.div_le_self lo y) hl))
  go_enter Try.func35, Try.ntmps35
  go_wp2
  go_region
  all_goals (try go_wp2)
  all_goals go_ret2
  all_goals exact ⟨ret_pair (by rw [← Int.natCast_ediv]; exact unhide hq) (by rw [← Int.natCast_emod]), 1, rfl⟩
/-- Div64 answers q at the halves H, L and the divisor a. -/
def DivAt (H L a q : Nat) : Prop := ∀ w : World, Calls Try.prog 35 #[.int .u64 H, .int .u64 L, .int .u64 a] w fun e w' => (∃ r : Int, e = .returned (.tuple #[.int .u64 q, .int .u64 r])) ∧ ∃ n, w' = w.drewN n
def MulAt (m v H L : Nat) : Prop := ∀ w : World, Calls Try.prog 34 #[.int .u64 m, .int .u64 v] w fun e w' => e = .returned (.tuple #[.int .u64 H, .int .u64 L]) ∧ w = w'
/-- Div64 answers the quotient of x (its two halves handed in) by a. -/
def DivSaid (x a : Nat) : Prop := DivAt (x / 18446744073709551616) (x % 18446744073709551616) a (x / a)
theorem divSaid_low (x a : Nat) (hx : x < 18446744073709551616) (ha : a < 18446744073709551616) (h0 : 0 < a) : DivSaid x a := by
  intro w
  rw [Nat.div_eq_of_lt hx, Nat.mod_eq_of_lt hx]
  exact (div64_low x a hx ha h0 w).mono fun e w' h => ⟨⟨_, h.1⟩, h.2⟩
set_option maxHeartbeats 400000 in
theorem share_pos' (m v a H L q : Nat) (hm : m ≤ 10000000000000) (hv : v ≤ 10000000000000) (ha : a ≤ 6000000000000000) (hq : q ≤ 10000000000000) (h64 : MulAt m v H L) (hd : DivAt H L a q) (w : World) :
    Calls Try.prog 31 #[.int .i64 m, .int .i64 v, .int .i64 a] w fun e w' => e = .returned (.int .i64 q) ∧ ∃ n, w' = w.drewN n := by
  go_enter Try.func31, Try.ntmps31
  go_wp2_with fail
  refine (h64 _).mono ?_
  rintro e w' ⟨rfl, rfl⟩
  go_wp2_with fail
  refine (hd _).mono ?_
  rintro e w' ⟨⟨r, rfl⟩, n, rfl⟩
  go_wp2_with fail
  go_ret
  exact ⟨rfl, n, rfl⟩
set_option maxHeartbeats 400000 in
theorem share_neg' (m v a H L q : Nat) (h0 : 0 < m) (hm : m ≤ 10000000000000) (hv : v ≤ 10000000000000) (ha : a ≤ 6000000000000000) (hq : q ≤ 10000000000000) (h64 : MulAt m v H L) (hd : DivAt H L a q) (w : World) :
    Calls Try.prog 31 #[.int .i64 (-(m : Int)), .int .i64 v, .int .i64 a] w fun e w' => e = .returned (.int .i64 (-(q : Int))) ∧ ∃ n, w' = w.drewN n := by
  have hlt : -(m : Int) < 0 := by omega
  go_enter Try.func31, Try.ntmps31
  go_wp2_with fail
  refine (h64 _).mono ?_
  rintro e w' ⟨rfl, rfl⟩
  go_wp2_with fail
  refine (hd _).mono ?_
  rintro e w' ⟨⟨r, rfl⟩, n, rfl⟩
  go_wp2_with fail
  go_ret
  exact ⟨rfl, n, rfl⟩
/-- The share of a weight: n times it, divided by all, towards 0. -/
theorem share_any (n v a : Int) (hn : may n = true) (hv0 : 0 ≤ v) (hv : v ≤ 10000000000000) (hva : v ≤ a) (ha0 : 0 < a) (ha : a ≤ 6000000000000000) (hd : DivSaid (n.natAbs * v.toNat) a.toNat) (w : World) :
    Calls Try.prog 31 #[.int .i64 n, .int .i64 v, .int .i64 a] w fun e w' => e = .returned (.int .i64 ((n * v).tdiv a)) ∧ ∃ k, w' = w.drewN k := by
  have hn' : -10000000000000 ≤ n ∧ n ≤ 10000000000000 := by simpa [may] using hn
  obtain ⟨V, rfl⟩ := Int.eq_ofNat_of_zero_le hv0
  obtain ⟨A, rfl⟩ := Int.eq_ofNat_of_zero_le (Int.le_of_lt ha0)
  rw [Int.toNat_natCast, Int.toNat_natCast] at hd
  have hq : ∀ m : Nat, m ≤ 10000000000000 → m * V / A ≤ 10000000000000 := by
    intro m hm
    refine Nat.le_trans (Nat.div_le_of_le_mul ?_) hm
    rw [Nat.mul_comm A]; exact Nat.mul_le_mul_left m (by omega)
  have h64 : ∀ m : Nat, m ≤ 10000000000000 → MulAt m V (m * V / 18446744073709551616) (m * V % 18446744073709551616) := fun m hm w => mul64_any m V (by omega) (by omega) w
  by_cases h0 : n < 0
  · obtain ⟨m, hm⟩ : ∃ m : Nat, n = -(m : Int) := ⟨n.natAbs, by omega⟩
    subst hm
    rw [show (-(m : Int)).natAbs = m from by omega] at hd
    rw [Int.neg_mul, Int.neg_tdiv, ← Int.natCast_mul, ← Int.ofNat_tdiv]
    exact share_neg' m V A _ _ _ (by omega) (by omega) (by omega) (by omega) (hq m (by omega)) (h64 m (by omega)) hd w
  · obtain ⟨m, rfl⟩ := Int.eq_ofNat_of_zero_le (Int.not_lt.1 h0)
    rw [Int.natAbs_natCast] at hd
    rw [← Int.natCast_mul, ← Int.ofNat_tdiv]
    exact share_pos' m V A _ _ _ (by omega) (by omega) (by omega) (hq m (by omega)) (h64 m (by omega)) hd w
end Go.Proofs.Ytcimppdeajhfmaa
