/- Plain facts on 64-bit numbers: when a sum, a difference or a product goes round, and which way. No program in this text. -/
import Derived.RowKit
import Derived.Test.YtpeoabopeihadaaRows
import Derived.WalkKit
import Derived.WalkSpells
import Derived.Lib.Mul64
import Derived.Laws.Bits64b
import Derived.Deep.Draws
import Derived.Test.YtpeoabopeihadaaNTri
import Derived.Lib.Tables
set_option linter.unusedVariables false
set_option linter.unusedSimpArgs false
set_option linter.unusedSectionVars false
set_option maxHeartbeats 4000000
namespace Go.Proofs.Ytpeoabopeihadaa
open Go.RowKit (wrap64)
structure In64 (a : Int) : Prop where
 lo : -9223372036854775808 ≤ a
 hi : a ≤ 9223372036854775807
def turn (n : Int) : Int := if 9223372036854775807 < n then 1 else if n < -9223372036854775808 then -1 else 0
theorem in64_of {a : Int} (h : (Lit.int .i64 a).wf = true) : In64 a := by
 simp only [Lit.wf, IntKind.min, IntKind.max, IntKind.signed, IntKind.bits, Bool.and_eq_true, decide_eq_true_eq, if_true] at h
 exact ⟨by omega, by omega⟩
theorem in64_wrap (n : Int) : In64 (wrap64 n) := by
 unfold wrap64; exact ⟨by omega, by omega⟩
theorem wrap_in {n : Int} (h : In64 n) : wrap64 n = n := by
 have h1 := h.lo
 have h2 := h.hi
 unfold wrap64; omega
theorem turn_in {n : Int} (h : In64 n) : turn n = 0 := by
 have h1 := h.lo
 have h2 := h.hi
 unfold turn; rw [if_neg (by omega), if_neg (by omega)]
theorem in_of_turn {n : Int} (h : turn n = 0) : In64 n := by
 unfold turn at h
 by_cases h1 : 9223372036854775807 < n
 ·rw [if_pos h1] at h; omega
 ·by_cases h2 : n < -9223372036854775808
  ·rw [if_neg h1, if_pos h2] at h; omega
  ·exact ⟨by omega, by omega⟩
theorem plus_up {a b : Int} (ha : In64 a) (hb : In64 b) (h0 : 0 < b) (h : wrap64 (a + b) < a) : turn (a + b) = 1 := by
 have h1 := ha.lo; have h2 := ha.hi; have h3 := hb.lo; have h4 := hb.hi
 unfold wrap64 at h; unfold turn; rw [if_pos (by omega)]
theorem plus_pos {a b : Int} (ha : In64 a) (hb : In64 b) (h0 : 0 < b) (h : ¬ wrap64 (a + b) < a) : turn (a + b) = 0 := by
 have h1 := ha.lo; have h2 := ha.hi; have h3 := hb.lo; have h4 := hb.hi
 unfold wrap64 at h; unfold turn; rw [if_neg (by omega), if_neg (by omega)]
theorem plus_down {a b : Int} (ha : In64 a) (hb : In64 b) (h0 : b < 0) (h : a < wrap64 (a + b)) : turn (a + b) = -1 := by
 have h1 := ha.lo; have h2 := ha.hi; have h3 := hb.lo; have h4 := hb.hi
 unfold wrap64 at h; unfold turn; rw [if_neg (by omega), if_pos (by omega)]
theorem plus_neg {a b : Int} (ha : In64 a) (hb : In64 b) (h0 : b < 0) (h : ¬ a < wrap64 (a + b)) : turn (a + b) = 0 := by
 have h1 := ha.lo; have h2 := ha.hi; have h3 := hb.lo; have h4 := hb.hi
 unfold wrap64 at h; unfold turn; rw [if_neg (by omega), if_neg (by omega)]
theorem plus_zero {a b : Int} (ha : In64 a) (h0 : ¬ 0 < b) (h : ¬ b < 0) : turn (a + b) = 0 := by
 have h1 := ha.lo; have h2 := ha.hi
 unfold turn; rw [if_neg (by omega), if_neg (by omega)]
def okN (n : Int) : Int := if turn n = 0 then n else 0
def okE (n : Int) : Int := if turn n = 0 then 0 else 3
theorem okN_in {n : Int} (h : turn n = 0) : okN n = n := if_pos h
theorem okE_in {n : Int} (h : turn n = 0) : okE n = 0 := if_pos h
theorem okN_out {n : Int} (h : ¬ turn n = 0) : okN n = 0 := if_neg h
theorem okE_out {n : Int} (h : ¬ turn n = 0) : okE n = 3 := if_neg h
def may (n : Int) : Bool := decide (-10000000000000 ≤ n) && decide (n ≤ 10000000000000)
end Go.Proofs.Ytpeoabopeihadaa
/- What math/bits' Mul64 and Div64 answer (Div64: where the high half is 0). -/
namespace Go.Proofs.Ytpeoabopeihadaa
open Go.RowKit
attribute [local simp] Tri.typeInfo Tri.sizeOf Tri.underlying Tri.runUnderlying Tri.isAgg Tri.zeroValue Tri.depth Tri.stoodInHeld Tri.eqGuardType Tri.call15 Tri.call16 Tri.call26 Tri.call27 Tri.call28 Tri.call29 Tri.call30 Tri.call31 Tri.call46 Tri.call49 Tri.call50 Tri.call51 Tri.call52 Tri.call53 Tri.call54 Tri.call65 Tri.call66 Tri.call68 Tri.call69 Tri.call70 Tri.call71 Tri.call72 Tri.call73 Tri.call74 Tri.call75 Tri.call82 Tri.call84 Tri.call85 Tri.call86 Tri.call95 Tri.call101 Tri.call106 Tri.call107 Tri.call116 Tri.call117 Tri.call118 Tri.call119 Tri.call120 Tri.call122 Tri.call123 Tri.call124 Tri.call125 Tri.call126 Tri.call135 Tri.call137 Tri.call143 Tri.call144 Tri.call145 Tri.call146 Tri.call147 Tri.call149 Tri.call150 Tri.call151 Tri.call152 Tri.call156 Tri.call157 Tri.call159 Tri.call160 Tri.call161 Tri.call162 Tri.call163 Tri.call164 Tri.call165 Tri.call166 Tri.call167 Tri.call175 Tri.call176 Tri.call178 Tri.call179 Tri.call180 Tri.call181 Tri.call182 Tri.call183 Tri.call186 Tri.call187 Tri.call188 Tri.call205
theorem hide {p : Prop} (h : p) : Hid p := h
theorem uh {p : Prop} (h : Hid p) : p := h
namespace M
theorem maskN (a : Nat) (ha : a < 18446744073709551616) : bits .and .u64 (a : Int) 4294967295 = ((a % 4294967296 : Nat) : Int) := by
 have h := bits_and_u64_nat a 4294967295 ha (by omega)
 have e : a &&& 4294967295 = a % 4294967296 := Nat.and_two_pow_sub_one_eq_mod a 32
 rw [e] at h
 exact h
theorem divN (a : Nat) : (a : Int) / 4294967296 = ((a / 4294967296 : Nat) : Int) := by omega
theorem mulN (a b : Nat) : (a : Int) * (b : Int) = ((a * b : Nat) : Int) := (Int.natCast_mul a b).symm
theorem addN (a b : Nat) : (a : Int) + (b : Int) = ((a + b : Nat) : Int) := (Int.natCast_add a b).symm
theorem wrapN (a : Nat) (ha : a < 18446744073709551616) : IntKind.u64.wrap (a : Int) = (a : Int) := by rw [IntKind.wrap_u64]; omega
theorem wrapM (a : Nat) : IntKind.u64.wrap (a : Int) = ((a % 18446744073709551616 : Nat) : Int) := by rw [IntKind.wrap_u64]; omega
end M
theorem mul64_any (x y : Nat) (hx : x < 18446744073709551616) (hy : y < 18446744073709551616) (w : World) :
  Calls (Tri Try.prog) 164 #[.int .u64 x, .int .u64 y] w fun e w' => e = .returned (.tuple #[.int .u64 ((x * y / 18446744073709551616 : Nat) : Int), .int .u64 ((x * y % 18446744073709551616 : Nat) : Int)]) ∧ w = w' := by
 obtain ⟨bd, bt, bw, hhi⟩ := Lib.mul64_hi x y hx hy
 have ba := Lib.half_mul_le (a := x / 4294967296) (b := y / 4294967296) (by omega) (by omega)
 have bb := Lib.half_mul_le (a := x / 4294967296) (b := y % 4294967296) (by omega) (by omega)
 have bc := Lib.half_mul_le (a := x % 4294967296) (b := y / 4294967296) (by omega) (by omega)
 have ba' : x / 4294967296 * (y / 4294967296) < 18446744073709551616 := by omega
 have bb' : x / 4294967296 * (y % 4294967296) < 18446744073709551616 := by omega
 have bc' : x % 4294967296 * (y / 4294967296) < 18446744073709551616 := by omega
 have bh1 : x / 4294967296 * (y / 4294967296) + (x / 4294967296 * (y % 4294967296) + x % 4294967296 * (y % 4294967296) / 4294967296) / 4294967296 < 18446744073709551616 := by omega
 have bh : x / 4294967296 * (y / 4294967296) + (x / 4294967296 * (y % 4294967296) + x % 4294967296 * (y % 4294967296) / 4294967296) / 4294967296 + ((x / 4294967296 * (y % 4294967296) + x % 4294967296 * (y % 4294967296) / 4294967296) % 4294967296 + x % 4294967296 * (y / 4294967296)) / 4294967296 < 18446744073709551616 := by omega
 go_enter (Tri.at (by decide) Try.func164), Try.ntmps164
 go_wp2
 simp only [M.maskN x hx, M.maskN y hy, M.divN, M.mulN, M.addN, M.wrapN _ bd, M.wrapN _ bb', M.wrapN _ bt, M.maskN _ bt, M.wrapN _ bc', M.wrapN _ bw, M.wrapN _ ba', M.wrapN _ bh1, M.wrapN _ bh, M.wrapM (x * y)]
 rw [hhi]
 go_ret2
 exact ⟨rfl, rfl⟩
theorem ret_pair {k l : IntKind} {a b c d : Int} (h1 : a = b) (h2 : c = d) : Ending.returned (.tuple #[.int k a, .int l c]) = .returned (.tuple #[.int k b, .int l d]) := by rw [h1, h2]
theorem ret_int {k : IntKind} {a b : Int} (h : a = b) : Ending.returned (.int k a) = .returned (.int k b) := by rw [h]
theorem div64_low (lo y : Nat) (hl : lo < 18446744073709551616) (_hy : y < 18446744073709551616) (h0 : 0 < y) (w : World) :
  Calls (Tri Try.prog) 176 #[.int .u64 0, .int .u64 lo, .int .u64 y] w fun e w' => e = .returned (.tuple #[.int .u64 ((lo / y : Nat) : Int), .int .u64 ((lo % y : Nat) : Int)]) ∧ ∃ n, w' = w.drewN n := by
 have hq := hide (M.wrapN (lo / y) (Nat.lt_of_le_of_lt (Nat.div_le_self lo y) hl))
 go_enter (Tri.at (by decide) Try.func176), Try.ntmps176
 go_wp2
 go_region
 all_goals (try go_wp2)
 all_goals go_ret2
 all_goals exact ⟨ret_pair (by rw [← Int.natCast_ediv]; exact uh hq) (by rw [← Int.natCast_emod]), 1, rfl⟩
end Go.Proofs.Ytpeoabopeihadaa
/- What math/bits' Len64 and LeadingZeros64 answer. -/
namespace Go.Proofs.Ytpeoabopeihadaa
open Go.RowKit
attribute [local simp] Tri.typeInfo Tri.sizeOf Tri.underlying Tri.runUnderlying Tri.isAgg Tri.zeroValue Tri.depth Tri.stoodInHeld Tri.eqGuardType Tri.call15 Tri.call16 Tri.call26 Tri.call27 Tri.call28 Tri.call29 Tri.call30 Tri.call31 Tri.call46 Tri.call49 Tri.call50 Tri.call51 Tri.call52 Tri.call53 Tri.call54 Tri.call65 Tri.call66 Tri.call68 Tri.call69 Tri.call70 Tri.call71 Tri.call72 Tri.call73 Tri.call74 Tri.call75 Tri.call82 Tri.call84 Tri.call85 Tri.call86 Tri.call95 Tri.call101 Tri.call106 Tri.call107 Tri.call116 Tri.call117 Tri.call118 Tri.call119 Tri.call120 Tri.call122 Tri.call123 Tri.call124 Tri.call125 Tri.call126 Tri.call135 Tri.call137 Tri.call143 Tri.call144 Tri.call145 Tri.call146 Tri.call147 Tri.call149 Tri.call150 Tri.call151 Tri.call152 Tri.call156 Tri.call157 Tri.call159 Tri.call160 Tri.call161 Tri.call162 Tri.call163 Tri.call164 Tri.call165 Tri.call166 Tri.call167 Tri.call175 Tri.call176 Tri.call178 Tri.call179 Tri.call180 Tri.call181 Tri.call182 Tri.call183 Tri.call186 Tri.call187 Tri.call188 Tri.call205
theorem len8_fin : ∀ y : Fin 256, 0 < y.val → ∃ l : Fin 9, Lib.len8 (y.val : Int) = (l.val : Int) ∧ 1 ≤ l.val ∧ y.val < 2 ^ l.val ∧ 2 ^ (l.val - 1) ≤ y.val := by decide +kernel
theorem len8_of (y : Nat) (h0 : 0 < y) (h : y < 256) : ∃ l : Nat, Lib.len8 (y : Int) = (l : Int) ∧ 1 ≤ l ∧ l ≤ 8 ∧ y < 2 ^ l ∧ 2 ^ (l - 1) ≤ y := by
 obtain ⟨l, h1, h2, h3, h4⟩ := len8_fin ⟨y, h⟩ h0
 exact ⟨l.val, h1, h2, by omega, h3, h4⟩
def IsLen (x n : Nat) : Prop := 1 ≤ n ∧ n ≤ 64 ∧ x < 2 ^ n ∧ 2 ^ (n - 1) ≤ x
theorem isLen_shift {x y l k : Nat} (hy : y = x / 2 ^ k) (h1 : 1 ≤ l) (hl : l ≤ 8) (hk : k ≤ 56) (h2 : y < 2 ^ l) (h3 : 2 ^ (l - 1) ≤ y) : IsLen x (k + l) := by
 have hp : 0 < 2 ^ k := Nat.two_pow_pos k
 refine ⟨by omega, by omega, ?_, ?_⟩
 ·rw [Nat.pow_add, Nat.mul_comm]
  exact (Nat.div_lt_iff_lt_mul hp).1 (by rw [← hy]; exact h2)
 ·rw [show k + l - 1 = (l - 1) + k from by omega, Nat.pow_add]
  exact (Nat.le_div_iff_mul_le hp).1 (by rw [← hy]; exact h3)
theorem len8_get (y : Nat) (h : y < Lib.len8tab.size) : ((Lib.len8tab[y]'h).toNat : Int) = Lib.len8 (y : Int) := by
 unfold Lib.len8
 simp only [Int.toNat_natCast, getElem?_pos Lib.len8tab y h, Option.getD_some]
theorem wrap_small (k l : Nat) (hk : k ≤ 56) (hl : l ≤ 8) : wrap64 ((k : Int) + wrap64 (l : Int)) = ((k + l : Nat) : Int) := by
 unfold wrap64
 omega
theorem way_close (x y : Nat) (k : Nat) (hk : k ≤ 56) (hy0 : 0 < y) (hy1 : y < 256) (hxy : y = x / 2 ^ k) (h : y < Lib.len8tab.size) :
  ∃ m : Nat, wrap64 ((k : Int) + wrap64 ((Lib.len8tab[y]'h).toNat : Int)) = m ∧ IsLen x m := by
 obtain ⟨l, h1, h2, h3, h4, h5⟩ := len8_of y hy0 hy1
 exact ⟨k + l, by rw [len8_get, h1, wrap_small k l hk h3], isLen_shift hxy h2 h3 hk h4 h5⟩
theorem way_close0 (x : Nat) (hy0 : 0 < x) (hy1 : x < 256) (h : x < Lib.len8tab.size) :
  ∃ m : Nat, wrap64 (wrap64 ((Lib.len8tab[x]'h).toNat : Int)) = m ∧ IsLen x m := by
 have := way_close x x 0 (by omega) hy0 hy1 (by simp) h
 rw [show ((0 : Nat) : Int) = 0 from rfl, Int.zero_add] at this
 exact this
set_option maxRecDepth 1000000 in
theorem len64_any (x : Int) (hx0 : 0 < x) (hx : x ≤ 18446744073709551615) (w : World) :
  Calls (Tri Try.prog) 188 #[.int .u64 x] w fun e w' => (∃ m : Nat, e = .returned (.int .i64 m) ∧ IsLen x.toNat m) ∧ w = w' := by
 have hs : ((Lib.len8tab.size : Nat) : Int) = 256 := by rw [Lib.len8tab_size]; rfl
 go_enter (Tri.at (by decide) Try.func188), Try.ntmps188
 go_wp2
 ·go_ret
  obtain ⟨m, hm, hl⟩ := way_close x.toNat (x / 4294967296 / 65536 / 256).toNat 56 (by omega) (by omega) (by omega) (by omega) (by rw [Lib.len8tab_size]; omega)
  exact ⟨⟨m, by rw [← hm]; rfl, hl⟩, rfl⟩
 ·go_ret
  obtain ⟨m, hm, hl⟩ := way_close x.toNat (x / 4294967296 / 65536).toNat 48 (by omega) (by omega) (by omega) (by omega) (by rw [Lib.len8tab_size]; omega)
  exact ⟨⟨m, by rw [← hm]; rfl, hl⟩, rfl⟩
 ·go_ret
  obtain ⟨m, hm, hl⟩ := way_close x.toNat (x / 4294967296 / 256).toNat 40 (by omega) (by omega) (by omega) (by omega) (by rw [Lib.len8tab_size]; omega)
  exact ⟨⟨m, by rw [← hm]; rfl, hl⟩, rfl⟩
 ·go_ret
  obtain ⟨m, hm, hl⟩ := way_close x.toNat (x / 4294967296).toNat 32 (by omega) (by omega) (by omega) (by omega) (by rw [Lib.len8tab_size]; omega)
  exact ⟨⟨m, by rw [← hm]; rfl, hl⟩, rfl⟩
 ·go_ret
  obtain ⟨m, hm, hl⟩ := way_close x.toNat (x / 65536 / 256).toNat 24 (by omega) (by omega) (by omega) (by omega) (by rw [Lib.len8tab_size]; omega)
  exact ⟨⟨m, by rw [← hm]; rfl, hl⟩, rfl⟩
 ·go_ret
  obtain ⟨m, hm, hl⟩ := way_close x.toNat (x / 65536).toNat 16 (by omega) (by omega) (by omega) (by omega) (by rw [Lib.len8tab_size]; omega)
  exact ⟨⟨m, by rw [← hm]; rfl, hl⟩, rfl⟩
 ·go_ret
  obtain ⟨m, hm, hl⟩ := way_close x.toNat (x / 256).toNat 8 (by omega) (by omega) (by omega) (by omega) (by rw [Lib.len8tab_size]; omega)
  exact ⟨⟨m, by rw [← hm]; rfl, hl⟩, rfl⟩
 ·go_ret
  obtain ⟨m, hm, hl⟩ := way_close0 x.toNat (by omega) (by omega) (by rw [Lib.len8tab_size]; omega)
  exact ⟨⟨m, by rw [← hm]; rfl, hl⟩, rfl⟩
end Go.Proofs.Ytpeoabopeihadaa
/- The arithmetic of a long division by digits of 32 bits. No program in this text. -/
namespace Go.Proofs.Ytpeoabopeihadaa
namespace Kn
structure Guess (u d v1 v0 q r : Nat) : Prop where
 sum : q * v1 + r = u
 least : (u * 4294967296 + d) / (v1 * 4294967296 + v0) ≤ q
theorem cross (q v1 v0 r u : Nat) (h : q * v1 + r = u) : q * (v1 * 4294967296 + v0) + r * 4294967296 = u * 4294967296 + q * v0 := by
 rw [← h, Nat.mul_add, Nat.add_mul, ← Nat.mul_assoc]
 omega
theorem start {u d v1 v0 : Nat} (h1 : 0 < v1) (hd : d < 4294967296) : Guess u d v1 v0 (u / v1) (u % v1) := by
 refine ⟨by rw [Nat.mul_comm]; exact Nat.div_add_mod u v1, ?_⟩
 have e : (u * 4294967296 + d) / 4294967296 = u := by omega
 calc (u * 4294967296 + d) / (v1 * 4294967296 + v0) ≤ (u * 4294967296 + d) / (v1 * 4294967296) := Nat.div_le_div_left (by omega) (by omega)
  _ = (u * 4294967296 + d) / 4294967296 / v1 := by rw [Nat.mul_comm v1, Nat.div_div_eq_div_mul]
  _ = u / v1 := by rw [e]
theorem digit_lt {u d v1 v0 : Nat} (hu : u < v1 * 4294967296 + v0) (hd : d < 4294967296) : (u * 4294967296 + d) / (v1 * 4294967296 + v0) < 4294967296 := by
 rw [Nat.div_lt_iff_lt_mul (by omega)]
 omega
theorem too_great {u d v1 v0 q r : Nat} (h : Guess u d v1 v0 q r) (hv : 0 < v1) (hp : 4294967296 * r + d < q * v0) : (u * 4294967296 + d) / (v1 * 4294967296 + v0) < q := by
 have := cross q v1 v0 r u h.sum
 rw [Nat.div_lt_iff_lt_mul (by omega)]
 omega
theorem next {u d v1 v0 q r : Nat} (h : Guess u d v1 v0 q r) (hq : (u * 4294967296 + d) / (v1 * 4294967296 + v0) < q) : Guess u d v1 v0 (q - 1) (r + v1) := by
 refine ⟨?_, Nat.le_sub_one_of_lt hq⟩
 have hq0 : 0 < q := Nat.lt_of_le_of_lt (Nat.zero_le _) hq
 clear hq
 obtain ⟨p, rfl⟩ : ∃ p, q = p + 1 := ⟨q - 1, by omega⟩
 have := h.sum
 rw [Nat.add_mul] at this
 rw [Nat.add_sub_cancel]
 omega
theorem done {u d v1 v0 q r : Nat} (h : Guess u d v1 v0 q r) (hv : 0 < v1) (hp : q * v0 ≤ 4294967296 * r + d) : q = (u * 4294967296 + d) / (v1 * 4294967296 + v0) := by
 have := cross q v1 v0 r u h.sum
 have h2 : q ≤ (u * 4294967296 + d) / (v1 * 4294967296 + v0) := (Nat.le_div_iff_mul_le (by omega)).2 (by omega)
 have := h.least
 omega
theorem broke {u d v1 v0 q r : Nat} (h : Guess u d v1 v0 q r) (hv : 0 < v1) (hu : u < v1 * 4294967296 + v0) (h0 : v0 < 4294967296) (hr : 4294967296 ≤ r) : q = (u * 4294967296 + d) / (v1 * 4294967296 + v0) := by
 refine done h hv ?_
 have hs := h.sum
 have hq : q < 4294967296 := by
  have h1 : q * v1 < 4294967296 * v1 := by omega
  exact Nat.lt_of_mul_lt_mul_right h1
 have hp : q * v0 ≤ 4294967295 * 4294967295 := Nat.mul_le_mul (by omega) (by omega)
 omega
theorem norm (hi lo y s : Nat) (hs : s ≤ 63) (hhy : hi < y) (hl : lo < 18446744073709551616) (h1 : y * 2 ^ s < 18446744073709551616) :
  hi * 2 ^ s + lo / 2 ^ (64 - s) < y * 2 ^ s ∧ hi * 2 ^ s < 18446744073709551616 ∧
  ((hi * 2 ^ s) ||| (lo / 2 ^ (64 - s))) = hi * 2 ^ s + lo / 2 ^ (64 - s) ∧
  ((hi * 2 ^ s + lo / 2 ^ (64 - s)) * 18446744073709551616 + lo * 2 ^ s % 18446744073709551616) / (y * 2 ^ s) = (hi * 18446744073709551616 + lo) / y := by
 have hp : 0 < 2 ^ s := Nat.two_pow_pos s
 have hp2 : 0 < 2 ^ (64 - s) := Nat.two_pow_pos _
 have e64 : 2 ^ (64 - s) * 2 ^ s = 18446744073709551616 := by rw [← Nat.pow_add, show 64 - s + s = 64 from by omega]
 have hlo : lo / 2 ^ (64 - s) < 2 ^ s := by
  rw [Nat.div_lt_iff_lt_mul hp2, Nat.mul_comm, e64]; exact hl
 have hyy : hi * 2 ^ s + 2 ^ s ≤ y * 2 ^ s := by
  have : (hi + 1) * 2 ^ s ≤ y * 2 ^ s := Nat.mul_le_mul_right _ hhy
  rw [Nat.add_mul, Nat.one_mul] at this
  exact this
 refine ⟨by omega, by omega, ?_, ?_⟩
 ·rw [Nat.mul_comm hi]
  exact (Nat.two_pow_add_eq_or_of_lt hlo hi).symm
 ·have e : lo * 2 ^ s / 18446744073709551616 = lo / 2 ^ (64 - s) := by
   rw [← e64, Nat.mul_div_mul_right _ _ hp]
  have e2 : (hi * 2 ^ s + lo / 2 ^ (64 - s)) * 18446744073709551616 + lo * 2 ^ s % 18446744073709551616 = (hi * 18446744073709551616 + lo) * 2 ^ s := by
   rw [Nat.add_mul, ← e, Nat.add_mul, Nat.mul_right_comm hi]
   have := Nat.div_add_mod (lo * 2 ^ s) 18446744073709551616
   omega
  rw [e2, Nat.mul_div_mul_right _ _ hp]
theorem whole (u c Y q t : Nat) (hY : 0 < Y) (h : Y * q + t = u * 4294967296 + c / 4294967296) :
  (u * 18446744073709551616 + c) / Y = q * 4294967296 + (t * 4294967296 + c % 4294967296) / Y := by
 have e2 : u * 18446744073709551616 + c = Y * (q * 4294967296) + (t * 4294967296 + c % 4294967296) := by
  rw [← Nat.mul_assoc]
  omega
 rw [e2, Nat.mul_add_div hY]
end Kn
end Go.Proofs.Ytpeoabopeihadaa
/- What math/bits' Div64 answers wherever it answers: the quotient of a number of 128 bits by one of 64. -/
namespace Go.Proofs.Ytpeoabopeihadaa
open Go.RowKit
attribute [local simp] Tri.typeInfo Tri.sizeOf Tri.underlying Tri.runUnderlying Tri.isAgg Tri.zeroValue Tri.depth Tri.stoodInHeld Tri.eqGuardType Tri.call15 Tri.call16 Tri.call26 Tri.call27 Tri.call28 Tri.call29 Tri.call30 Tri.call31 Tri.call46 Tri.call49 Tri.call50 Tri.call51 Tri.call52 Tri.call53 Tri.call54 Tri.call65 Tri.call66 Tri.call68 Tri.call69 Tri.call70 Tri.call71 Tri.call72 Tri.call73 Tri.call74 Tri.call75 Tri.call82 Tri.call84 Tri.call85 Tri.call86 Tri.call95 Tri.call101 Tri.call106 Tri.call107 Tri.call116 Tri.call117 Tri.call118 Tri.call119 Tri.call120 Tri.call122 Tri.call123 Tri.call124 Tri.call125 Tri.call126 Tri.call135 Tri.call137 Tri.call143 Tri.call144 Tri.call145 Tri.call146 Tri.call147 Tri.call149 Tri.call150 Tri.call151 Tri.call152 Tri.call156 Tri.call157 Tri.call159 Tri.call160 Tri.call161 Tri.call162 Tri.call163 Tri.call164 Tri.call165 Tri.call166 Tri.call167 Tri.call175 Tri.call176 Tri.call178 Tri.call179 Tri.call180 Tri.call181 Tri.call182 Tri.call183 Tri.call186 Tri.call187 Tri.call188 Tri.call205
theorem isLen_norm {y m : Nat} (h : IsLen y m) : y * 2 ^ (64 - m) < 18446744073709551616 ∧ 9223372036854775808 ≤ y * 2 ^ (64 - m) := by
 obtain ⟨h1, h2, h3, h4⟩ := h
 have hp : 0 < 2 ^ (64 - m) := Nat.two_pow_pos _
 have e1 : 2 ^ m * 2 ^ (64 - m) = 18446744073709551616 := by rw [← Nat.pow_add, show m + (64 - m) = 64 from by omega]
 have e2 : 2 ^ (m - 1) * 2 ^ (64 - m) = 9223372036854775808 := by rw [← Nat.pow_add, show m - 1 + (64 - m) = 63 from by omega]
 exact ⟨by rw [← e1]; exact Nat.mul_lt_mul_of_pos_right h3 hp, by rw [← e2]; exact Nat.mul_le_mul_right _ h4⟩
theorem lz_any (y : Nat) (h0 : 0 < y) (hy : y < 18446744073709551616) (w : World) :
  Calls (Tri Try.prog) 186 #[.int .u64 y] w fun e w' => (∃ s : Nat, e = .returned (.int .i64 s) ∧ s ≤ 63 ∧ y * 2 ^ s < 18446744073709551616 ∧ 9223372036854775808 ≤ y * 2 ^ s) ∧ w = w' := by
 have hlen := hide (len64_any (y : Int) (by omega) (by omega))
 go_enter (Tri.at (by decide) Try.func186), Try.ntmps186
 go_wp2_with fail
 refine (uh hlen _).mono ?_
 rintro e w' ⟨⟨m, rfl, hm⟩, rfl⟩
 rw [Int.toNat_natCast] at hm
 have hm1 : 1 ≤ m ∧ m ≤ 64 := ⟨hm.1, hm.2.1⟩
 have Hm := hide (isLen_norm hm)
 clear hm
 go_wp2_with fail
 go_ret
 exact ⟨⟨64 - m, ret_int (by omega), by omega, (uh Hm).1, (uh Hm).2⟩, rfl⟩
theorem wrap_shl (a s : Nat) : IntKind.u64.wrap ((a : Int) * 2 ^ s) = ((a * 2 ^ s % 18446744073709551616 : Nat) : Int) := by
 have e : ((a : Int) * 2 ^ s) = ((a * 2 ^ s : Nat) : Int) := by rw [Int.natCast_mul, Int.natCast_pow]; rfl
 rw [e, M.wrapM]
theorem shr_nat (a k : Nat) : (a : Int) / 2 ^ k = ((a / 2 ^ k : Nat) : Int) := by
 rw [Int.natCast_ediv, Int.natCast_pow]; rfl
theorem norm_rest (hi lo y s X R : Nat) (hs : s ≤ 63) (hR : R < y) (hN : hi * 18446744073709551616 + lo = y * X + R) (h1 : y * 2 ^ s < 18446744073709551616) :
  (hi * 2 ^ s + lo / 2 ^ (64 - s)) * 18446744073709551616 + lo * 2 ^ s % 18446744073709551616 = y * 2 ^ s * X + R * 2 ^ s ∧ R * 2 ^ s < 18446744073709551616 := by
 have hp : 0 < 2 ^ s := Nat.two_pow_pos s
 have e64 : 2 ^ (64 - s) * 2 ^ s = 18446744073709551616 := by rw [← Nat.pow_add, show 64 - s + s = 64 from by omega]
 have e : lo * 2 ^ s / 18446744073709551616 = lo / 2 ^ (64 - s) := by
  rw [← e64, Nat.mul_div_mul_right _ _ hp]
 refine ⟨?_, Nat.lt_trans (Nat.mul_lt_mul_of_pos_right hR hp) h1⟩
 have e2 : (hi * 2 ^ s + lo / 2 ^ (64 - s)) * 18446744073709551616 + lo * 2 ^ s % 18446744073709551616 = (hi * 18446744073709551616 + lo) * 2 ^ s := by
  rw [Nat.add_mul, ← e, Nat.add_mul, Nat.mul_right_comm hi]
  have := Nat.div_add_mod (lo * 2 ^ s) 18446744073709551616
  omega
 rw [e2, hN, Nat.add_mul, Nat.mul_right_comm]
theorem rest_linK {K U V W Z t d1 d0 : Nat} (h1 : U * K + (d1 * K + d0) = V * K + W + Z) (hS : V + t = U + d1) : t * K + d0 = W + Z := by
 have h2 : V * K + t * K = U * K + d1 * K := by rw [← Nat.add_mul, hS, Nat.add_mul]
 omega
theorem rest_lin {u c V W Z t d1 d0 : Nat} (h1 : u * 18446744073709551616 + c = V * 4294967296 + W + Z) (hS : V + t = u * 4294967296 + d1) (hC : c = d1 * 4294967296 + d0) : t * 4294967296 + d0 = W + Z := by
 have h2 : u * 18446744073709551616 = u * 4294967296 * 4294967296 := by rw [Nat.mul_assoc]
 rw [h2, hC] at h1
 exact rest_linK h1 hS
theorem rest_wrap {t d0 W Z : Nat} (e : t * 4294967296 + d0 = W + Z) (h2 : Z < 18446744073709551616) :
  IntKind.u64.wrap (IntKind.u64.wrap (IntKind.u64.wrap ((t : Int) * 4294967296) + (d0 : Int)) - IntKind.u64.wrap (W : Int)) = (Z : Int) := by
 simp only [IntKind.wrap_u64]
 omega
theorem rest_close {u c Y X R s pa p t d1 d0 : Nat} (h : u * 18446744073709551616 + c = Y * X + R * 2 ^ s ∧ R * 2 ^ s < 18446744073709551616) (hX : X = pa * 4294967296 + p) (hS : Y * pa + t = u * 4294967296 + d1) (hC : c = d1 * 4294967296 + d0) :
  IntKind.u64.wrap (IntKind.u64.wrap (IntKind.u64.wrap ((t : Int) * 4294967296) + (d0 : Int)) - IntKind.u64.wrap ((p : Int) * (Y : Int))) / 2 ^ s = (R : Int) := by
 obtain ⟨h1, h2⟩ := h
 rw [hX, Nat.mul_add, ← Nat.mul_assoc Y pa] at h1
 have e := rest_lin h1 hS hC
 rw [← Int.natCast_mul, Nat.mul_comm p Y, rest_wrap e h2, shr_nat, Nat.mul_div_cancel _ (Nat.two_pow_pos s)]
theorem guess_facts (u d v1 v0 : Nat) (hv : 0 < v1) (hd : d < 4294967296) (hu : u < 18446744073709551616) :
  ∃ q r : Nat, Kn.Guess u d v1 v0 q r ∧ r < v1 ∧ q < 18446744073709551616 ∧ IntKind.u64.wrap ((u : Int) / (v1 : Int)) = (q : Int) ∧ IntKind.u64.wrap ((u : Int) - IntKind.u64.wrap ((q : Int) * (v1 : Int))) = (r : Int) := by
 have hqb : u / v1 ≤ u := Nat.div_le_self _ _
 have hg := Kn.start (u := u) (d := d) (v1 := v1) (v0 := v0) hv hd
 refine ⟨u / v1, u % v1, hg, Nat.mod_lt _ hv, by omega, ?_, ?_⟩
 ·rw [← Int.natCast_ediv, M.wrapN _ (by omega)]
 ·have e := hg.sum
  generalize u / v1 = q at *
  generalize u % v1 = r at *
  rw [M.mulN, M.wrapN _ (by omega), IntKind.wrap_u64]
  omega
theorem rest_facts (u d v1 v0 Y p : Nat) (hY : Y = v1 * 4294967296 + v0) (hY1 : Y < 18446744073709551616) (nu : u < Y) (hd : d < 4294967296) (hp : p = (u * 4294967296 + d) / (v1 * 4294967296 + v0)) :
  ∃ t : Nat, t < Y ∧ Y * p + t = u * 4294967296 + d ∧ p < 4294967296 ∧ IntKind.u64.wrap (IntKind.u64.wrap (IntKind.u64.wrap ((u : Int) * 4294967296) + (d : Int)) - IntKind.u64.wrap ((p : Int) * (Y : Int))) = (t : Int) := by
 have h1 := Kn.digit_lt (u := u) (d := d) (v1 := v1) (v0 := v0) (by omega) hd
 rw [← hp] at h1
 rw [← hY] at hp
 have h2 := Nat.div_add_mod (u * 4294967296 + d) Y
 rw [← hp] at h2
 have h3 : (u * 4294967296 + d) % Y < Y := Nat.mod_lt _ (by omega)
 generalize (u * 4294967296 + d) % Y = t at h2 h3
 refine ⟨t, h3, h2, h1, ?_⟩
 rw [Nat.mul_comm] at h2
 rw [M.mulN]
 generalize p * Y = m at h2
 simp only [IntKind.wrap_u64]
 omega
theorem more {u d v1 v0 q r : Nat} (h : Kn.Guess u d v1 v0 q r) (hu : u < v1 * 4294967296 + v0) (hd : d < 4294967296) (hq : 4294967296 ≤ q) : Kn.Guess u d v1 v0 (q - 1) (r + v1) := by
 have := Kn.digit_lt hu hd
 exact Kn.next h (Nat.lt_of_lt_of_le this hq)
theorem prod_small {q v0 : Nat} (hq : q < 4294967296) (h0 : v0 < 4294967296) : q * v0 ≤ 18446744065119617025 := by
 have : q * v0 ≤ 4294967295 * 4294967295 := Nat.mul_le_mul (by omega) (by omega)
 omega
theorem div64_high (hi lo y : Nat) (h1 : 0 < hi) (hhy : hi < y) (hl : lo < 18446744073709551616) (hy : y < 18446744073709551616) (w : World) :
  Calls (Tri Try.prog) 176 #[.int .u64 hi, .int .u64 lo, .int .u64 y] w fun e w' => e = .returned (.tuple #[.int .u64 ((hi * 18446744073709551616 + lo) / y : Nat), .int .u64 ((hi * 18446744073709551616 + lo) % y : Nat)]) ∧ ∃ n, w' = w.drewN n := by
 have t1 : ((y : Int) == 0) = false := by rw [beq_eq_false_iff_ne]; omega
 have t2 : decide ((y : Int) ≤ (hi : Int)) = false := by simp; omega
 have t3 : ((hi : Int) == 0) = false := by rw [beq_eq_false_iff_ne]; omega
 obtain ⟨X, hX⟩ : ∃ X, X = (hi * 18446744073709551616 + lo) / y := ⟨_, rfl⟩
 obtain ⟨R, hR⟩ : ∃ R, R = (hi * 18446744073709551616 + lo) % y := ⟨_, rfl⟩
 rw [← hX, ← hR]
 have HX := hide hX
 have HRy : Hid (R < y ∧ hi * 18446744073709551616 + lo = y * X + R) := hide ⟨by rw [hR]; exact Nat.mod_lt _ (by omega), by rw [hX, hR]; exact (Nat.div_add_mod _ _).symm⟩
 clear hX hR
 go_enter (Tri.at (by decide) Try.func176), Try.ntmps176
 go_wp2_with fail
 refine (lz_any y (by omega) hy _).mono ?_
 rintro e w' ⟨⟨s, rfl, hs, hy1, hy2⟩, rfl⟩
 obtain ⟨nu, nh, nor, nq⟩ := Kn.norm hi lo y s hs hhy hl hy1
 have HR := hide (norm_rest hi lo y s X R hs (uh HRy).1 (uh HRy).2 hy1)
 clear HRy
 rw [← uh HX] at nq
 have eY := wrap_shl y s
 have eC := wrap_shl lo s
 have eO : bits .or .u64 (IntKind.u64.wrap ((hi : Int) * 2 ^ s)) ((lo : Int) / 2 ^ (64 - s)) = ((hi * 2 ^ s + lo / 2 ^ (64 - s) : Nat) : Int) := by
  rw [wrap_shl, Nat.mod_eq_of_lt nh, shr_nat, bits_or_u64_nat _ _ nh (Nat.lt_of_le_of_lt (Nat.div_le_self _ _) hl), nor]
 rw [Nat.mod_eq_of_lt hy1] at eY
 have hc : lo * 2 ^ s % 18446744073709551616 < 18446744073709551616 := Nat.mod_lt _ (by decide)
 obtain ⟨Y, hY⟩ : ∃ Y, Y = y * 2 ^ s := ⟨_, rfl⟩
 obtain ⟨u, hu⟩ : ∃ u, u = hi * 2 ^ s + lo / 2 ^ (64 - s) := ⟨_, rfl⟩
 obtain ⟨c, hcc⟩ : ∃ c, c = lo * 2 ^ s % 18446744073709551616 := ⟨_, rfl⟩
 replace HR := uh HR
 rw [← hY] at eY nu nq hy1 hy2 HR
 rw [← hu] at eO nu nq HR
 rw [← hcc] at eC nq hc HR
 replace HR := hide HR
 clear hY hu hcc nor nh HX
 have NQ := hide nq
 clear nq
 obtain ⟨v1, hv1⟩ : ∃ v1, v1 = Y / 4294967296 := ⟨_, rfl⟩
 obtain ⟨v0, hv0⟩ : ∃ v0, v0 = Y % 4294967296 := ⟨_, rfl⟩
 obtain ⟨d1, hd1⟩ : ∃ d1, d1 = c / 4294967296 := ⟨_, rfl⟩
 obtain ⟨d0, hd0⟩ : ∃ d0, d0 = c % 4294967296 := ⟨_, rfl⟩
 have e1 : (Y : Int) / 4294967296 = (v1 : Int) := by omega
 have e2 : bits .and .u64 (Y : Int) 4294967295 = (v0 : Int) := by rw [M.maskN Y hy1, hv0]
 have e3 : (c : Int) / 4294967296 = (d1 : Int) := by omega
 have e4 : bits .and .u64 (c : Int) 4294967295 = (d0 : Int) := by rw [M.maskN c hc, hd0]
 have bv1 : (2147483648 : Int) ≤ (v1 : Int) := by omega
 have bv2 : (v1 : Int) < 4294967296 := by omega
 have bv0 : v0 < 4294967296 := by omega
 have bd1 : d1 < 4294967296 := by omega
 have bd0 : d0 < 4294967296 := by omega
 have HY : Hid (Y = v1 * 4294967296 + v0) := hide (by omega)
 have HC : Hid (c = d1 * 4294967296 + d0) := hide (by omega)
 clear hv1 hv0 hd1 hd0 hhy hy hl h1
 obtain ⟨q0, r0, hg0, hr0, hq0, eq0, er0⟩ := guess_facts u d1 v1 v0 (by omega) (by omega) (by omega)
 have HG0 := hide hg0
 clear hg0
 go_wp2_with fail
 clear eq0 er0 eY eO eC e1 e2 e3 e4 t1 t2 t3 hy2
 go_loop [15, 16] (fun a b => ∃ q r : Nat, a = .int .u64 q ∧ b = .int .u64 r ∧ r < 4294967296 ∧ q < 18446744073709551616 ∧ Hid (Kn.Guess u d1 v1 v0 q r)) (fun a _ => (intOf a).toNat)
 case atStart => exact ⟨q0, r0, rfl, rfl, by omega, by omega, HG0⟩
 case round =>
  obtain ⟨q, r, rfl, rfl, hr, hq, HG1⟩ := hrel
  clear HG0 hr0 hq0
  by_cases hq1 : (4294967296 : Int) ≤ (q : Int)
  ·have HN := hide (more (uh HG1) (by rw [← uh HY]; exact nu) (by omega) (by omega))
   clear HG1
   obtain ⟨p, hp⟩ : ∃ p : Nat, p = q - 1 := ⟨_, rfl⟩
   rw [← hp] at HN
   have ep : (q : Int) - 1 = (p : Int) := by omega
   have hpb : p < 18446744073709551616 := by omega
   clear hp
   by_cases hr1 : (4294967296 : Int) ≤ (r : Int) + (v1 : Int)
   ·have HP := hide (Kn.broke (uh HN) (by omega) (by rw [← uh HY]; exact nu) (by omega) (by omega))
    clear HN
    obtain ⟨pa, hpa⟩ : ∃ pa : Nat, pa = p := ⟨_, rfl⟩
    rw [← hpa] at ep
    rw [← hpa] at HP
    clear hpa
    obtain ⟨t, htY, hsum, hpl, eT⟩ := rest_facts u d1 v1 v0 Y pa (uh HY) hy1 nu (by omega) (uh HP)
    have HS := hide hsum
    have hpa2 : (pa : Int) < 4294967296 := by omega
    clear hsum HP hpl hpb
    obtain ⟨q0, r0, hg0, hr0, hq0, eq0, er0⟩ := guess_facts t d0 v1 v0 (by omega) (by omega) (by omega)
    have HG0 := hide hg0
    clear hg0
    go_wp2_with fail
    clear eq0 er0
    go_loop [18, 16] (fun a b => ∃ q r : Nat, a = .int .u64 q ∧ b = .int .u64 r ∧ r < 4294967296 ∧ q < 18446744073709551616 ∧ Hid (Kn.Guess t d0 v1 v0 q r)) (fun a _ => (intOf a).toNat)
    case atStart => exact ⟨q0, r0, rfl, rfl, by omega, by omega, HG0⟩
    case round =>
     obtain ⟨q, r, rfl, rfl, hr, hq, HG1⟩ := hrel
     clear HG0 hr0 hq0
     by_cases hq1 : (4294967296 : Int) ≤ (q : Int)
     ·have HN := hide (more (uh HG1) (by rw [← uh HY]; exact htY) (by omega) (by omega))
      clear HG1
      obtain ⟨p, hp⟩ : ∃ p : Nat, p = q - 1 := ⟨_, rfl⟩
      rw [← hp] at HN
      have ep : (q : Int) - 1 = (p : Int) := by omega
      have hpb : p < 18446744073709551616 := by omega
      clear hp
      by_cases hr1 : (4294967296 : Int) ≤ (r : Int) + (v1 : Int)
      ·have HP := hide (Kn.broke (uh HN) (by omega) (by rw [← uh HY]; exact htY) (by omega) (by omega))
       clear HN
       have e64 := Kn.whole u c Y pa t (by omega) (by rw [uh HS]; have := uh HC; omega)
       have HX2 : Hid (X = pa * 4294967296 + p) := hide (by
        rw [← uh NQ, e64, uh HP, ← uh HY]
        have : c % 4294967296 = d0 := by have := uh HC; omega
        rw [this])
       clear e64
       have hp2 : (p : Int) < 4294967296 := by
        have := Kn.digit_lt (u := t) (d := d0) (v1 := v1) (v0 := v0) (by rw [← uh HY]; exact htY) (by omega)
        rw [← uh HP] at this
        omega
       go_wp2
       go_ret2
       exact ⟨ret_pair (by have := uh HX2; omega) (rest_close (uh HR) (uh HX2) (uh HS) (uh HC)), 0, rfl⟩
      ·go_wp2_with fail
       go_round
       case rel => exact ⟨p, r + v1, rfl, by rw [Int.natCast_add], by omega, hpb, HN⟩
       case measure => simp [intOf]; omega
     ·obtain ⟨m, hm⟩ : ∃ m : Nat, m = q * v0 := ⟨_, rfl⟩
      have em : (q : Int) * (v0 : Int) = (m : Int) := by rw [hm, Int.natCast_mul]
      have bm : m ≤ 18446744065119617025 := by rw [hm]; exact prod_small (by omega) (by omega)
      have Hm := hide hm
      clear hm
      by_cases hp1 : 4294967296 * (r : Int) + (d0 : Int) < (m : Int)
      ·have HN := hide (Kn.next (uh HG1) (Kn.too_great (uh HG1) (by omega) (by rw [← uh Hm]; omega)))
       have hq0 : 0 < q := by
        rcases Nat.eq_zero_or_pos q with h | h
        ·have := uh Hm; rw [h, Nat.zero_mul] at this; omega
        ·exact h
       clear HG1
       obtain ⟨p, hp⟩ : ∃ p : Nat, p = q - 1 := ⟨_, rfl⟩
       rw [← hp] at HN
       have ep : (q : Int) - 1 = (p : Int) := by omega
       have hpb : p < 18446744073709551616 := by omega
       clear hp
       by_cases hr1 : (4294967296 : Int) ≤ (r : Int) + (v1 : Int)
       ·have HP := hide (Kn.broke (uh HN) (by omega) (by rw [← uh HY]; exact htY) (by omega) (by omega))
        clear HN
        have e64 := Kn.whole u c Y pa t (by omega) (by rw [uh HS]; have := uh HC; omega)
        have HX2 : Hid (X = pa * 4294967296 + p) := hide (by
         rw [← uh NQ, e64, uh HP, ← uh HY]
         have : c % 4294967296 = d0 := by have := uh HC; omega
         rw [this])
        clear e64
        have hp2 : (p : Int) < 4294967296 := by
         have := Kn.digit_lt (u := t) (d := d0) (v1 := v1) (v0 := v0) (by rw [← uh HY]; exact htY) (by omega)
         rw [← uh HP] at this
         omega
        go_wp2
        go_ret2
        exact ⟨ret_pair (by have := uh HX2; omega) (rest_close (uh HR) (uh HX2) (uh HS) (uh HC)), 0, rfl⟩
       ·go_wp2_with fail
        go_round
        case rel => exact ⟨p, r + v1, rfl, by rw [Int.natCast_add], by omega, hpb, HN⟩
        case measure => simp [intOf]; omega
      ·have HP := hide (Kn.done (uh HG1) (by omega) (by rw [← uh Hm]; omega))
       clear HG1
       have e64 := Kn.whole u c Y pa t (by omega) (by rw [uh HS]; have := uh HC; omega)
       have HX2 : Hid (X = pa * 4294967296 + q) := hide (by
        rw [← uh NQ, e64, uh HP, ← uh HY]
        have : c % 4294967296 = d0 := by have := uh HC; omega
        rw [this])
       clear e64
       have hp2 : (q : Int) < 4294967296 := by
        have := Kn.digit_lt (u := t) (d := d0) (v1 := v1) (v0 := v0) (by rw [← uh HY]; exact htY) (by omega)
        rw [← uh HP] at this
        omega
       go_wp2
       go_ret2
       exact ⟨ret_pair (by have := uh HX2; omega) (rest_close (uh HR) (uh HX2) (uh HS) (uh HC)), 0, rfl⟩
   ·go_wp2_with fail
    go_round
    case rel => exact ⟨p, r + v1, rfl, by rw [Int.natCast_add], by omega, hpb, HN⟩
    case measure => simp [intOf]; omega
  ·obtain ⟨m, hm⟩ : ∃ m : Nat, m = q * v0 := ⟨_, rfl⟩
   have em : (q : Int) * (v0 : Int) = (m : Int) := by rw [hm, Int.natCast_mul]
   have bm : m ≤ 18446744065119617025 := by rw [hm]; exact prod_small (by omega) (by omega)
   have Hm := hide hm
   clear hm
   by_cases hp1 : 4294967296 * (r : Int) + (d1 : Int) < (m : Int)
   ·have HN := hide (Kn.next (uh HG1) (Kn.too_great (uh HG1) (by omega) (by rw [← uh Hm]; omega)))
    have hq0 : 0 < q := by
     rcases Nat.eq_zero_or_pos q with h | h
     ·have := uh Hm; rw [h, Nat.zero_mul] at this; omega
     ·exact h
    clear HG1
    obtain ⟨p, hp⟩ : ∃ p : Nat, p = q - 1 := ⟨_, rfl⟩
    rw [← hp] at HN
    have ep : (q : Int) - 1 = (p : Int) := by omega
    have hpb : p < 18446744073709551616 := by omega
    clear hp
    by_cases hr1 : (4294967296 : Int) ≤ (r : Int) + (v1 : Int)
    ·have HP := hide (Kn.broke (uh HN) (by omega) (by rw [← uh HY]; exact nu) (by omega) (by omega))
     clear HN
     obtain ⟨pa, hpa⟩ : ∃ pa : Nat, pa = p := ⟨_, rfl⟩
     rw [← hpa] at ep
     rw [← hpa] at HP
     clear hpa
     obtain ⟨t, htY, hsum, hpl, eT⟩ := rest_facts u d1 v1 v0 Y pa (uh HY) hy1 nu (by omega) (uh HP)
     have HS := hide hsum
     have hpa2 : (pa : Int) < 4294967296 := by omega
     clear hsum HP hpl hpb
     obtain ⟨q0, r0, hg0, hr0, hq0, eq0, er0⟩ := guess_facts t d0 v1 v0 (by omega) (by omega) (by omega)
     have HG0 := hide hg0
     clear hg0
     go_wp2_with fail
     clear eq0 er0
     go_loop [18, 16] (fun a b => ∃ q r : Nat, a = .int .u64 q ∧ b = .int .u64 r ∧ r < 4294967296 ∧ q < 18446744073709551616 ∧ Hid (Kn.Guess t d0 v1 v0 q r)) (fun a _ => (intOf a).toNat)
     case atStart => exact ⟨q0, r0, rfl, rfl, by omega, by omega, HG0⟩
     case round =>
      obtain ⟨q, r, rfl, rfl, hr, hq, HG1⟩ := hrel
      clear HG0 hr0 hq0
      by_cases hq1 : (4294967296 : Int) ≤ (q : Int)
      ·have HN := hide (more (uh HG1) (by rw [← uh HY]; exact htY) (by omega) (by omega))
       clear HG1
       obtain ⟨p, hp⟩ : ∃ p : Nat, p = q - 1 := ⟨_, rfl⟩
       rw [← hp] at HN
       have ep : (q : Int) - 1 = (p : Int) := by omega
       have hpb : p < 18446744073709551616 := by omega
       clear hp
       by_cases hr1 : (4294967296 : Int) ≤ (r : Int) + (v1 : Int)
       ·have HP := hide (Kn.broke (uh HN) (by omega) (by rw [← uh HY]; exact htY) (by omega) (by omega))
        clear HN
        have e64 := Kn.whole u c Y pa t (by omega) (by rw [uh HS]; have := uh HC; omega)
        have HX2 : Hid (X = pa * 4294967296 + p) := hide (by
         rw [← uh NQ, e64, uh HP, ← uh HY]
         have : c % 4294967296 = d0 := by have := uh HC; omega
         rw [this])
        clear e64
        have hp2 : (p : Int) < 4294967296 := by
         have := Kn.digit_lt (u := t) (d := d0) (v1 := v1) (v0 := v0) (by rw [← uh HY]; exact htY) (by omega)
         rw [← uh HP] at this
         omega
        go_wp2
        go_ret2
        exact ⟨ret_pair (by have := uh HX2; omega) (rest_close (uh HR) (uh HX2) (uh HS) (uh HC)), 0, rfl⟩
       ·go_wp2_with fail
        go_round
        case rel => exact ⟨p, r + v1, rfl, by rw [Int.natCast_add], by omega, hpb, HN⟩
        case measure => simp [intOf]; omega
      ·obtain ⟨m, hm⟩ : ∃ m : Nat, m = q * v0 := ⟨_, rfl⟩
       have em : (q : Int) * (v0 : Int) = (m : Int) := by rw [hm, Int.natCast_mul]
       have bm : m ≤ 18446744065119617025 := by rw [hm]; exact prod_small (by omega) (by omega)
       have Hm := hide hm
       clear hm
       by_cases hp1 : 4294967296 * (r : Int) + (d0 : Int) < (m : Int)
       ·have HN := hide (Kn.next (uh HG1) (Kn.too_great (uh HG1) (by omega) (by rw [← uh Hm]; omega)))
        have hq0 : 0 < q := by
         rcases Nat.eq_zero_or_pos q with h | h
         ·have := uh Hm; rw [h, Nat.zero_mul] at this; omega
         ·exact h
        clear HG1
        obtain ⟨p, hp⟩ : ∃ p : Nat, p = q - 1 := ⟨_, rfl⟩
        rw [← hp] at HN
        have ep : (q : Int) - 1 = (p : Int) := by omega
        have hpb : p < 18446744073709551616 := by omega
        clear hp
        by_cases hr1 : (4294967296 : Int) ≤ (r : Int) + (v1 : Int)
        ·have HP := hide (Kn.broke (uh HN) (by omega) (by rw [← uh HY]; exact htY) (by omega) (by omega))
         clear HN
         have e64 := Kn.whole u c Y pa t (by omega) (by rw [uh HS]; have := uh HC; omega)
         have HX2 : Hid (X = pa * 4294967296 + p) := hide (by
          rw [← uh NQ, e64, uh HP, ← uh HY]
          have : c % 4294967296 = d0 := by have := uh HC; omega
          rw [this])
         clear e64
         have hp2 : (p : Int) < 4294967296 := by
          have := Kn.digit_lt (u := t) (d := d0) (v1 := v1) (v0 := v0) (by rw [← uh HY]; exact htY) (by omega)
          rw [← uh HP] at this
          omega
         go_wp2
         go_ret2
         exact ⟨ret_pair (by have := uh HX2; omega) (rest_close (uh HR) (uh HX2) (uh HS) (uh HC)), 0, rfl⟩
        ·go_wp2_with fail
         go_round
         case rel => exact ⟨p, r + v1, rfl, by rw [Int.natCast_add], by omega, hpb, HN⟩
         case measure => simp [intOf]; omega
       ·have HP := hide (Kn.done (uh HG1) (by omega) (by rw [← uh Hm]; omega))
        clear HG1
        have e64 := Kn.whole u c Y pa t (by omega) (by rw [uh HS]; have := uh HC; omega)
        have HX2 : Hid (X = pa * 4294967296 + q) := hide (by
         rw [← uh NQ, e64, uh HP, ← uh HY]
         have : c % 4294967296 = d0 := by have := uh HC; omega
         rw [this])
        clear e64
        have hp2 : (q : Int) < 4294967296 := by
         have := Kn.digit_lt (u := t) (d := d0) (v1 := v1) (v0 := v0) (by rw [← uh HY]; exact htY) (by omega)
         rw [← uh HP] at this
         omega
        go_wp2
        go_ret2
        exact ⟨ret_pair (by have := uh HX2; omega) (rest_close (uh HR) (uh HX2) (uh HS) (uh HC)), 0, rfl⟩
    ·go_wp2_with fail
     go_round
     case rel => exact ⟨p, r + v1, rfl, by rw [Int.natCast_add], by omega, hpb, HN⟩
     case measure => simp [intOf]; omega
   ·have HP := hide (Kn.done (uh HG1) (by omega) (by rw [← uh Hm]; omega))
    clear HG1
    generalize q = pa at *
    obtain ⟨t, htY, hsum, hpl, eT⟩ := rest_facts u d1 v1 v0 Y pa (uh HY) hy1 nu (by omega) (uh HP)
    have HS := hide hsum
    have hpa2 : (pa : Int) < 4294967296 := by omega
    clear hsum HP hpl
    obtain ⟨q0, r0, hg0, hr0, hq0, eq0, er0⟩ := guess_facts t d0 v1 v0 (by omega) (by omega) (by omega)
    have HG0 := hide hg0
    clear hg0
    go_wp2_with fail
    clear eq0 er0
    go_loop [18, 16] (fun a b => ∃ q r : Nat, a = .int .u64 q ∧ b = .int .u64 r ∧ r < 4294967296 ∧ q < 18446744073709551616 ∧ Hid (Kn.Guess t d0 v1 v0 q r)) (fun a _ => (intOf a).toNat)
    case atStart => exact ⟨q0, r0, rfl, rfl, by omega, by omega, HG0⟩
    case round =>
     obtain ⟨q, r, rfl, rfl, hr, hq, HG1⟩ := hrel
     clear HG0 hr0 hq0
     by_cases hq1 : (4294967296 : Int) ≤ (q : Int)
     ·have HN := hide (more (uh HG1) (by rw [← uh HY]; exact htY) (by omega) (by omega))
      clear HG1
      obtain ⟨p, hp⟩ : ∃ p : Nat, p = q - 1 := ⟨_, rfl⟩
      rw [← hp] at HN
      have ep : (q : Int) - 1 = (p : Int) := by omega
      have hpb : p < 18446744073709551616 := by omega
      clear hp
      by_cases hr1 : (4294967296 : Int) ≤ (r : Int) + (v1 : Int)
      ·have HP := hide (Kn.broke (uh HN) (by omega) (by rw [← uh HY]; exact htY) (by omega) (by omega))
       clear HN
       have e64 := Kn.whole u c Y pa t (by omega) (by rw [uh HS]; have := uh HC; omega)
       have HX2 : Hid (X = pa * 4294967296 + p) := hide (by
        rw [← uh NQ, e64, uh HP, ← uh HY]
        have : c % 4294967296 = d0 := by have := uh HC; omega
        rw [this])
       clear e64
       have hp2 : (p : Int) < 4294967296 := by
        have := Kn.digit_lt (u := t) (d := d0) (v1 := v1) (v0 := v0) (by rw [← uh HY]; exact htY) (by omega)
        rw [← uh HP] at this
        omega
       go_wp2
       go_ret2
       exact ⟨ret_pair (by have := uh HX2; omega) (rest_close (uh HR) (uh HX2) (uh HS) (uh HC)), 0, rfl⟩
      ·go_wp2_with fail
       go_round
       case rel => exact ⟨p, r + v1, rfl, by rw [Int.natCast_add], by omega, hpb, HN⟩
       case measure => simp [intOf]; omega
     ·obtain ⟨m, hm⟩ : ∃ m : Nat, m = q * v0 := ⟨_, rfl⟩
      have em : (q : Int) * (v0 : Int) = (m : Int) := by rw [hm, Int.natCast_mul]
      have bm : m ≤ 18446744065119617025 := by rw [hm]; exact prod_small (by omega) (by omega)
      have Hm := hide hm
      clear hm
      by_cases hp1 : 4294967296 * (r : Int) + (d0 : Int) < (m : Int)
      ·have HN := hide (Kn.next (uh HG1) (Kn.too_great (uh HG1) (by omega) (by rw [← uh Hm]; omega)))
       have hq0 : 0 < q := by
        rcases Nat.eq_zero_or_pos q with h | h
        ·have := uh Hm; rw [h, Nat.zero_mul] at this; omega
        ·exact h
       clear HG1
       obtain ⟨p, hp⟩ : ∃ p : Nat, p = q - 1 := ⟨_, rfl⟩
       rw [← hp] at HN
       have ep : (q : Int) - 1 = (p : Int) := by omega
       have hpb : p < 18446744073709551616 := by omega
       clear hp
       by_cases hr1 : (4294967296 : Int) ≤ (r : Int) + (v1 : Int)
       ·have HP := hide (Kn.broke (uh HN) (by omega) (by rw [← uh HY]; exact htY) (by omega) (by omega))
        clear HN
        have e64 := Kn.whole u c Y pa t (by omega) (by rw [uh HS]; have := uh HC; omega)
        have HX2 : Hid (X = pa * 4294967296 + p) := hide (by
         rw [← uh NQ, e64, uh HP, ← uh HY]
         have : c % 4294967296 = d0 := by have := uh HC; omega
         rw [this])
        clear e64
        have hp2 : (p : Int) < 4294967296 := by
         have := Kn.digit_lt (u := t) (d := d0) (v1 := v1) (v0 := v0) (by rw [← uh HY]; exact htY) (by omega)
         rw [← uh HP] at this
         omega
        go_wp2
        go_ret2
        exact ⟨ret_pair (by have := uh HX2; omega) (rest_close (uh HR) (uh HX2) (uh HS) (uh HC)), 0, rfl⟩
       ·go_wp2_with fail
        go_round
        case rel => exact ⟨p, r + v1, rfl, by rw [Int.natCast_add], by omega, hpb, HN⟩
        case measure => simp [intOf]; omega
      ·have HP := hide (Kn.done (uh HG1) (by omega) (by rw [← uh Hm]; omega))
       clear HG1
       have e64 := Kn.whole u c Y pa t (by omega) (by rw [uh HS]; have := uh HC; omega)
       have HX2 : Hid (X = pa * 4294967296 + q) := hide (by
        rw [← uh NQ, e64, uh HP, ← uh HY]
        have : c % 4294967296 = d0 := by have := uh HC; omega
        rw [this])
       clear e64
       have hp2 : (q : Int) < 4294967296 := by
        have := Kn.digit_lt (u := t) (d := d0) (v1 := v1) (v0 := v0) (by rw [← uh HY]; exact htY) (by omega)
        rw [← uh HP] at this
        omega
       go_wp2
       go_ret2
       exact ⟨ret_pair (by have := uh HX2; omega) (rest_close (uh HR) (uh HX2) (uh HS) (uh HC)), 0, rfl⟩
end Go.Proofs.Ytpeoabopeihadaa
