/- What math/bits' Len64 and LeadingZeros64 answer. -/
import Derived.Test.YtmepmmhhiphfiaaMul
import Derived.Lib.Tables
namespace Go.Proofs.Ytmepmmhhiphfiaa
open Go.RowKit
theorem len8_fin : ∀ y : Fin 256, 0 < y.val → ∃ l : Fin 9, Lib.len8 (y.val : Int) = (l.val : Int) ∧ 1 ≤ l.val ∧ y.val < 2 ^ l.val ∧ 2 ^ (l.val - 1) ≤ y.val := by decide +kernel
theorem len8_of (y : Nat) (h0 : 0 < y) (h : y < 256) : ∃ l : Nat, Lib.len8 (y : Int) = (l : Int) ∧ 1 ≤ l ∧ l ≤ 8 ∧ y < 2 ^ l ∧ 2 ^ (l - 1) ≤ y := by
  obtain ⟨l, h1, h2, h3, h4⟩ := len8_fin ⟨y, h⟩ h0
  exact ⟨l.val, h1, h2, by omega, h3, h4⟩
/-- The number of bits: n with 2^(n-1) ≤ x < 2^n. -/
def IsLen (x n : Nat) : Prop := 1 ≤ n ∧ n ≤ 64 ∧ x < 2 ^ n ∧ 2 ^ (n - 1) ≤ x
theorem isLen_shift {x y l k : Nat} (hy : y = x / 2 ^ k) (h1 : 1 ≤ l) (hl : l ≤ 8) (hk : k ≤ 56) (h2 : y < 2 ^ l) (h3 : 2 ^ (l - 1) ≤ y) : IsLen x (k + l) := by
  have hp : 0 < 2 ^ k := Nat.two_pow_pos k
  refine ⟨by omega, by omega, ?_, ?_⟩
  · rw [Nat.pow_add, Nat.mul_comm]
    exact (Nat.div_lt_iff_lt_mul hp).1 (by rw [← hy]; exact h2)
  · rw [show k + l - 1 = (l - 1) + k from by omega, Nat.pow_add]
    exact (Nat.le_div_iff_mul_le hp).1 (by rw [← hy]; exact h3)
theorem len8_get (y : Nat) (h : y < Lib.len8tab.size) : ((Lib.len8tab[y]'h).toNat : Int) = Lib.len8 (y : Int) := by
  unfold Lib.len8
  simp only [Int.toNat_natCast, getElem?_pos Lib.len8tab y h, Option.getD_some]
theorem wrap_small (k l : Nat) (hk : k ≤ 56) (hl : l ≤ 8) : wrap64 ((k : Int) + wrap64 (l : Int)) = ((k + l : Nat) : Int) := by
  unfold wrap64
  omega
theorem way_close (x y : Nat) (k : Nat) (hk : k ≤ 56) (hy0 : 0 < y) (hy1 : y < 256) (hxy : y = x / 2 ^ k) (h : y < Lib.len8tab.size) :
    ∃ m : Nat, wrap64 ((k : Int) + wrap64 ((Lib.len8tab[y]'h).toNat : Int)) = m ∧ IsLen x m := by
  obtain ⟨l, h1, h2, h3, h4, h5⟩ := len8_of y hy0 hy1
  exact ⟨k + l, by rw [len8_get, h1, wrap_small k l hk h3], isLen_shift hxy h2 h3 hk h4 h5⟩
theorem way_close0 (x : Nat) (hy0 : 0 < x) (hy1 : x < 256) (h : x < Lib.len8tab.size) :
    ∃ m : Nat, wrap64 (wrap64 ((Lib.len8tab[x]'h).toNat : Int)) = m ∧ IsLen x m := by
  have := way_close x x 0 (by omega) hy0 hy1 (by simp) h
  rw [show ((0 : Nat) : Int) = 0 from rfl, Int.zero_add] at this
  exact this
set_option maxHeartbeats 1000000 in
set_option maxRecDepth 1000000 in
theorem len64_any (x : Int) (hx0 : 0 < x) (hx : x ≤ 18446744073709551615) (w : World) :
    Calls Try.prog 63 #[.int .u64 x] w fun e w' => (∃ m : Nat, e = .returned (.int .i64 m) ∧ IsLen x.toNat m) ∧ w = w' := by
  have hs : ((Lib.len8tab.size : Nat) : Int) = 256 := by rw [Lib.len8tab_size]; rfl
  go_enter Try.func63, Try.ntmps63
  go_wp2
  · go_ret
    obtain ⟨m, hm, hl⟩ := way_close x.toNat (x / 4294967296 / 65536 / 256).toNat 56 (by omega) (by omega) (by omega) (by omega) (by rw [Lib.len8tab_size]; omega)
    exact ⟨⟨m, by rw [← hm]; rfl, hl⟩, rfl⟩
  · go_ret
    obtain ⟨m, hm, hl⟩ := way_close x.toNat (x / 4294967296 / 65536).toNat 48 (by omega) (by omega) (by omega) (by omega) (by rw [Lib.len8tab_size]; omega)
    exact ⟨⟨m, by rw [← hm]; rfl, hl⟩, rfl⟩
  · go_ret
    obtain ⟨m, hm, hl⟩ := way_close x.toNat (x / 4294967296 / 256).toNat 40 (by omega) (by omega) (by omega) (by omega) (by rw [Lib.len8tab_size]; omega)
    exact ⟨⟨m, by rw [← hm]; rfl, hl⟩, rfl⟩
  · go_ret
    obtain ⟨m, hm, hl⟩ := way_close x.toNat (x / 4294967296).toNat 32 (by omega) (by omega) (by omega) (by omega) (by rw [Lib.len8tab_size]; omega)
    exact ⟨⟨m, by rw [← hm]; rfl, hl⟩, rfl⟩
  · go_ret
    obtain ⟨m, hm, hl⟩ := way_close x.toNat (x / 65536 / 256).toNat 24 (by omega) (by omega) (by omega) (by omega) (by rw [Lib.len8tab_size]; omega)
    exact ⟨⟨m, by rw [← hm]; rfl, hl⟩, rfl⟩
  · go_ret
    obtain ⟨m, hm, hl⟩ := way_close x.toNat (x / 65536).toNat 16 (by omega) (by omega) (by omega) (by omega) (by rw [Lib.len8tab_size]; omega)
    exact ⟨⟨m, by rw [← hm]; rfl, hl⟩, rfl⟩
  · go_ret
    obtain ⟨m, hm, hl⟩ := way_close x.toNat (x / 256).toNat 8 (by omega) (by omega) (by omega) (by omega) (by rw [Lib.len8tab_size]; omega)
    exact ⟨⟨m, by rw [← hm]; rfl, hl⟩, rfl⟩
  · go_ret
    obtain ⟨m, hm, hl⟩ := way_close0 x.toNat (by omega) (by omega) (by rw [Lib.len8tab_size]; omega)
    exact ⟨⟨m, by rw [← hm]; rfl, hl⟩, rfl⟩
end Go.Proofs.Ytmepmmhhiphfiaa
