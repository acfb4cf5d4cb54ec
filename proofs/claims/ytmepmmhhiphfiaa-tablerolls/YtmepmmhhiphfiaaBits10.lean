/- The reference's small. -/
import Derived.Test.YtmepmmhhiphfiaaBits9
namespace Go.Proofs.Ytmepmmhhiphfiaa
open Go.RowKit
set_option linter.unusedSimpArgs false
theorem bv_tl (k v : Nat) : (bv zb).toList.set k (.int .u8 v) = (bv (upd zb k v)).toList := by
  rw [← bv_set (f := zb) (k := k) (v := v), Array.toList_setIfInBounds]
/-- A new variable of bits, filled at once. -/
theorem bits_start (v : World) (g : Nat → Nat) : ∃ V : World, (storeCells ⟨v.heap.size, 0, none⟩ (bv g).toList).run Try.prog (v.alloc (.cells (bv zb) 82)) = .ok () V ∧ Row V v.heap.size g ∧ Below v.heap.size v V ∧ V.heap.size = v.heap.size + 1 := by
  have r := Row.new v zb
  have b := (Below.refl v.heap.size v).alloc (Nat.le_refl _) (.cells (bv zb) 82)
  have hs : (v.alloc (.cells (bv zb) 82)).heap.size = v.heap.size + 1 := by simp
  generalize v.alloc (.cells (bv zb) 82) = V at *
  exact ⟨_, store54c g r, r.put g, below_put b (Nat.le_refl _) _, by rw [setRow_size, hs]⟩
theorem lim_bit (k : Nat) : Bit (upd zb k 1) := bit_upd (fun _ => by simp [zb]) (by omega)
theorem val_lim {k : Nat} (hk : k < 260) : val (upd zb k 1) 260 = P2 k := by
  rw [val_put (f := zb) rfl hk, val_zb]
  omega
theorem P2_63 : P2 63 = 9223372036854775808 := by decide +kernel
theorem bv_tl1 (k : Nat) : (bv zb).toList.set k (.int .u8 1) = (bv (upd zb k 1)).toList := bv_tl k 1
theorem P2_npow : ∀ m, P2 m = 2 ^ m
  | 0 => rfl
  | m + 1 => by rw [P2_succ, P2_npow m, Nat.pow_succ]
theorem val_64 {f : Nat → Nat} (h : val f 260 < 18446744073709551616) : val f 64 = val f 260 := by
  have e := val_split f 64 196
  rw [show 64 + 196 = 260 from rfl, P2_64] at e
  have : val (fun j => f (64 + j)) 196 = 0 := by
    rcases Nat.eq_zero_or_pos (val (fun j => f (64 + j)) 196) with z | z
    · exact z
    · omega
  rw [this] at e
  omega
theorem or_bit {f : Nat → Nat} (hf : Bit f) {k : Nat} (hk : k < 64) : bits .or .u64 ((val f k : Nat) : Int) (IntKind.u64.wrap ((f k : Int) * 2 ^ k)) = ((val f (k + 1) : Nat) : Int) := by
  show _ = ((val f k + f k * P2 k : Nat) : Int)
  have hv := val_lt hf k
  have h1 := hf k
  have hm := P2_mono k (64 - k)
  have hm2 := P2_mono (k + 1) (64 - (k + 1))
  rw [show k + (64 - k) = 64 by omega, P2_64] at hm
  rw [show k + 1 + (64 - (k + 1)) = 64 by omega, P2_64, P2_succ] at hm2
  rw [← P2_pow k]
  generalize f k = b at *
  have hw : IntKind.u64.wrap ((b : Int) * (P2 k : Int)) = ((b * P2 k : Nat) : Int) := by
    rw [IntKind.wrap_u64, ← Int.natCast_mul]
    rcases (show b = 0 ∨ b = 1 by omega) with rfl | rfl <;> omega
  rw [hw]
  show IntKind.u64.wrap ((BitVec.ofInt 64 ((val f k : Nat) : Int) ||| BitVec.ofInt 64 ((b * P2 k : Nat) : Int)).toNat : Int) = _
  rw [BitVec.ofInt_natCast, BitVec.ofInt_natCast, BitVec.toNat_or, BitVec.toNat_ofNat, BitVec.toNat_ofNat, IntKind.wrap_u64, Nat.mod_eq_of_lt (a := val f k) (by omega)]
  rcases (show b = 0 ∨ b = 1 by omega) with rfl | rfl
  · rw [Nat.zero_mul, Nat.zero_mod, Nat.or_zero]
    omega
  · rw [Nat.one_mul, Nat.mod_eq_of_lt (by omega), P2_npow k, Nat.or_comm]
    have := Nat.two_pow_add_eq_or_of_lt (i := k) (b := val f k) (by rw [← P2_npow]; exact hv) 1
    rw [Nat.mul_one] at this
    rw [← this, ← P2_npow]
    omega
end Go.Proofs.Ytmepmmhhiphfiaa
