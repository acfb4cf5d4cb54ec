/- Plain: numbers out of bytes, by and by. -/
import Derived.Test.YtfahgphkceilkaaBy
import Derived.Test.YtfahgphkceilkaaBp
import Derived.Laws.BitsAllLaws
namespace Go.Proofs.Ytfahgphkceilkaa
open Go.RowKit
set_option linter.unusedVariables false
set_option linter.unusedSimpArgs false
theorem or_low (x c : Nat) (h : c < 256) : x * 256 ||| c = x * 256 + c := nat_join 8 (x * 256) c (by simp) (by simpa using h)
/-- The numbers by and by: the last i bytes' number. -/
theorem val_back (xs : List Nat) {i : Nat} (h : i < xs.length) : valB (xs.drop (xs.length - (i + 1))) = xs.getD (xs.length - 1 - i) 0 + 256 * valB (xs.drop (xs.length - i)) := by
  have e : xs.length - (i + 1) < xs.length := by omega
  rw [List.drop_eq_getElem_cons e, valB]
  congr 1
  · simp only [List.getD]
    rw [show xs.length - 1 - i = xs.length - (i + 1) by omega, List.getElem?_eq_getElem e]
    rfl
  · rw [show xs.length - (i + 1) + 1 = xs.length - i by omega]
theorem val_part {xs : List Nat} (hb : Bytes xs) (m : Nat) (hm : m ≤ xs.length) : valB (xs.drop (xs.length - m)) < 256 ^ m := by
  have := val_lt (l := xs.drop (xs.length - m)) (fun x hx => hb x (List.mem_of_mem_drop hx))
  rwa [List.length_drop, show xs.length - (xs.length - m) = m by omega] at this
theorem getD_lt {xs : List Nat} (hb : Bytes xs) (k : Nat) : xs.getD k 0 < 256 := by
  by_cases hk : k < xs.length
  · have : xs.getD k 0 = xs[k] := by simp [List.getD, hk]
    rw [this]; exact hb _ (List.getElem_mem hk)
  · have : xs.getD k 0 = 0 := by simp [List.getD, List.getElem?_eq_none (Nat.le_of_not_lt hk)]
    rw [this]; decide
theorem wrap_eq (n : Int) : wrap64 n = IntKind.i64.wrap n := by rw [IntKind.wrap_i64]; unfold wrap64; omega
theorem i64_or_low (x : Int) (c : Nat) (hc : c < 256) : bits .or .i64 (wrap64 (x * 256)) (c : Int) = wrap64 (x * 256 + c) := by
  rw [wrap_eq, wrap_eq]
  obtain ⟨X, hX, hX2⟩ : ∃ X : Nat, X * 256 < 18446744073709551616 ∧ (x * 256) % 18446744073709551616 = ((X * 256 : Nat) : Int) := ⟨((x * 256) % 18446744073709551616 / 256).toNat, by omega, by omega⟩
  have e1 : (BitVec.ofInt 64 (IntKind.i64.wrap (x * 256))).toNat = X * 256 := by
    rw [BitVec.toNat_ofInt, IntKind.wrap_i64]
    omega
  have e2 : (BitVec.ofInt 64 (c : Int)).toNat = c := by
    rw [BitVec.toNat_ofInt]
    omega
  have e3 : (BitVec.ofInt 64 (IntKind.i64.wrap (x * 256)) ||| BitVec.ofInt 64 (c : Int)).toNat = X * 256 + c := by
    rw [BitVec.toNat_or, e1, e2, or_low X c hc]
  show IntKind.i64.wrap ((BitVec.ofInt 64 (IntKind.i64.wrap (x * 256)) ||| BitVec.ofInt 64 (c : Int)).toNat : Int) = _
  rw [e3, IntKind.wrap_i64, IntKind.wrap_i64]
  omega
theorem u32_or_low (x c : Nat) (hc : c < 256) (hx : x * 256 < 4294967296) : bits .or .u32 ((x * 256 : Nat) : Int) (c : Int) = ((x * 256 + c : Nat) : Int) := by
  rw [u32_or_nat _ _ hx (by omega), or_low x c hc]
theorem rowB_cases {w : World} {v : Value} {xs : List Nat} (h : RowG 1 w v (bys xs)) : (∃ a cap, v = .slice a 0 cap ∧ xs = [] ∧ (a = none → cap = 0)) ∨ ∃ b off cap, v = .slice (some ⟨b, off, none⟩) xs.length cap ∧ 0 < xs.length ∧ xs.length ≤ cap ∧ cap ≤ maxLen ∧ ∀ j, j < xs.length → w.cell? ⟨b, off + j, none⟩ = some (.int .u8 (xs.getD j 0 : Nat)) := by
  have h' := h
  rcases h with ⟨a, cap, h1, h2, h3⟩ | ⟨b, off, cap, h1, h2, h3, h4, _⟩
  · exact Or.inl ⟨a, cap, h1, by simpa [bys] using h2, h3⟩
  · rw [bys_len] at h1 h2 h3
    subst h1
    exact Or.inr ⟨b, off, cap, rfl, h2, h3, h4, fun j hj => h'.by hj⟩
theorem par_step (z : Nat) (hz : z < 4294967296) : (z % 2 = 1 → bits .and .u32 (z : Int) 1 = 1 ∧ bits .xor .u32 ((z : Int) / 2) 3988292384 = (step z : Nat)) ∧ (¬ z % 2 = 1 → bits .and .u32 (z : Int) 1 = 0 ∧ bits .xor .u32 ((z : Int) / 2) 0 = (step z : Nat)) := by
  have e0 : bits .and .u32 (z : Int) 1 = ((z % 2 : Nat) : Int) := by
    have := u32_and_nat z 1 hz (by decide)
    rw [nat_mask1] at this
    exact this
  refine ⟨fun h => ⟨by rw [e0, h]; rfl, ?_⟩, fun h => ⟨by rw [e0, show z % 2 = 0 by omega]; rfl, ?_⟩⟩
  · have := u32_xor_nat (z / 2) 3988292384 (by omega) (by decide)
    rw [step, if_pos h, ← this]
    rfl
  · have := u32_xor_nat (z / 2) 0 (by omega) (by decide)
    rw [Nat.xor_zero] at this
    rw [step, if_neg h, ← this]
    rfl
theorem at_back {len k : Nat} (h : k < len) (hm : len ≤ 8) : IntKind.i64.wrap ((len : Int) - 1) = (len : Int) - 1 ∧ IntKind.i64.wrap ((len : Int) - 1 - (k : Int)) = ((len - 1 - k : Nat) : Int) := by
  have e : ((len - 1 - k : Nat) : Int) = (len : Int) - 1 - (k : Int) := by omega
  rw [e]
  exact ⟨wrap_in' ⟨by omega, by omega⟩, wrap_in' ⟨by omega, by omega⟩⟩
theorem up_i64 (z c : Nat) : wrap64 (wrap64 (z : Int) * 256 + (c : Int)) = wrap64 ((c + 256 * z : Nat) : Int) := by
  have e : ((c + 256 * z : Nat) : Int) = (c : Int) + 256 * (z : Int) := by omega
  rw [e]
  generalize (z : Int) = y
  generalize (c : Int) = d
  unfold wrap64
  omega
theorem sh_u32 {z : Nat} (h : z * 256 < 4294967296) : IntKind.u32.wrap ((z : Int) * 256) = ((z * 256 : Nat) : Int) := by rw [IntKind.wrap_u32]; omega
theorem crc_take (n : Nat) (xs : List Nat) {k : Nat} (h : k < xs.length) : crc n (xs.take (k + 1)) = steps 8 (crc n (xs.take k) ^^^ xs.getD k 0) := by
  rw [← take_getD (d := 0) h, crc_append, crc_one]
  rfl
end Go.Proofs.Ytfahgphkceilkaa
