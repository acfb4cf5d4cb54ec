/- Rows together, column by column (plain). -/
import Derived.Test.YtkccladbcehdbaaNu
import Derived.Test.YtkccladbcehdbaaMRSum
namespace Go.Proofs.Ytkccladbcehdbaa
open Go.RowKit
set_option linter.unusedVariables false
set_option linter.unusedSimpArgs false
/-- The column k of a row; the sums of three rows' columns. -/
def colR (r : Rw) (k : Nat) : Int := match k with
  | 0 => r.o
  | 1 => r.i
  | 2 => r.u
  | 3 => r.n
  | 4 => r.x
  | _ => r.z
def sumC (r s t : Rw) (k : Nat) : Int := colR r k + colR s k + colR t k
def okC3 (r s t : Rw) : Nat → Bool
  | 0 => true
  | k + 1 => okC3 r s t k && decide (turn (sumC r s t k) = 0)
def netR (r s t : Rw) : Rw := ⟨sumC r s t 0, sumC r s t 1, sumC r s t 2, sumC r s t 3, sumC r s t 4, sumC r s t 5⟩
def netV (r s t : Rw) : Rw := if okC3 r s t 6 = true then netR r s t else rw0
def netE (r s t : Rw) : Int := if okC3 r s t 6 = true then 0 else 3
/-- The sums so far. -/
def upto (r s t : Rw) (k : Nat) : Rw := ⟨if 0 < k then sumC r s t 0 else 0, if 1 < k then sumC r s t 1 else 0, if 2 < k then sumC r s t 2 else 0, if 3 < k then sumC r s t 3 else 0, if 4 < k then sumC r s t 4 else 0, if 5 < k then sumC r s t 5 else 0⟩
theorem upto_all (r s t : Rw) : upto r s t 6 = netR r s t := rfl
theorem upto_none (r s t : Rw) : upto r s t 0 = rw0 := rfl
structure RwI6 (r : Rw) : Prop where
  c : ∀ k, In64 (colR r k)
theorem okC3_next {r s t : Rw} {k : Nat} (h : okC3 r s t k = true) (h1 : turn (sumC r s t k) = 0) : okC3 r s t (k + 1) = true := by rw [okC3, h, decide_eq_true h1]; rfl
theorem okC3_bad {r s t : Rw} {k : Nat} (hk : k < 6) (h1 : ¬ turn (sumC r s t k) = 0) : okC3 r s t 6 = false := by
  cases hb : okC3 r s t 6 with
  | false => rfl
  | true =>
    exfalso
    simp only [okC3, Bool.and_eq_true, decide_eq_true_eq] at hb
    obtain ⟨⟨⟨⟨⟨⟨_, a0⟩, a1⟩, a2⟩, a3⟩, a4⟩, a5⟩ := hb
    match k, hk with
    | 0, _ => exact h1 a0
    | 1, _ => exact h1 a1
    | 2, _ => exact h1 a2
    | 3, _ => exact h1 a3
    | 4, _ => exact h1 a4
    | 5, _ => exact h1 a5
theorem col_cell {w : World} {b : Nat} {r : Rw} {T : TypeId} (h : Blk w b (cells6 r) T) {k : Nat} (hk : k < 6) : w.cell? ⟨b, k, none⟩ = some (.int .i64 (colR r k)) := by
  match k, hk with
  | 0, _ => exact h.at 0 _ rfl
  | 1, _ => exact h.at 1 _ rfl
  | 2, _ => exact h.at 2 _ rfl
  | 3, _ => exact h.at 3 _ rfl
  | 4, _ => exact h.at 4 _ rfl
  | 5, _ => exact h.at 5 _ rfl
theorem upto_put (r s t : Rw) {k : Nat} (hk : k < 6) : setsN (cells6 (upto r s t k)) k [.int .i64 (sumC r s t k)] = cells6 (upto r s t (k + 1)) := by
  match k, hk with
  | 0, _ => rfl
  | 1, _ => rfl
  | 2, _ => rfl
  | 3, _ => rfl
  | 4, _ => rfl
  | 5, _ => rfl
theorem row3 {w : World} {b : Nat} {x y z : Int} (h : Blk w b #[.int .i64 x, .int .i64 y, .int .i64 z] 2) (hx : In64 x) (hy : In64 y) (hz : In64 z) : Mn.Row w (.slice (some ⟨b, 0, none⟩) 3 3) [x, y, z] := by
  refine Or.inr ⟨b, 0, 3, rfl, by simp, by simp [maxLen], fun j hj => ?_, fun u hu => by simp at hu; rcases hu with rfl | rfl | rfl <;> assumption⟩
  rw [Nat.zero_add]
  have hj' : j < 3 := hj
  match j, hj' with
  | 0, _ => exact h.at 0 _ rfl
  | 1, _ => exact h.at 1 _ rfl
  | 2, _ => exact h.at 2 _ rfl
theorem total3 (x y z : Int) : Mn.total [x, y, z] = x + y + z := by simp [Mn.total]; omega
end Go.Proofs.Ytkccladbcehdbaa
