/- A table's rows, in plain numbers. -/
import Derived.Test.YtmepmmhhiphfiaaRate
import Derived.Test.YtmepmmhhiphfiaaRowN
import Derived.Test.YtmepmmhhiphfiaaMSum
namespace Go.Proofs.Ytmepmmhhiphfiaa.Mn
open Go.RowKit
set_option linter.unusedSimpArgs false
/-- A period's interest: what begins is x, p is paid. -/
def tI (r : Int) (last : Bool) (x p : Int) : Int := if last = true then p - x else qI x r
def isLast (l : List Int) (k : Nat) : Bool := decide (k + 1 = l.length)
/-- What period k begins with. -/
def st (o r : Int) (l : List Int) : Nat → Int
  | 0 => o
  | k + 1 => st o r l k + tI r (isLast l k) (st o r l k) (l.getD k 0) - l.getD k 0
def inr (o r : Int) (l : List Int) (k : Nat) : Int := tI r (isLast l k) (st o r l k) (l.getD k 0)
theorem st_succ (o r : Int) (l : List Int) (k : Nat) : st o r l (k + 1) = st o r l k + inr o r l k - l.getD k 0 := rfl
def far (n : Int) : Prop := n < -4611686018427387904 ∨ 4611686018427387904 < n
def over (o r : Int) (l : List Int) (k : Nat) : Prop := ¬ In64 (inr o r l k) ∨ far (st o r l (k + 1))
def rowAt (o r : Int) (l : List Int) (k : Nat) : List Int := [st o r l k, inr o r l k, l.getD k 0, st o r l (k + 1)]
def rowsUp (o r : Int) (l : List Int) (n : Nat) : List (List Int) := (List.range n).map (rowAt o r l)
theorem rowsUp_len (o r : Int) (l : List Int) (n : Nat) : (rowsUp o r l n).length = n := by simp [rowsUp]
theorem rowsUp_succ (o r : Int) (l : List Int) (n : Nat) : rowsUp o r l (n + 1) = rowsUp o r l n ++ [rowAt o r l n] := by simp [rowsUp, List.range_succ]
theorem rowsUp_at {o r : Int} {l : List Int} {n j : Nat} (h : j < n) : (rowsUp o r l n).getD j [] = rowAt o r l j := by simp [rowsUp, List.getD, h]
theorem getN_rows {o r : Int} {l : List Int} {n j : Nat} (h : j < n) (t : Nat) : getN (rowsUp o r l n) j t = (rowAt o r l j).getD t 0 := by unfold getN; rw [rowsUp_at h]
def payB (p : Int) : Bool := decide (0 ≤ p) && decide (p ≤ 10000000000000)
theorem payB_iff {p : Int} : payB p = true ↔ 0 ≤ p ∧ p ≤ 10000000000000 := by simp [payB]
/-- What may be rolled. -/
structure RollOk (o : Int) (l : List Int) (r : Int) : Prop where
  o0 : 1 ≤ o
  o1 : o ≤ 10000000000000
  may : May r
  n0 : 0 < l.length
  n1 : l.length ≤ 600
  pay : ∀ p ∈ l, payB p = true
theorem RollOk.at {o : Int} {l : List Int} {r : Int} (h : RollOk o l r) (k : Nat) : 0 ≤ l.getD k 0 ∧ l.getD k 0 ≤ 10000000000000 := by
  by_cases hk : k < l.length
  · have : l.getD k 0 = l[k] := by simp [List.getD, hk]
    rw [this]
    exact payB_iff.1 (h.pay _ (List.getElem_mem hk))
  · have : l.getD k 0 = 0 := by simp [List.getD, List.getElem?_eq_none (Nat.le_of_not_lt hk)]
    rw [this]; omega
theorem RollOk.pin {o : Int} {l : List Int} {r : Int} (h : RollOk o l r) : ∀ p ∈ l, In64 p := fun p hp => by
  have := payB_iff.1 (h.pay p hp)
  exact ⟨by omega, by omega⟩
theorem st_bd {o : Int} {l : List Int} {r : Int} (h : RollOk o l r) : ∀ k, (∀ j, j < k → ¬ over o r l j) → -4611686018427387904 ≤ st o r l k ∧ st o r l k ≤ 4611686018427387904 := by
  intro k hk
  cases k with
  | zero =>
    have := h.o0
    have := h.o1
    show _ ≤ o ∧ o ≤ _
    omega
  | succ k =>
    have := hk k (Nat.lt_succ_self k)
    unfold over far at this
    omega
theorem inr_in {o : Int} {l : List Int} {r : Int} {k : Nat} (hk : ¬ over o r l k) : In64 (inr o r l k) := by
  by_cases h : In64 (inr o r l k)
  · exact h
  · exact absurd (Or.inl h) hk
theorem st_next {o : Int} {l : List Int} {r : Int} {k : Nat} (hk : ¬ over o r l k) : -4611686018427387904 ≤ st o r l (k + 1) ∧ st o r l (k + 1) ≤ 4611686018427387904 := by
  unfold over far at hk
  omega
theorem inr_last {o : Int} {l : List Int} {r : Int} {k : Nat} (hk : k + 1 = l.length) : inr o r l k = l.getD k 0 - st o r l k := by
  unfold inr tI isLast
  rw [if_pos (decide_eq_true hk)]
theorem inr_mid {o : Int} {l : List Int} {r : Int} {k : Nat} (hk : ¬ k + 1 = l.length) : inr o r l k = qI (st o r l k) r := by
  unfold inr tI isLast
  rw [if_neg (by simp [hk])]
theorem st_last {o : Int} {l : List Int} {r : Int} {k : Nat} (hk : k + 1 = l.length) : st o r l (k + 1) = 0 := by
  rw [st_succ, inr_last hk]; omega
theorem last_fine {o : Int} {l : List Int} {r : Int} (h : RollOk o l r) {k : Nat} (hk : k + 1 = l.length) (ho : ∀ j, j < k → ¬ over o r l j) : ¬ over o r l k := by
  have h1 := st_bd h k ho
  have h2 := h.at k
  rintro (c | c)
  · refine c ?_
    rw [inr_last hk]
    exact ⟨by omega, by omega⟩
  · rw [st_last hk] at c
    unfold far at c
    omega
theorem rowAt_in {o : Int} {l : List Int} {r : Int} (h : RollOk o l r) {k : Nat} (ho : ∀ j, j < k + 1 → ¬ over o r l j) : (rowAt o r l k).length = 4 ∧ ∀ y ∈ rowAt o r l k, In64 y := by
  refine ⟨rfl, fun y hy => ?_⟩
  have h1 := st_bd h k (fun j hj => ho j (by omega))
  have h2 := st_bd h (k + 1) ho
  have h3 := h.at k
  simp only [rowAt, List.mem_cons, List.not_mem_nil, or_false] at hy
  rcases hy with rfl | rfl | rfl | rfl
  · exact ⟨by omega, by omega⟩
  · exact inr_in (ho k (by omega))
  · exact ⟨by omega, by omega⟩
  · exact ⟨by omega, by omega⟩
theorem rows_small {o : Int} {l : List Int} {r : Int} (h : RollOk o l r) {n : Nat} (ho : ∀ j, j < n → ¬ over o r l j) : SmallN 4 (rowsUp o r l n) := by
  intro f hf
  obtain ⟨j, hj, rfl⟩ := List.mem_map.1 hf
  have := List.mem_range.1 hj
  exact rowAt_in h (fun i hi => ho i (by omega))
/-- What a table comes to: its rows, and the error. -/
def Res (o : Int) (l : List Int) (r : Int) (rows : List (List Int)) (e : Int) : Prop :=
  (e = 2 ∧ rows = [] ∧ ¬ RollOk o l r) ∨ (RollOk o l r ∧ ((e = 0 ∧ rows = rowsUp o r l l.length ∧ ∀ j, j < l.length → ¬ over o r l j) ∨ (e = 3 ∧ rows = [] ∧ ∃ j, j < l.length ∧ over o r l j)))
theorem res_ex (o : Int) (l : List Int) (r : Int) : ∃ rows e, Res o l r rows e := by
  by_cases h : RollOk o l r
  · by_cases h2 : ∃ j, j < l.length ∧ over o r l j
    · exact ⟨[], 3, Or.inr ⟨h, Or.inr ⟨rfl, rfl, h2⟩⟩⟩
    · exact ⟨_, 0, Or.inr ⟨h, Or.inl ⟨rfl, rfl, fun j hj c => h2 ⟨j, hj, c⟩⟩⟩⟩
  · exact ⟨[], 2, Or.inl ⟨rfl, rfl, h⟩⟩
theorem Res.len {o : Int} {l : List Int} {r : Int} {rows : List (List Int)} {e : Int} (h : Res o l r rows e) : rows.length ≤ 600 := by
  rcases h with ⟨_, rfl, _⟩ | ⟨hk, ⟨_, rfl, _⟩ | ⟨_, rfl, _⟩⟩
  · simp
  · rw [rowsUp_len]; exact hk.n1
  · simp
theorem Res.fine {o : Int} {l : List Int} {r : Int} {rows : List (List Int)} (h : Res o l r rows 0) : RollOk o l r ∧ rows = rowsUp o r l l.length ∧ ∀ j, j < l.length → ¬ over o r l j := by
  rcases h with ⟨h, _⟩ | ⟨hk, ⟨_, h1, h2⟩ | ⟨h, _⟩⟩
  · cases h
  · exact ⟨hk, h1, h2⟩
  · cases h
theorem Res.none {o : Int} {l : List Int} {r e : Int} {rows : List (List Int)} (h : Res o l r rows e) (he : e ≠ 0) : rows = [] := by
  rcases h with ⟨_, h, _⟩ | ⟨hk, ⟨h, _⟩ | ⟨_, h, _⟩⟩
  · exact h
  · exact absurd h he
  · exact h
theorem Res.one {o : Int} {l : List Int} {r e e' : Int} {rows rows' : List (List Int)} (h : Res o l r rows e) (h' : Res o l r rows' e') : e = e' ∧ rows = rows' := by
  rcases h with ⟨h1, h2, h3⟩ | ⟨h0, ⟨h1, h2, h3⟩ | ⟨h1, h2, j, h3, h4⟩⟩ <;> rcases h' with ⟨k1, k2, k3⟩ | ⟨k0, ⟨k1, k2, k3⟩ | ⟨k1, k2, i, k3, k4⟩⟩
  · exact ⟨by rw [h1, k1], by rw [h2, k2]⟩
  · exact absurd k0 h3
  · exact absurd k0 h3
  · exact absurd h0 k3
  · exact ⟨by rw [h1, k1], by rw [h2, k2]⟩
  · exact absurd k4 (h3 i k3)
  · exact absurd h0 k3
  · exact absurd h4 (k3 j h3)
  · exact ⟨by rw [h1, k1], by rw [h2, k2]⟩
/-- All interest is what is paid, less what it began with, and what it stands at. -/
theorem int_sum (o r : Int) (l : List Int) : ∀ n, total ((rowsUp o r l n).map (fun f => f.getD 1 0)) = st o r l n - o + total ((rowsUp o r l n).map (fun f => f.getD 2 0)) := by
  intro n
  induction n with
  | zero => simp [rowsUp, st, total]
  | succ n ih =>
    rw [rowsUp_succ, List.map_append, List.map_append, total_append, total_append, ih]
    show _ + total [inr o r l n] = st o r l (n + 1) - o + (_ + total [l.getD n 0])
    rw [st_succ]
    simp only [total]
    omega
theorem paid_bd {o : Int} {l : List Int} {r : Int} (h : RollOk o l r) : ∀ n, 0 ≤ total ((rowsUp o r l n).map (fun f => f.getD 2 0)) ∧ total ((rowsUp o r l n).map (fun f => f.getD 2 0)) ≤ n * 10000000000000 := by
  intro n
  induction n with
  | zero => simp [rowsUp, total]
  | succ n ih =>
    rw [rowsUp_succ, List.map_append, total_append]
    have := h.at n
    show 0 ≤ _ + total [l.getD n 0] ∧ _ + total [l.getD n 0] ≤ _
    simp only [total]
    rw [Int.natCast_add, Int.add_mul]
    omega
/-- From period k on it is the table of what stands there. -/
theorem st_drop (o r : Int) (l : List Int) (k : Nat) : ∀ j, st (st o r l k) r (l.drop k) j = st o r l (k + j) ∧ (k + j < l.length → inr (st o r l k) r (l.drop k) j = inr o r l (k + j)) := by
  have hi : ∀ j, st (st o r l k) r (l.drop k) j = st o r l (k + j) → inr (st o r l k) r (l.drop k) j = inr o r l (k + j) := by
    intro j e
    unfold inr
    rw [e]
    have h1 : (l.drop k).getD j 0 = l.getD (k + j) 0 := by simp [List.getD]
    have h2 : isLast (l.drop k) j = isLast l (k + j) := by
      unfold isLast
      by_cases hk : k ≤ l.length
      · congr 1
        rw [List.length_drop]
        exact propext ⟨fun h => by omega, fun h => by omega⟩
      · rw [List.length_drop]
        rw [decide_eq_false (by omega), decide_eq_false (by omega)]
    rw [h1, h2]
  intro j
  induction j with
  | zero => exact ⟨rfl, fun _ => hi 0 rfl⟩
  | succ j ih =>
    have e : st (st o r l k) r (l.drop k) (j + 1) = st o r l (k + (j + 1)) := by
      rw [st_succ, hi j ih.1, ih.1, ← Nat.add_assoc, st_succ]
      congr 1
      simp [List.getD]
    exact ⟨e, fun _ => hi _ e⟩
theorem rows_drop (o r : Int) (l : List Int) {k : Nat} (hk : k < l.length) : rowsUp (st o r l k) r (l.drop k) (l.drop k).length = (rowsUp o r l l.length).drop k := by
  refine List.ext_getElem (by simp [rowsUp]) (fun j h1 h2 => ?_)
  have hj : k + j < l.length := by simp [rowsUp] at h1; omega
  have h3 : (rowsUp (st o r l k) r (l.drop k) (l.drop k).length)[j] = rowAt (st o r l k) r (l.drop k) j := by simp [rowsUp]
  have h4 : ((rowsUp o r l l.length).drop k)[j] = rowAt o r l (k + j) := by simp [rowsUp]
  rw [h3, h4]
  unfold rowAt
  rw [(st_drop o r l k j).1, (st_drop o r l k j).2 hj, (st_drop o r l k (j + 1)).1]
  congr 3
  simp [List.getD]
theorem over_drop {o r : Int} {l : List Int} {k j : Nat} (hj : k + j < l.length) : over (st o r l k) r (l.drop k) j ↔ over o r l (k + j) := by
  unfold over
  rw [(st_drop o r l k j).2 hj, (st_drop o r l k (j + 1)).1]
  rfl
theorem qI_zero (x : Int) : qI x 0 = 0 := by
  unfold qI
  rw [Int.mul_zero]
  decide +kernel
end Go.Proofs.Ytmepmmhhiphfiaa.Mn
