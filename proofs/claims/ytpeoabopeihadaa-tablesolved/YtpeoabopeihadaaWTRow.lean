/- A table's rows, in plain numbers. -/
import Derived.Test.YtpeoabopeihadaaWTRn
set_option linter.unusedVariables false
set_option linter.unusedSimpArgs false
set_option linter.unusedSectionVars false
namespace Go.Proofs.Ytpeoabopeihadaa.Mn
open Go.RowKit
attribute [local simp] Tri.typeInfo Tri.sizeOf Tri.underlying Tri.runUnderlying Tri.isAgg Tri.zeroValue Tri.depth Tri.stoodInHeld Tri.eqGuardType Tri.call15 Tri.call22 Tri.call23 Tri.call24 Tri.call25 Tri.call46 Tri.call49 Tri.call52 Tri.call54 Tri.call58 Tri.call59 Tri.call60 Tri.call61 Tri.call62 Tri.call63 Tri.call64 Tri.call65 Tri.call66 Tri.call67 Tri.call95 Tri.call106 Tri.call115 Tri.call116 Tri.call117 Tri.call118 Tri.call119 Tri.call120 Tri.call121 Tri.call122 Tri.call142 Tri.call143 Tri.call144 Tri.call145 Tri.call146 Tri.call147 Tri.call156 Tri.call157 Tri.call159 Tri.call160 Tri.call161 Tri.call162 Tri.call163 Tri.call164 Tri.call165 Tri.call175 Tri.call176 Tri.call186 Tri.call188 Tri.call205
def tI (r : Int) (last : Bool) (x p : Int) : Int := if last = true then p - x else qI x r
def isLast (l : List Int) (k : Nat) : Bool := decide (k + 1 = l.length)
def st (o r : Int) (l : List Int) : Nat → Int
  | 0 => o
  | k + 1 => st o r l k + tI r (isLast l k) (st o r l k) (l.getD k 0) - l.getD k 0
def inr (o r : Int) (l : List Int) (k : Nat) : Int := tI r (isLast l k) (st o r l k) (l.getD k 0)
theorem st_succ (o r : Int) (l : List Int) (k : Nat) : st o r l (k + 1) = st o r l k + inr o r l k - l.getD k 0 := rfl
def far (n : Int) : Prop := n < -4611686018427387904 ∨ 4611686018427387904 < n
def over (o r : Int) (l : List Int) (k : Nat) : Prop := ¬ In64 (inr o r l k) ∨ far (st o r l (k + 1))
def rowAt (o r : Int) (l : List Int) (k : Nat) : List Int := [st o r l k, inr o r l k, l.getD k 0, st o r l (k + 1)]
def rowsUp (o r : Int) (l : List Int) (n : Nat) : List (List Int) := (List.range n).map (rowAt o r l)
theorem rowsUp_len (o r : Int) (l : List Int) (n : Nat) : (rowsUp o r l n).length = n := by simp [rowsUp]
theorem rowsUp_at {o r : Int} {l : List Int} {n j : Nat} (h : j < n) : (rowsUp o r l n).getD j [] = rowAt o r l j := by simp [rowsUp, List.getD, h]
theorem getN_rows {o r : Int} {l : List Int} {n j : Nat} (h : j < n) (t : Nat) : getN (rowsUp o r l n) j t = (rowAt o r l j).getD t 0 := by unfold getN; rw [rowsUp_at h]
def payB (p : Int) : Bool := decide (0 ≤ p) && decide (p ≤ 10000000000000)
theorem payB_iff {p : Int} : payB p = true ↔ 0 ≤ p ∧ p ≤ 10000000000000 := by simp [payB]
structure RollOk (o : Int) (l : List Int) (r : Int) : Prop where
  o0 : 1 ≤ o
  o1 : o ≤ 10000000000000
  may : May r
  n0 : 0 < l.length
  n1 : l.length ≤ 600
  pay : ∀ p ∈ l, payB p = true
theorem RollOk.at {o : Int} {l : List Int} {r : Int} (h : RollOk o l r) (k : Nat) : 0 ≤ l.getD k 0 ∧ l.getD k 0 ≤ 10000000000000 := by
  by_cases hk : k < l.length
  · have : l.getD k 0 = l[k] := by simp [List.getD, hk]
    rw [this]
    exact payB_iff.1 (h.pay _ (List.getElem_mem hk))
  · have : l.getD k 0 = 0 := by simp [List.getD, List.getElem?_eq_none (Nat.le_of_not_lt hk)]
    rw [this]; omega
theorem st_bd {o : Int} {l : List Int} {r : Int} (h : RollOk o l r) : ∀ k, (∀ j, j < k → ¬ over o r l j) → -4611686018427387904 ≤ st o r l k ∧ st o r l k ≤ 4611686018427387904 := by
  intro k hk
  cases k with
  | zero =>
    have := h.o0
    have := h.o1
    show _ ≤ o ∧ o ≤ _
    omega
  | succ k =>
    have := hk k (Nat.lt_succ_self k)
    unfold over far at this
    omega
theorem inr_in {o : Int} {l : List Int} {r : Int} {k : Nat} (hk : ¬ over o r l k) : In64 (inr o r l k) := by
  by_cases h : In64 (inr o r l k)
  · exact h
  · exact absurd (Or.inl h) hk
theorem st_next {o : Int} {l : List Int} {r : Int} {k : Nat} (hk : ¬ over o r l k) : -4611686018427387904 ≤ st o r l (k + 1) ∧ st o r l (k + 1) ≤ 4611686018427387904 := by
  unfold over far at hk
  omega
theorem rowAt_in {o : Int} {l : List Int} {r : Int} (h : RollOk o l r) {k : Nat} (ho : ∀ j, j < k + 1 → ¬ over o r l j) : (rowAt o r l k).length = 4 ∧ ∀ y ∈ rowAt o r l k, In64 y := by
  refine ⟨rfl, fun y hy => ?_⟩
  have h1 := st_bd h k (fun j hj => ho j (by omega))
  have h2 := st_bd h (k + 1) ho
  have h3 := h.at k
  simp only [rowAt, List.mem_cons, List.not_mem_nil, or_false] at hy
  rcases hy with rfl | rfl | rfl | rfl
  · exact ⟨by omega, by omega⟩
  · exact inr_in (ho k (by omega))
  · exact ⟨by omega, by omega⟩
  · exact ⟨by omega, by omega⟩
theorem rows_small {o : Int} {l : List Int} {r : Int} (h : RollOk o l r) {n : Nat} (ho : ∀ j, j < n → ¬ over o r l j) : SmallN 4 (rowsUp o r l n) := by
  intro f hf
  obtain ⟨j, hj, rfl⟩ := List.mem_map.1 hf
  have := List.mem_range.1 hj
  exact rowAt_in h (fun i hi => ho i (by omega))
def Res (o : Int) (l : List Int) (r : Int) (rows : List (List Int)) (e : Int) : Prop :=
  (e = 2 ∧ rows = [] ∧ ¬ RollOk o l r) ∨ (RollOk o l r ∧ ((e = 0 ∧ rows = rowsUp o r l l.length ∧ ∀ j, j < l.length → ¬ over o r l j) ∨ (e = 3 ∧ rows = [] ∧ ∃ j, j < l.length ∧ over o r l j)))
theorem Res.len {o : Int} {l : List Int} {r : Int} {rows : List (List Int)} {e : Int} (h : Res o l r rows e) : rows.length ≤ 600 := by
  rcases h with ⟨_, rfl, _⟩ | ⟨hk, ⟨_, rfl, _⟩ | ⟨_, rfl, _⟩⟩
  · simp
  · rw [rowsUp_len]; exact hk.n1
  · simp
theorem Res.fine {o : Int} {l : List Int} {r : Int} {rows : List (List Int)} (h : Res o l r rows 0) : RollOk o l r ∧ rows = rowsUp o r l l.length ∧ ∀ j, j < l.length → ¬ over o r l j := by
  rcases h with ⟨h, _⟩ | ⟨hk, ⟨_, h1, h2⟩ | ⟨h, _⟩⟩
  · cases h
  · exact ⟨hk, h1, h2⟩
  · cases h
theorem Res.none {o : Int} {l : List Int} {r e : Int} {rows : List (List Int)} (h : Res o l r rows e) (he : e ≠ 0) : rows = [] := by
  rcases h with ⟨_, h, _⟩ | ⟨hk, ⟨h, _⟩ | ⟨_, h, _⟩⟩
  · exact h
  · exact absurd h he
  · exact h
end Go.Proofs.Ytpeoabopeihadaa.Mn
