/- TableSolved, plain. -/
import Derived.Test.YtpeoabopeihadaaWTNm
import Derived.Test.YtpeoabopeihadaaWTAlive
set_option linter.unusedVariables false
set_option linter.unusedSimpArgs false
set_option linter.unusedSectionVars false
namespace Go.Proofs.Ytpeoabopeihadaa.Mn
open Go.RowKit
theorem st_left {o r : Int} {l : List Int} : ∀ k, k < l.length → st o r l k = leftAt o r l k
  | 0, _ => rfl
  | k + 1, h => by
    have ih := st_left (o := o) (r := r) (l := l) k (by omega)
    show st o r l k + tI r (isLast l k) (st o r l k) (l.getD k 0) - l.getD k 0 = leftAt o r l k + near (leftAt o r l k * r) 1000000000000 - l.getD k 0
    have hl : isLast l k = false := decide_eq_false (by omega)
    rw [hl, ih]
    rfl
structure TSo (o r : Int) (l : List Int) : Prop where
  r0 : 0 ≤ r
  r1 : r ≤ 200000000000
  amt : ∀ x ∈ l, 0 ≤ x ∧ x ≤ 1000000
  n1 : l.length ≤ 20
  n0 : 0 < l.length
  o0 : 1 ≤ o
  o1 : o ≤ 10000000000000
  eir : IsEir o l r
theorem tso_of {o r : Int} {l : List Int} (h : Eir o l r 0) (hr : 0 ≤ r) (h2 : r ≤ 200000000000) (hl : ∀ x ∈ l, x ≤ 1000000) (hn : l.length ≤ 20) : TSo o r l := by
  rcases h with ⟨_, _, h⟩ | ⟨hm, ⟨_, _, h⟩ | ⟨h, _⟩⟩
  · cases h
  · cases h
  have hs := maySo_yes hm
  refine ⟨hr, h2, fun x hx => ⟨(hs.amt x hx).1, hl x hx⟩, hn, ?_, hs.lo, hs.hi, h⟩
  cases l with
  | nil => rw [maySo_nil] at hm; cases hm
  | cons _ _ => simp
theorem near_sm {x r : Int} (hr : 0 ≤ r) (h2 : r ≤ 200000000000) (h : -1000000000 ≤ x ∧ x ≤ 1000000000) : -1000000000 ≤ qI x r ∧ qI x r ≤ 1000000000 := by
  have c := near_bd (x := x * r) (B := 1000000000000) (by omega)
  have a1 : x * r ≤ 1000000000 * 200000000000 := by
    rcases Int.le_total 0 x with hx | hx
    · exact Int.le_trans (Int.mul_le_mul_of_nonneg_right h.2 hr) (Int.mul_le_mul_of_nonneg_left h2 (by omega))
    · have := Int.mul_nonneg (a := -x) (b := r) (by omega) hr
      rw [Int.neg_mul] at this
      omega
  have a2 : -(1000000000 * 200000000000) ≤ x * r := by
    rcases Int.le_total 0 x with hx | hx
    · have := Int.mul_nonneg hx hr
      omega
    · have h3 := Int.mul_le_mul_of_nonneg_right (show -x ≤ 1000000000 by omega) hr
      have h4 := Int.mul_le_mul_of_nonneg_left h2 (show (0 : Int) ≤ 1000000000 by omega)
      rw [Int.neg_mul] at h3
      omega
  unfold qI
  generalize near (x * r) 1000000000000 = q at *
  omega
theorem TSo.getD {o r : Int} {l : List Int} (h : TSo o r l) (k : Nat) : 0 ≤ l.getD k 0 ∧ l.getD k 0 ≤ 1000000 := by
  by_cases hk : k < l.length
  · have : l.getD k 0 = l[k] := by simp [List.getD, hk]
    rw [this]
    exact h.amt _ (List.getElem_mem hk)
  · have : l.getD k 0 = 0 := by simp [List.getD, List.getElem?_eq_none (Nat.le_of_not_lt hk)]
    rw [this]; omega
theorem TSo.left {o r : Int} {l : List Int} (h : TSo o r l) (k : Nat) (hk : k < l.length) : -1000000000 ≤ st o r l k ∧ st o r l k ≤ 1000000000 := by
  rw [st_left k hk]
  exact left_bound h.r0 h.r1 h.amt h.n1 h.eir k (by omega)
theorem TSo.roll {o r : Int} {l : List Int} (h : TSo o r l) : RollOk o l r := ⟨h.o0, h.o1, ⟨by have := h.r0; omega, by have := h.r1; omega⟩, h.n0, by have := h.n1; omega, fun p hp => payB_iff.2 ⟨(h.amt p hp).1, by have := (h.amt p hp).2; omega⟩⟩
theorem TSo.inr {o r : Int} {l : List Int} (h : TSo o r l) (k : Nat) (hk : k < l.length) : -2000000000 ≤ inr o r l k ∧ inr o r l k ≤ 2000000000 := by
  have a := h.left k hk
  have b := h.getD k
  have c := near_sm h.r0 h.r1 a
  unfold Mn.inr tI
  split <;> omega
theorem TSo.fine {o r : Int} {l : List Int} (h : TSo o r l) (k : Nat) (hk : k < l.length) : ¬ over o r l k := by
  have a := h.left k hk
  have b := h.getD k
  have c := h.inr k hk
  rintro (d | d)
  · exact d ⟨by omega, by omega⟩
  · rw [st_succ] at d
    rcases d with d | d <;> omega
theorem TSo.res {o r : Int} {l : List Int} (h : TSo o r l) : Res o l r (rowsUp o r l l.length) 0 := .inr ⟨h.roll, .inl ⟨rfl, rfl, fun j hj => h.fine j hj⟩⟩
theorem TSo.val {o r : Int} {l : List Int} (h : TSo o r l) : valE 1 l r = 0 ∧ valL 1 l r = worths r l := by
  have h1 := h.n1
  have hM : May r := h.roll.may
  have hf : fits r (l.map (· * 1)) = true := by
    rw [map_one]
    exact fits_within (M := 1000000) hM h.r0 (by omega) (fun x hx => ⟨by have := (h.amt x hx).1; omega, (h.amt x hx).2⟩) (by omega)
  have e : valE 1 l r = 0 := by
    rw [valE_of (by omega) (List.all_eq_true.2 fun x hx => by have := h.amt x hx; simp [may]; omega) hM, hf]
    rfl
  refine ⟨e, ?_⟩
  unfold valL
  rw [if_pos e, map_one]
theorem TSo.close {o r : Int} {l : List Int} (h : TSo o r l) (k : Nat) (hk : k + 1 < l.length) : -farAt l.length (k + 1) ≤ st o r l (k + 1) - worth r (l.drop (k + 1)) ∧ st o r l (k + 1) - worth r (l.drop (k + 1)) ≤ farAt l.length (k + 1) := by
  rw [st_left (k + 1) hk]
  exact left_near h.r0 h.r1 h.amt h.n1 h.eir (k + 1) (by omega)
theorem TSo.far {o r : Int} {l : List Int} (h : TSo o r l) (k : Nat) (hk : k ≤ l.length) : 2 ≤ farAt l.length k ∧ farAt l.length k ≤ 40000000 := by
  refine ⟨farAt_pos _ _, ?_⟩
  have a := farAt_hi h.n1 k hk
  have c : (2 : Int) ^ k ≤ 2 ^ 20 := by
    have := Nat.pow_le_pow_right (n := 2) (by omega) (show k ≤ 20 by have := h.n1; omega)
    exact_mod_cast this
  omega
theorem TSo.plug {o r : Int} {l : List Int} (h : TSo o r l) : plugE (rowsUp o r l l.length) r = 0 ∧ (-(2 * farAt l.length (l.length - 1)) ≤ plugN (rowsUp o r l l.length) r ∧ plugN (rowsUp o r l l.length) r ≤ 2 * farAt l.length (l.length - 1)) := by
  have hn := h.n0
  have hlen := rowsUp_len o r l l.length
  have hM : mayB r = true := mayB_iff.2 h.roll.may
  obtain ⟨k, hk⟩ : ∃ k, k + 1 = l.length := ⟨l.length - 1, by omega⟩
  have e0 : lastN (rowsUp o r l l.length) 0 = st o r l k := by
    unfold lastN
    rw [hlen, getN_rows (by omega), show l.length - 1 = k by omega]
    rfl
  have e1 : lastN (rowsUp o r l l.length) 1 = l.getD k 0 - st o r l k := by
    unfold lastN
    rw [hlen, getN_rows (by omega), show l.length - 1 = k by omega]
    show Mn.inr o r l k = _
    unfold Mn.inr tI
    rw [show isLast l k = true from decide_eq_true hk]
    rfl
  have a := h.left k (by omega)
  have b := h.getD k
  have c := near_sm h.r0 h.r1 a
  have d := last_near h.r0 h.r1 h.amt h.n1 h.eir hk
  rw [← st_left k (by omega)] at d
  have i1 : In64 (qI (st o r l k) r) := ⟨by omega, by omega⟩
  have i2 : In64 (l.getD k 0 - st o r l k - qI (st o r l k) r) := ⟨by omega, by omega⟩
  unfold plugE plugN
  have nz : ¬ l.length = 0 := by omega
  simp only [hlen, nz, if_false, hM, Bool.true_eq_false, e0, e1, if_pos (turn_in i1), okE_in (turn_in i2), okN_in (turn_in i2), show l.length - 1 = k by omega]
  exact ⟨trivial, d⟩
end Go.Proofs.Ytpeoabopeihadaa.Mn
