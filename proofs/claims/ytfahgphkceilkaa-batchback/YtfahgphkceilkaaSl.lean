/- Parts of bytes. -/
import Derived.Test.YtfahgphkceilkaaNb
import Derived.Test.YtfahgphkceilkaaSn
import Derived.Test.YtfahgphkceilkaaBt
namespace Go.Proofs.Ytfahgphkceilkaa
open Go.RowKit
set_option linter.unusedVariables false
set_option linter.unusedSimpArgs false
def loA (m : Nat) (x : Option Addr) (k cap : Nat) : Option Addr := if cap = k then x else x.map (·.add (k * m))
theorem size5 (w : World) : (sizeOf 5).run Try.prog w = .ok 1 w := by kernel_rfl
theorem sl_hi (x : Option Addr) (n cap k : Nat) (h1 : k ≤ cap) (w : World) : (Instr.slice 25 (.slice x n cap) none (some (.int .i64 k)) none).run Try.prog w = .ok (.slice x k cap) w := by
  have h0 : (0 : Int) ≤ k := by omega
  have h2 : (k : Int) ≤ cap := by omega
  simp [Instr.slice, Instr.sliceBounds, run_underlying Try.underlying25, size5, Result.andThen, h0, h2, go_sem]
theorem sl_lo (x : Option Addr) (n cap k : Nat) (h1 : k ≤ n) (w : World) : (Instr.slice 25 (.slice x n cap) (some (.int .i64 k)) none none).run Try.prog w = .ok (.slice (loA 1 x k cap) (n - k) (cap - k)) w := by
  have h0 : (0 : Int) ≤ k := by omega
  have h2 : (k : Int) ≤ n := by omega
  simp [Instr.slice, Instr.sliceBounds, run_underlying Try.underlying25, size5, Result.andThen, h0, h2, go_sem, loA]
theorem sl_mid (x : Option Addr) (n cap k j : Nat) (h1 : k ≤ j) (h3 : j ≤ cap) (w : World) : (Instr.slice 25 (.slice x n cap) (some (.int .i64 k)) (some (.int .i64 j)) none).run Try.prog w = .ok (.slice (loA 1 x k cap) (j - k) (cap - k)) w := by
  have h0 : (0 : Int) ≤ k := by omega
  have h2 : (k : Int) ≤ j := by omega
  have h4 : (j : Int) ≤ cap := by omega
  simp [Instr.slice, Instr.sliceBounds, run_underlying Try.underlying25, size5, Result.andThen, h0, h2, h4, go_sem, loA]
theorem rowG_le {m : Nat} {w : World} {x : Option Addr} {n cap : Nat} {L : List (List Value)} (h : RowG m w (.slice x n cap) L) : n ≤ cap := by
  rcases h with ⟨a, c, h1, _⟩ | ⟨b, off, c, h1, _, h2, _⟩
  · injection h1 with _ e _
    omega
  · injection h1 with _ e1 e2
    omega
theorem RowG.hi {m : Nat} {w : World} {x : Option Addr} {n cap k : Nat} {L : List (List Value)} (h : RowG m w (.slice x n cap) L) (hk : k ≤ n) : RowG m w (.slice x k cap) (L.take k) := by
  have hn := rowG_len h
  rcases h with ⟨a, c, h1, h2, h3⟩ | ⟨b, off, c, h1, h2, h3, h4, h5, h6⟩
  · injection h1 with e0 e1 e2
    subst e0 e1 e2 h2
    obtain rfl : k = 0 := by omega
    exact Or.inl ⟨_, _, rfl, rfl, h3⟩
  · injection h1 with e0 e1 e2
    subst e0 e2
    by_cases h0 : k = 0
    · subst h0
      exact Or.inl ⟨_, _, rfl, rfl, fun c => by cases c⟩
    · have hl : (L.take k).length = k := by rw [List.length_take]; omega
      refine Or.inr ⟨b, off, _, by rw [hl], by omega, by omega, h4, fun j hj t ht => ?_, fun f hf => h6 f (List.mem_of_mem_take hf)⟩
      rw [hl] at hj
      rw [h5 j (by omega) t ht]
      unfold getG
      congr 2
      simp [List.getD, List.getElem?_take, hj]
theorem RowG.lo {m : Nat} {w : World} {x : Option Addr} {n cap k : Nat} {L : List (List Value)} (h : RowG m w (.slice x n cap) L) (hk : k ≤ n) : RowG m w (.slice (loA m x k cap) (n - k) (cap - k)) (L.drop k) := by
  have hn := rowG_len h
  have hle := rowG_le h
  rcases h with ⟨a, c, h1, h2, h3⟩ | ⟨b, off, c, h1, h2, h3, h4, h5, h6⟩
  · injection h1 with e0 e1 e2
    subst e0 e1 e2 h2
    obtain rfl : k = 0 := by omega
    refine Or.inl ⟨_, _, rfl, by simp, fun e => ?_⟩
    unfold loA at e
    split at e
    · exact h3 e
    · cases hx : x with
      | none => rw [h3 hx]
      | some y => rw [hx] at e; cases e
  · injection h1 with e0 e1 e2
    subst e0 e2
    by_cases h0 : n - k = 0
    · rw [h0]
      refine Or.inl ⟨_, _, rfl, by rw [List.drop_eq_nil_iff]; omega, fun e => ?_⟩
      unfold loA at e
      split at e <;> cases e
    · have hl : (L.drop k).length = n - k := by rw [List.length_drop]; omega
      have hne : ¬ cap = k := by omega
      refine Or.inr ⟨b, off + k * m, cap - k, by rw [hl, loA, if_neg hne]; simp [Addr.add], by omega, by omega, by omega, fun j hj t ht => ?_, fun f hf => h6 f (List.mem_of_mem_drop hf)⟩
      rw [hl] at hj
      have := h5 (k + j) (by omega) t ht
      rw [show off + k * m + j * m + t = off + (k + j) * m + t by rw [Nat.add_mul]; omega, this]
      unfold getG
      congr 2
      simp [List.getD]
theorem rowB_hi {w : World} {x : Option Addr} {n cap k : Nat} {xs : List Nat} (h : RowG 1 w (.slice x n cap) (bys xs)) (hk : k ≤ n) : RowG 1 w (.slice x k cap) (bys (xs.take k)) := by
  have := h.hi hk
  rwa [bys, ← List.map_take] at this
theorem rowB_lo {w : World} {x : Option Addr} {n cap k : Nat} {xs : List Nat} (h : RowG 1 w (.slice x n cap) (bys xs)) (hk : k ≤ n) : RowG 1 w (.slice (loA 1 x k cap) (n - k) (cap - k)) (bys (xs.drop k)) := by
  have := h.lo hk
  rwa [bys, ← List.map_drop] at this
theorem rowB_mid {w : World} {x : Option Addr} {n cap k j : Nat} {xs : List Nat} (h : RowG 1 w (.slice x n cap) (bys xs)) (hk : k ≤ j) (hj : j ≤ n) : RowG 1 w (.slice (loA 1 x k cap) (j - k) (cap - k)) (bys ((xs.drop k).take (j - k))) := by
  have := rowB_lo (rowB_hi h hj) hk
  rwa [List.drop_take] at this
theorem rowB_len {w : World} {x : Option Addr} {n cap : Nat} {xs : List Nat} (h : RowG 1 w (.slice x n cap) (bys xs)) : n = xs.length := by rw [rowG_len h, bys_len]
theorem bytes_take {xs : List Nat} (h : Bytes xs) (k : Nat) : Bytes (xs.take k) := fun x hx => h x (List.mem_of_mem_take hx)
theorem bytes_drop {xs : List Nat} (h : Bytes xs) (k : Nat) : Bytes (xs.drop k) := fun x hx => h x (List.mem_of_mem_drop hx)
end Go.Proofs.Ytfahgphkceilkaa
