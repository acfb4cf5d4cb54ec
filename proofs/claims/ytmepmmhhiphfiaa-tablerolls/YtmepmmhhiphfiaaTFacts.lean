/- Facts on rows that the laws want. -/
import Derived.Test.YtmepmmhhiphfiaaTAlive
import Derived.Test.YtmepmmhhiphfiaaTSums
import Derived.ProofKit
import Derived.OpenShut
import Derived.ShutString
import Derived.ChangeOld
namespace Go.Proofs.Ytmepmmhhiphfiaa.Mn
open Go.RowKit
set_option linter.unusedSimpArgs false
theorem row_len {w : World} {a : Option Addr} {n c : Nat} {zs : List Int} (h : Row w (.slice a n c) zs) : n = zs.length := by
  obtain ⟨a', c', e⟩ := row_slice h
  cases e
  rfl
theorem row_cell {w : World} {b off n c : Nat} {zs : List Int} (h : Row w (.slice (some ⟨b, off, none⟩) n c) zs) {j : Nat} (hj : j < zs.length) : w.cell? ⟨b, off + j, none⟩ = some (.int .i64 (zs.getD j 0)) := by
  rcases h with ⟨a, cap, h1, h2⟩ | ⟨b', off', cap, h1, _, _, hc, _⟩
  · rw [h2] at hj; exact absurd hj (Nat.not_lt_zero j)
  · cases h1
    exact hc j hj
theorem row_in {w : World} {v : Value} {zs : List Int} (h : Row w v zs) : ∀ z ∈ zs, In64 z := by
  rcases h with ⟨a, cap, _, h2⟩ | ⟨b', off', cap, h1, _, _, _, h⟩
  · rw [h2]; intro z hz; cases hz
  · exact h
theorem row_open' {w : World} {v : Value} {zs : List Int} (h : Row w v zs) (h0 : 0 < zs.length) : ∃ b off cap, v = .slice (some ⟨b, off, none⟩) zs.length cap := by
  rcases h with ⟨a, cap, _, h2⟩ | ⟨b', off', cap, h1, _⟩
  · rw [h2] at h0; exact absurd h0 (Nat.not_lt_zero 0)
  · exact ⟨_, _, _, h1⟩
theorem row_drop {w : World} {b off n c K : Nat} {zs : List Int} (h : Row w (.slice (some ⟨b, off, none⟩) n c) zs) (hK : K ≤ n) : Row w (.slice (some ⟨b, off + K, none⟩) (n - K) (c - K)) (zs.drop K) := by
  have hl := row_len h
  have hin := row_in h
  rcases h with ⟨a, cap, h1, h2⟩ | ⟨b', off', cap, h1, h2, hm, hc, _⟩
  · subst h2
    have e : n = 0 := hl
    subst e
    obtain rfl : K = 0 := by omega
    exact Or.inl ⟨_, _, rfl, rfl⟩
  · cases h1
    by_cases e : zs.length - K = 0
    · rw [e]
      exact Or.inl ⟨_, _, rfl, List.drop_eq_nil_of_le (by omega)⟩
    · refine Or.inr ⟨b, off + K, c - K, by rw [List.length_drop], by rw [List.length_drop]; omega, by rw [List.length_drop]; omega, fun j hj => ?_, fun z hz => hin z (List.mem_of_mem_drop hz)⟩
      rw [List.length_drop] at hj
      rw [Nat.add_assoc, hc (K + j) (by omega)]
      congr 2
      simp [List.getD, List.getElem?_drop]
theorem row_drop_if {w : World} {b off n c K : Nat} {zs : List Int} (h : Row w (.slice (some ⟨b, off, none⟩) n c) zs) (hK : K ≤ n) (hc : n ≤ c) : Row w (.slice (if c = K then some ⟨b, off, none⟩ else some ⟨b, off + K, none⟩) (n - K) (c - K)) (zs.drop K) := by
  split
  · have e : n - K = 0 := by omega
    have := row_len h
    rw [e]
    exact Or.inl ⟨_, _, rfl, List.drop_eq_nil_of_le (by omega)⟩
  · exact row_drop h hK
theorem below_drew {B : Nat} {a w : World} (h : Below B a w) : Below B a w.drew := h.trans ⟨rfl, rfl, rfl, Nat.le_refl _, fun _ _ => rfl⟩
theorem Row.drew {w : World} {v : Value} {zs : List Int} (h : Row w v zs) : Row w.drew v zs := h.later (fun _ _ h => h)
theorem rowN_drop_if {w : World} {b off n c K : Nat} {l : List (List Int)} (h : RowN 4 w (.slice (some ⟨b, off, none⟩) n c) l) (hK : K ≤ n) : RowN 4 w (.slice (if c = K then some ⟨b, off, none⟩ else some ⟨b, off + K * 4, none⟩) (n - K) (c - K)) (l.drop K) := by
  have hl := rowN_len h
  have hs := h.small
  by_cases e : n - K = 0
  · have hd : l.drop K = [] := List.drop_eq_nil_of_le (by omega)
    rw [hd, e]
    refine Or.inl ⟨_, _, rfl, rfl, fun c' => ?_⟩
    split at c' <;> cases c'
  · rcases h with ⟨a, cap, h1, h2, _⟩ | ⟨b', off', cap, h1, h2, hm, hx, hc, _⟩
    · cases h1; omega
    · cases h1
      rw [if_neg (by omega)]
      refine Or.inr ⟨b, off + K * 4, c - K, by rw [List.length_drop], by rw [List.length_drop]; omega, by rw [List.length_drop]; omega, by omega, fun j hj t ht => ?_, fun f hf => hs f (List.mem_of_mem_drop hf)⟩
      rw [List.length_drop] at hj
      rw [show off + K * 4 + j * 4 + t = off + (K + j) * 4 + t from by omega, hc (K + j) (by omega) t ht]
      congr 2
      simp [getN, List.getD, List.getElem?_drop]
theorem cell_old {w : World} {b j : Nat} {x : Value} (h : w.cell? ⟨b, j, none⟩ = some x) (o : Obj) : (w.alloc o).cell? ⟨b, j, none⟩ = some x := ((below1 w o).cell (p := ⟨b, j, none⟩) (lt_of_cell h)).trans h
theorem RowN.drewN {m : Nat} {w : World} {v : Value} {l : List (List Int)} (h : RowN m w v l) (n : Nat) : RowN m (w.drewN n) v l := h.later (fun _ _ h => h)
theorem Row.drewN {w : World} {v : Value} {l : List Int} (h : Row w v l) (n : Nat) : Row (w.drewN n) v l := h.later (fun _ _ h => h)
end Go.Proofs.Ytmepmmhhiphfiaa.Mn
