/- Facts on rows of numbers and on worths that the laws want. -/
import Derived.Test.YtpncdjejngkpgaaVAlive
import Derived.ProofKit
import Derived.OpenShut
import Derived.ShutString
import Derived.ChangeOld
namespace Go.Proofs.Ytpncdjejngkpgaa.Mn
open Go.RowKit
set_option linter.unusedSimpArgs false
theorem row_len {w : World} {a : Option Addr} {n c : Nat} {zs : List Int} (h : Row w (.slice a n c) zs) : n = zs.length := by
  obtain ⟨a', c', e⟩ := row_slice h
  cases e
  rfl
theorem row_cell {w : World} {b off n c : Nat} {zs : List Int} (h : Row w (.slice (some ⟨b, off, none⟩) n c) zs) {j : Nat} (hj : j < zs.length) : w.cell? ⟨b, off + j, none⟩ = some (.int .i64 (zs.getD j 0)) := by
  rcases h with ⟨a, cap, h1, h2⟩ | ⟨b', off', cap, h1, _, _, hc, _⟩
  · rw [h2] at hj; exact absurd hj (Nat.not_lt_zero j)
  · cases h1
    exact hc j hj
theorem row_in {w : World} {v : Value} {zs : List Int} (h : Row w v zs) : ∀ z ∈ zs, In64 z := by
  rcases h with ⟨a, cap, _, h2⟩ | ⟨b', off', cap, h1, _, _, _, h⟩
  · rw [h2]; intro z hz; cases hz
  · exact h
theorem row_open' {w : World} {v : Value} {zs : List Int} (h : Row w v zs) (h0 : 0 < zs.length) : ∃ b off cap, v = .slice (some ⟨b, off, none⟩) zs.length cap := by
  rcases h with ⟨a, cap, _, h2⟩ | ⟨b', off', cap, h1, _⟩
  · rw [h2] at h0; exact absurd h0 (Nat.not_lt_zero 0)
  · exact ⟨_, _, _, h1⟩
theorem row_drop {w : World} {b off n c K : Nat} {zs : List Int} (h : Row w (.slice (some ⟨b, off, none⟩) n c) zs) (hK : K ≤ n) : Row w (.slice (some ⟨b, off + K, none⟩) (n - K) (c - K)) (zs.drop K) := by
  have hl := row_len h
  have hin := row_in h
  rcases h with ⟨a, cap, h1, h2⟩ | ⟨b', off', cap, h1, h2, hm, hc, _⟩
  · subst h2
    have e : n = 0 := hl
    subst e
    obtain rfl : K = 0 := by omega
    exact Or.inl ⟨_, _, rfl, rfl⟩
  · cases h1
    by_cases e : zs.length - K = 0
    · rw [e]
      exact Or.inl ⟨_, _, rfl, List.drop_eq_nil_of_le (by omega)⟩
    · refine Or.inr ⟨b, off + K, c - K, by rw [List.length_drop], by rw [List.length_drop]; omega, by rw [List.length_drop]; omega, fun j hj => ?_, fun z hz => hin z (List.mem_of_mem_drop hz)⟩
      rw [List.length_drop] at hj
      rw [Nat.add_assoc, hc (K + j) (by omega)]
      congr 2
      simp [List.getD, List.getElem?_drop]
theorem row_drop_if {w : World} {b off n c K : Nat} {zs : List Int} (h : Row w (.slice (some ⟨b, off, none⟩) n c) zs) (hK : K ≤ n) (hc : n ≤ c) : Row w (.slice (if c = K then some ⟨b, off, none⟩ else some ⟨b, off + K, none⟩) (n - K) (c - K)) (zs.drop K) := by
  split
  · have e : n - K = 0 := by omega
    have := row_len h
    rw [e]
    exact Or.inl ⟨_, _, rfl, List.drop_eq_nil_of_le (by omega)⟩
  · exact row_drop h hK
theorem row_end {w : World} (v : Option Addr) (c : Nat) {zs : List Int} {K : Nat} (h : zs.length ≤ K) : Row w (.slice v 0 c) (zs.drop K) := Or.inl ⟨_, _, rfl, List.drop_eq_nil_of_le h⟩
theorem all_drop {l : List Int} (K : Nat) (h : l.all may = true) : (l.drop K).all may = true := by
  rw [List.all_eq_true] at *
  exact fun x hx => h x (List.mem_of_mem_drop hx)
theorem valE1 {l : List Int} {r : Int} (h : valE 1 l r = 0) : l.length ≤ 600 ∧ l.all may = true ∧ May r ∧ fits r l = true := by
  have := valE_ok h
  rwa [map_one] at this
theorem valN1 {l : List Int} {r : Int} (h : valE 1 l r = 0) : valN 1 l r = worth r l := by
  unfold valN
  rw [if_pos h, map_one]
theorem valL1 {l : List Int} {r : Int} (h : valE 1 l r = 0) : valL 1 l r = worths r l := by
  unfold valL
  rw [if_pos h, map_one]
theorem valL1_no {l : List Int} {r : Int} (h : valE 1 l r ≠ 0) : valL 1 l r = [] := by
  unfold valL
  rw [if_neg h]
theorem valN1_no {l : List Int} {r : Int} (h : valE 1 l r ≠ 0) : valN 1 l r = 0 := by
  unfold valN
  rw [if_neg h]
theorem valE1_of {l : List Int} {r : Int} (h1 : l.length ≤ 600) (h2 : l.all may = true) (h3 : May r) : valE 1 l r = if fits r l = false then 3 else 0 := by
  have := valE_of (b := 1) h1 h2 h3
  rwa [map_one] at this
theorem valE1_drop {l : List Int} {r : Int} (h : valE 1 l r = 0) (K : Nat) : valE 1 (l.drop K) r = 0 := by
  obtain ⟨h1, h2, h3, h4⟩ := valE1 h
  rw [valE1_of (by rw [List.length_drop]; omega) (all_drop K h2) h3, fits_drop K h4]
  rfl
theorem below_drew {B : Nat} {a w : World} (h : Below B a w) : Below B a w.drew := h.trans ⟨rfl, rfl, rfl, Nat.le_refl _, fun _ _ => rfl⟩
theorem Row.drew {w : World} {v : Value} {zs : List Int} (h : Row w v zs) : Row w.drew v zs := h.later (fun _ _ h => h)
/-- What Discount answers on the way: the worth ahead. -/
theorem disc_at {l : List Int} {r : Int} (h : valE 1 l r = 0) {k : Nat} (hk : k < l.length) : In64 (worth r (l.drop (k + 1)) + l.getD k 0) ∧ Ans 18 (worth r (l.drop (k + 1)) + l.getD k 0) r (worth r (l.drop k)) 0 := by
  obtain ⟨_, _, h3, h4⟩ := valE1 h
  have h5 := fits_at hk h4
  have h6 := fits_in (fits_drop k h4)
  refine ⟨h5, ?_⟩
  have := in_ok (discount_ok h5 h3)
  rw [← worth_drop hk] at this
  exact this ⟨by omega, by omega⟩
end Go.Proofs.Ytpncdjejngkpgaa.Mn
