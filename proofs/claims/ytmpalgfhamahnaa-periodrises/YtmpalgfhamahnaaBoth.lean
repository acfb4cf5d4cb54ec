/- Months and Dates and the reference's answer the same. -/
import Derived.Test.YtmpalgfhamahnaaRDates
namespace Go.Proofs.Ytmpalgfhamahnaa
open Go.RowKit
theorem num_64 {y m d : Int} (h : Valid y m d) : In64 (num y m d) := by have := num_range h; exact ⟨by omega, by omega⟩
theorem monN_64 {i : Int} {b : Bool} {d : Int} (hd : 1 ≤ d) : In64 (monN i b d) := by
  by_cases c : 1 ≤ i / 12 ∧ i / 12 ≤ 9999
  · rw [(mon_in c).1]
    exact num_64 (dOf_valid c.1 c.2 (by omega) (by omega) hd)
  · rw [(mon_out c).1]
    exact ⟨by omega, by omega⟩
theorem mons_any (n k : Int) (en : Bool) : ∃ x : Int × Int, MonsA n k en x.1 x.2 ∧ RMonsA n k en x.1 x.2 ∧ In64 x.1 := by
  by_cases hn : 1 ≤ n ∧ n ≤ 3652059
  · obtain ⟨y, m, d, hv, e0⟩ := date_of n hn.1 hn.2
    by_cases hk : -12000 ≤ k ∧ k ≤ 12000
    · refine ⟨(monN (ix y m + k) (en && (d == len (leap y) m)) d, monE (ix y m + k)), ?_, ?_, monN_64 hv.d1⟩
      · rw [← e0]; exact mon_any hv k en hk.1 hk.2
      · rw [← e0]; exact rmon_any hv k en hk.1 hk.2
    · refine ⟨(0, 2), ?_, ?_, ⟨by omega, by omega⟩⟩
      · rw [← e0]; exact mon_far hv k en hk
      · rw [← e0]; exact rmon_far hv k en hk
  · exact ⟨(0, 5), mon_no n k en (by omega), rmon_no n k en (hide (rto_no n (by omega))), ⟨by omega, by omega⟩⟩
/-- A row, or none, and an error. -/
def RowsA (f : Nat) (n s t : Int) (en : Bool) (zs : List Int) (g : Int) : Prop := ∀ w : World, Calls Try.prog f #[.int .i64 n, .int .i64 s, .int .i64 t, .bool en] w fun e w' => ∃ u : Value, e = .returned (.tuple #[u, .int .i64 g]) ∧ Row w' u zs ∧ Below w.heap.size w w'
theorem rows_no {f : Nat} {n s t : Int} {en : Bool} {g : Int} (h : DatesNo f n s t en g) : RowsA f n s t en [] g := fun w => (h w).mono fun _ _ h => ⟨_, h.1, Or.inl ⟨_, _, rfl, rfl⟩, h.2⟩
theorem rows_ok {n s : Int} {T : Nat} {en : Bool} {f : Nat → Int} (s1 : 1 ≤ s) (s2 : s ≤ 12) (t2 : (T : Int) ≤ 600) (h64 : ∀ k : Nat, In64 (f k)) (hf : ∀ k : Nat, k < T → MonsA n (s * ((k : Int) + 1)) en (f k) 0) : RowsA 12 n s T en (upL f T) 0 := fun w =>
  (dates_ok n s T en f s1 s2 t2 (hide hf) w).mono fun _ _ h => ⟨_, h.1, h.2.asRow (by unfold maxLen; omega) h64, h.2.below⟩
theorem rrows_ok {n s : Int} {T : Nat} {en : Bool} {f : Nat → Int} (s1 : 1 ≤ s) (s2 : s ≤ 12) (t2 : (T : Int) ≤ 600) (h64 : ∀ k : Nat, In64 (f k)) (hf : ∀ k : Nat, k < T → RMonsA n (((k : Int) + 1) * s) en (f k) 0) : RowsA 13 n s T en (upL f T) 0 := fun w =>
  (rdates_ok n s T en f s1 s2 t2 (hide h64) (hide hf) w).mono fun _ _ ⟨u, h1, h2⟩ => ⟨u, h1, h2.row (by rw [upL_len]; unfold maxLen; omega), h2.below⟩
theorem least_bad (p : Nat → Prop) : ∀ T : Nat, (∀ k, k < T → p k) ∨ ∃ J, J < T ∧ ¬ p J ∧ ∀ k, k < J → p k
  | 0 => Or.inl fun k h => absurd h (Nat.not_lt_zero k)
  | T + 1 => by
    rcases least_bad p T with h | ⟨J, h1, h2, h3⟩
    · by_cases c : p T
      · exact Or.inl fun k hk => by
          by_cases e : k = T
          · rw [e]; exact c
          · exact h k (by omega)
      · exact Or.inr ⟨T, by omega, c, h⟩
    · exact Or.inr ⟨J, by omega, h2, h3⟩
theorem rows_any (n s t : Int) (en : Bool) : ∃ (zs : List Int) (g : Int), RowsA 12 n s t en zs g ∧ RowsA 13 n s t en zs g := by
  by_cases h : 1 ≤ s ∧ s ≤ 12 ∧ 0 ≤ t ∧ t ≤ 600
  · obtain ⟨s1, s2, t1, t2⟩ := h
    obtain ⟨T, rfl⟩ := Int.eq_ofNat_of_zero_le t1
    obtain ⟨F, hF⟩ := Classical.skolem.1 (fun k : Int => mons_any n k en)
    rcases least_bad (fun k => (F (s * ((k : Int) + 1))).2 = 0) T with hz | ⟨J, h1, h2, h3⟩
    · refine ⟨upL (fun k => (F (s * ((k : Int) + 1))).1) T, 0, rows_ok s1 s2 t2 (fun k => (hF _).2.2) (fun k hk => ?_), rrows_ok s1 s2 t2 (fun k => (hF _).2.2) (fun k hk => ?_)⟩
      · have := (hF (s * ((k : Int) + 1))).1
        rwa [hz k hk] at this
      · have := (hF (s * ((k : Int) + 1))).2.1
        rw [hz k hk] at this
        rw [Int.mul_comm]
        exact this
    · refine ⟨[], (F (s * ((J : Int) + 1))).2, rows_no (dates_no n s _ _ T J en (fun k => (F (s * ((k : Int) + 1))).1) s1 s2 t2 (by omega) (hide fun k hk => ?_) (hide (hF _).1) (by simpa using h2)), rows_no (rdates_no n s (F (s * ((J : Int) + 1))).1 _ T J en (fun k => (F (s * ((k : Int) + 1))).1) s1 s2 t2 (by omega) (hide fun k => (hF _).2.2) (hide fun k hk => ?_) (hide ?_) (by simpa using h2))⟩
      · have := (hF (s * ((k : Int) + 1))).1
        rwa [h3 k hk] at this
      · have := (hF (s * ((k : Int) + 1))).2.1
        rw [h3 k hk] at this
        rw [Int.mul_comm]
        exact this
      · have := (hF (s * ((J : Int) + 1))).2.1
        rw [Int.mul_comm ((J : Int) + 1) s]
        exact this
  · exact ⟨[], 2, rows_no (dates_bad n s t en h), rows_no (rdates_bad n s t en h)⟩
end Go.Proofs.Ytmpalgfhamahnaa
