/- The reference's sum, of whatever signs and bits: the sum of the numbers. -/
import Derived.Test.YtaknjpddjofgeaaRSum
import Derived.Test.YtaknjpddjofgeaaRBack4
namespace Go.Proofs.Ytaknjpddjofgeaa
open Go.RowKit
set_option linter.unusedSimpArgs false
theorem sgn_t (V : Nat) : sgn true V = -(V : Int) := rfl
theorem sgn_f (V : Nat) : sgn false V = (V : Int) := rfl
theorem num_same {l m : Bool} {x y z c P : Nat} (hq : (l == m) = true) (h : z + c * P = x + y) (hs : x + y < P) : sgn l z = sgn l x + sgn m y ∧ z ≤ x + y := by
  have hm := eq_of_beq hq
  subst hm
  have hc : c = 0 := by
    rcases Nat.eq_zero_or_pos c with e | e
    · exact e
    · have := Nat.mul_le_mul_right P e
      omega
  subst hc
  rw [Nat.zero_mul, Nat.add_zero] at h
  subst h
  cases l
  · rw [sgn_f, sgn_f, sgn_f]; omega
  · rw [sgn_t, sgn_t, sgn_t]; omega
theorem num_diff {l m : Bool} {x y z : Nat} (hq : (l == m) = false) (h : z = x - y) (hl : y ≤ x) : sgn l z = sgn l x + sgn m y ∧ sgn l z = sgn m y + sgn l x ∧ z ≤ x + y := by
  cases l <;> cases m
  · cases hq
  · rw [sgn_f, sgn_f, sgn_t]; omega
  · rw [sgn_t, sgn_t, sgn_f]; omega
  · cases hq
/-- The sum is the numbers' sum. -/
def Sum (l : Bool) (f : Nat → Nat) (m : Bool) (g : Nat → Nat) (k : Bool) (h : Nat → Nat) : Prop := Bit h ∧ sgn k (val h 260) = sgn l (val f 260) + sgn m (val g 260) ∧ val h 260 ≤ val f 260 + val g 260
theorem sum_any (l : Bool) (f : Nat → Nat) (m : Bool) (g : Nat → Nat) (hf : Bit f) (hg : Bit g) (hs : val f 260 + val g 260 < P2 260) (w : World) : Calls Try.prog 27 #[.agg (gv l f), .agg (gv m g)] w fun e w' => (∃ k h, Sum l f m g k h ∧ e = .returned (.agg (gv k h))) ∧ Below w.heap.size w w' := by
  cases hq : (l == m)
  · rcases Nat.lt_trichotomy (val f 260) (val g 260) with ho | ho | ho
    · refine (sum_lt l m f g hf hg hq ho w).mono ?_
      rintro e w' ⟨⟨h, hM, rfl⟩, hb⟩
      have e1 := minus_val hM (Nat.le_of_lt ho)
      have n := num_diff (l := m) (m := l) (by rw [← hq]; cases l <;> cases m <;> rfl) e1 (Nat.le_of_lt ho)
      exact ⟨⟨m, h, ⟨hM.1, n.2.1, by rw [Nat.add_comm]; exact n.2.2⟩, rfl⟩, hb⟩
    · refine (sum_eq l m f g hf hg hq ho.symm w).mono ?_
      rintro e w' ⟨⟨h, hM, rfl⟩, hb⟩
      have e1 := minus_val hM (Nat.le_of_eq ho.symm)
      have n := num_diff (l := l) (m := m) hq e1 (Nat.le_of_eq ho.symm)
      exact ⟨⟨l, h, ⟨hM.1, n.1, n.2.2⟩, rfl⟩, hb⟩
    · refine (sum_gt l m f g hf hg hq ho w).mono ?_
      rintro e w' ⟨⟨h, hM, rfl⟩, hb⟩
      have e1 := minus_val hM (Nat.le_of_lt ho)
      have n := num_diff (l := l) (m := m) hq e1 (Nat.le_of_lt ho)
      exact ⟨⟨l, h, ⟨hM.1, n.1, n.2.2⟩, rfl⟩, hb⟩
  · refine (sum_same l m f g hf hg hq w).mono ?_
    rintro e w' ⟨⟨h, ⟨hB, c, _, hP⟩, rfl⟩, hb⟩
    have n := num_same (l := l) (m := m) hq hP hs
    exact ⟨⟨l, h, ⟨hB, n.1, n.2⟩, rfl⟩, hb⟩
end Go.Proofs.Ytaknjpddjofgeaa
