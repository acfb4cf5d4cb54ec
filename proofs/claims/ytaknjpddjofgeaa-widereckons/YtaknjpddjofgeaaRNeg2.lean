/- The reference's Neg, of any Int. -/
import Derived.Test.YtaknjpddjofgeaaRNeg
namespace Go.Proofs.Ytaknjpddjofgeaa
open Go.RowKit
set_option linter.unusedSimpArgs false
theorem ord_none (V : Nat) : (ord (V : Int) 0 == 0) = decide (V = 0) := by
  by_cases h : V = 0
  · subst h; rfl
  · rw [decide_eq_false h]
    unfold ord
    rw [if_neg (by omega), if_pos (by omega)]; rfl
theorem rneg_any (X : Int) (hX : In128 X) : RNegs X (hi (okW (-X))) (lo (okW (-X))) (okWE (-X)) := by
  have hb := big_any X hX
  by_cases h0 : X < 0
  · have key : ∀ f, Big X true f → sgn false (val f 260) = -X := fun f h => by
      rw [h.2.2, sgn_f]; omega
    by_cases hN : In128 (-X)
    · rw [okW_in hN, okWE_in hN]
      refine rneg_nt X _ _ (decide (X = 0)) (hide fun w => (hb w).mono ?_)
      rintro e w' ⟨⟨l, f, hB, rfl⟩, hbl⟩
      have hl : l = true := hB.2.1.trans (decide_eq_true h0)
      subst hl
      have hk := back_any false f hB.1
      rw [key f hB, okW_in hN, okWE_in hN] at hk
      exact ⟨⟨f, ⟨hB.1, hk, by rw [ord_none, hB.2.2]; exact decide_eq_decide.2 (by omega)⟩, rfl⟩, hbl⟩
    · rw [okW_out hN, okWE_out hN, hi_zero, lo_zero]
      refine rneg_nf X 0 0 (decide (X = 0)) (hide fun w => (hb w).mono ?_)
      rintro e w' ⟨⟨l, f, hB, rfl⟩, hbl⟩
      have hl : l = true := hB.2.1.trans (decide_eq_true h0)
      subst hl
      have hk := back_any false f hB.1
      rw [key f hB, okW_out hN, okWE_out hN, hi_zero, lo_zero] at hk
      exact ⟨⟨f, ⟨hB.1, hk, by rw [ord_none, hB.2.2]; exact decide_eq_decide.2 (by omega)⟩, rfl⟩, hbl⟩
  · have hN : In128 (-X) := ⟨by have := hX.hi; omega, by have := hX.lo; omega⟩
    rw [okW_in hN, okWE_in hN]
    by_cases hz : X = 0
    · refine rneg_p0 X _ _ (hide fun w => (hb w).mono ?_)
      rintro e w' ⟨⟨l, f, hB, rfl⟩, hbl⟩
      have hl : l = false := hB.2.1.trans (decide_eq_false h0)
      subst hl
      have hk := back_any false f hB.1
      rw [hB.2.2, sgn_f, show ((X.natAbs : Nat) : Int) = -X by omega, okW_in hN, okWE_in hN] at hk
      exact ⟨⟨f, ⟨hB.1, hk, by rw [ord_none, hB.2.2]; exact decide_eq_true (by omega)⟩, rfl⟩, hbl⟩
    · refine rneg_p1 X _ _ (hide fun w => (hb w).mono ?_)
      rintro e w' ⟨⟨l, f, hB, rfl⟩, hbl⟩
      have hl : l = false := hB.2.1.trans (decide_eq_false h0)
      subst hl
      have hk := back_any true f hB.1
      rw [hB.2.2, sgn_t, show -((X.natAbs : Nat) : Int) = -X by omega, okW_in hN, okWE_in hN] at hk
      exact ⟨⟨f, ⟨hB.1, hk, by rw [ord_none, hB.2.2]; exact decide_eq_false (by omega)⟩, rfl⟩, hbl⟩
end Go.Proofs.Ytaknjpddjofgeaa
