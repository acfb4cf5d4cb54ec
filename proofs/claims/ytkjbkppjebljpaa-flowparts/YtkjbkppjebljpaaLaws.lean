/- What the laws want besides. -/
import Derived.Test.YtkjbkppjebljpaaAlive
namespace Go.Proofs.Ytkjbkppjebljpaa
open Go.RowKit
theorem mE_zero {a b : List (Int × Int)} (h : mE a b = 0) : chkE a = 0 ∧ chkE b = 0 ∧ mL a b = both a b ∧ noOver (both a b) = true ∧ (both a b).length ≤ 600 := by
  have e : mL a b = both a b := if_pos h
  unfold mE at h
  split at h
  · rename_i h1
    split at h
    · rename_i h2
      split at h
      · rename_i h3
        split at h
        · rename_i h4
          exact ⟨h1, h2, e, h3, h4⟩
        · cases h
      · cases h
    · rename_i h2; exact absurd h h2
  · rename_i h1; exact absurd h h1
theorem mL_len (a b : List (Int × Int)) : (mL a b).length ≤ 1000 := by
  by_cases h : mE a b = 0
  · obtain ⟨_, _, e, _, l⟩ := mE_zero h
    rw [e]; omega
  · rw [show mL a b = [] from if_neg h]; simp
end Go.Proofs.Ytkjbkppjebljpaa
