/- What the reference rounds by sign and bits is what 'near' and the quotient downwards are. -/
import Derived.Test.YtpeoabopeihadaaSQI
import Derived.Test.YtpeoabopeihadaaSTri
set_option linter.unusedVariables false
set_option linter.unusedSimpArgs false
set_option linter.unusedSectionVars false
namespace Go.Proofs.Ytpeoabopeihadaa
open Go.RowKit
attribute [local simp] Tri.typeInfo Tri.sizeOf Tri.underlying Tri.runUnderlying Tri.isAgg Tri.zeroValue Tri.depth Tri.stoodInHeld Tri.eqGuardType Tri.call15 Tri.call14 Tri.call16 Tri.call17 Tri.call18 Tri.call19 Tri.call20 Tri.call46 Tri.call49 Tri.call50 Tri.call51 Tri.call52 Tri.call53 Tri.call54 Tri.call55 Tri.call65 Tri.call95 Tri.call106 Tri.call107 Tri.call108 Tri.call109 Tri.call116 Tri.call117 Tri.call118 Tri.call119 Tri.call120 Tri.call122 Tri.call135 Tri.call136 Tri.call137 Tri.call143 Tri.call144 Tri.call145 Tri.call146 Tri.call147 Tri.call149 Tri.call150 Tri.call151 Tri.call152 Tri.call156 Tri.call157 Tri.call159 Tri.call160 Tri.call161 Tri.call162 Tri.call163 Tri.call164 Tri.call165 Tri.call166 Tri.call167 Tri.call175 Tri.call176 Tri.call178 Tri.call179 Tri.call180 Tri.call181 Tri.call182 Tri.call183 Tri.call186 Tri.call187 Tri.call188 Tri.call204 Tri.call205
theorem near_neg2 (x B : Int) (hB : 0 < B) : -x / B + up (-x / B) (-x % B) B = -(x / B + up (x / B) (x % B) B) ∧ (-x / B = -(x / B) ∨ -x / B = -(x / B) - 1) := by
  have e : x % B + B * (x / B) = x := Int.emod_add_mul_ediv _ _
  have r0 := Int.emod_nonneg x (show B ≠ 0 from by omega)
  have r1 := Int.emod_lt_of_pos x hB
  generalize x / B = q at *
  generalize x % B = r at *
  by_cases h : r = 0
  · have e1 : -x = B * (-q) := by rw [Int.mul_neg]; omega
    rw [e1, Int.mul_ediv_cancel_left _ (by omega), Int.mul_emod_right, h]
    have u1 : ∀ p : Int, up p 0 B = 0 := by intro p; unfold up; rw [if_neg (by omega)]
    rw [u1, u1]
    omega
  · have e1 : -x = (B - r) + B * (-q - 1) := by rw [Int.mul_sub, Int.mul_neg]; omega
    have e2 : -x / B = -q - 1 := by rw [e1, Int.add_mul_ediv_left _ _ (by omega), Int.ediv_eq_zero_of_lt (by omega) (by omega)]; omega
    have e3 : -x % B = B - r := by rw [e1, Int.add_mul_emod_self_left, Int.emod_eq_of_lt (by omega) (by omega)]
    rw [e2, e3]
    refine ⟨?_, by omega⟩
    unfold up
    split <;> split <;> omega
theorem near_neg (x B : Int) (hB : 0 < B) : near (-x) B = -near x B := (near_neg2 x B hB).1
def upN (q r B : Nat) : Nat := if B < 2 * r ∨ 2 * r = B ∧ q % 2 = 1 then 1 else 0
theorem near_nat (n B : Nat) (hB : 0 < B) : near (n : Int) (B : Int) = ((n / B + upN (n / B) (n % B) B : Nat) : Int) := by
  unfold near
  rw [← Int.natCast_ediv, ← Int.natCast_emod]
  have hr := Nat.mod_lt n hB
  generalize n / B = q at *
  generalize n % B = r at *
  unfold up upN
  split <;> split <;> omega
theorem ref_near (X : Int) (B : Nat) (hB : 0 < B) (l : Bool) (hl : X ≠ 0 → l = decide (X < 0)) :
    (if l = true then -((X.natAbs / B + upN (X.natAbs / B) (X.natAbs % B) B : Nat) : Int) else ((X.natAbs / B + upN (X.natAbs / B) (X.natAbs % B) B : Nat) : Int)) = near X (B : Int) := by
  rw [← near_nat X.natAbs B hB]
  by_cases h0 : X = 0
  · subst h0
    show (if l = true then -near (0 : Int) B else near (0 : Int) B) = near 0 B
    rw [near_zero (by omega)]
    split <;> rfl
  · rw [hl h0]
    by_cases h : X < 0
    · rw [if_pos (decide_eq_true h), ← near_neg _ _ (by omega)]
      congr 1
      omega
    · rw [if_neg (by rw [decide_eq_false h]; decide)]
      congr 1
      omega
end Go.Proofs.Ytpeoabopeihadaa
