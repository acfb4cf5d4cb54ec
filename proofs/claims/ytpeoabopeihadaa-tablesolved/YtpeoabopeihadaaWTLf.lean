/- What money's smallest functions answer, at every number of 64 bits. -/
import Derived.Test.YtpeoabopeihadaaWL
import Derived.WalkKit
import Derived.WalkSpells
import Derived.ProofKit
import Derived.Below
import Derived.OpenShut
import Derived.ShutString
import Derived.ChangeOld
import Derived.Deep.Draws
import Derived.Deep.OwnRows
set_option linter.unusedVariables false
set_option linter.unusedSimpArgs false
set_option linter.unusedSectionVars false
namespace Go.Proofs.Ytpeoabopeihadaa.Mn
open Go.RowKit
attribute [local simp] Tri.typeInfo Tri.sizeOf Tri.underlying Tri.runUnderlying Tri.isAgg Tri.zeroValue Tri.depth Tri.stoodInHeld Tri.eqGuardType Tri.call15 Tri.call22 Tri.call23 Tri.call24 Tri.call25 Tri.call46 Tri.call49 Tri.call52 Tri.call54 Tri.call58 Tri.call59 Tri.call60 Tri.call61 Tri.call62 Tri.call63 Tri.call64 Tri.call65 Tri.call66 Tri.call67 Tri.call95 Tri.call106 Tri.call115 Tri.call116 Tri.call117 Tri.call118 Tri.call119 Tri.call120 Tri.call121 Tri.call122 Tri.call142 Tri.call143 Tri.call144 Tri.call145 Tri.call146 Tri.call147 Tri.call156 Tri.call157 Tri.call159 Tri.call160 Tri.call161 Tri.call162 Tri.call163 Tri.call164 Tri.call165 Tri.call175 Tri.call176 Tri.call186 Tri.call188 Tri.call205
theorem minus_any (a b : Int) (ha : In64 a) (hb : In64 b) (w : World) :
    Calls (Tri Try.prog) 121 #[.int .i64 a, .int .i64 b] w fun e w' => e = .returned (.tuple #[.int .i64 (wrap64 (a - b)), .int .i64 (turn (a - b))]) ∧ w = w' := by
  by_cases h0 : 0 < b
  · have h9 : ¬ b < 0 := by omega
    by_cases h1 : a < wrap64 (a - b)
    · rw [minus_down ha hb h0 h1]
      go_enter (Tri.at (by decide) Try.func121), Try.ntmps121
      go_wp2
      go_ret2
      exact ⟨rfl, rfl⟩
    · rw [minus_neg ha hb h0 h1]
      go_enter (Tri.at (by decide) Try.func121), Try.ntmps121
      go_wp2
      go_ret2
      exact ⟨rfl, rfl⟩
  · by_cases h9 : b < 0
    · by_cases h1 : wrap64 (a - b) < a
      · rw [minus_up ha hb h9 h1]
        go_enter (Tri.at (by decide) Try.func121), Try.ntmps121
        go_wp2
        go_ret2
        exact ⟨rfl, rfl⟩
      · rw [minus_pos ha hb h9 h1]
        go_enter (Tri.at (by decide) Try.func121), Try.ntmps121
        go_wp2
        go_ret2
        exact ⟨rfl, rfl⟩
    · rw [minus_zero ha h0 h9]
      go_enter (Tri.at (by decide) Try.func121), Try.ntmps121
      go_wp2
      go_ret2
      exact ⟨rfl, rfl⟩

theorem sub_any (a b : Int) (ha : In64 a) (hb : In64 b) (w : World) :
    Calls (Tri Try.prog) 67 #[.int .i64 a, .int .i64 b] w fun e w' => e = .returned (.tuple #[.int .i64 (okN (a - b)), .int .i64 (okE (a - b))]) ∧ w = w' := by
  go_enter (Tri.at (by decide) Try.func67), Try.ntmps67
  go_wp2_with fail
  refine (minus_any a b ha hb _).mono ?_
  rintro e w' ⟨rfl, rfl⟩
  go_wp2_with fail
  refine (exact_any (a - b) _ Iff.rfl _).mono ?_
  rintro e w' ⟨rfl, rfl⟩
  go_wp2_with fail
  go_ret2
  exact ⟨rfl, rfl⟩
end Go.Proofs.Ytpeoabopeihadaa.Mn
