/- The reference's small, a case. -/
import Derived.Test.YtmepmmhhiphfiaaBits10a
import Derived.Test.YtmepmmhhiphfiaaBits10b
import Derived.Test.YtmepmmhhiphfiaaBits10c
import Derived.Test.YtmepmmhhiphfiaaBits10d
namespace Go.Proofs.Ytmepmmhhiphfiaa
open Go.RowKit
set_option linter.unusedSimpArgs false
def sgn (l : Bool) (V : Nat) : Int := if l = true then -(V : Int) else V
theorem small_any (l : Bool) (f : Nat → Nat) (hf : Bit f) (w : World) : Calls Try.prog 59 #[.agg (gv l f)] w fun e w' => e = .returned (.tuple #[.int .i64 (okN (sgn l (val f 260))), .bool (decide (turn (sgn l (val f 260)) = 0))]) ∧ Below w.heap.size w w' := by
  have hin : ∀ n : Int, In64 n → okN n = n ∧ decide (turn n = 0) = true := fun n h => ⟨okN_in (turn_in h), decide_eq_true (turn_in h)⟩
  have hout : ∀ n : Int, ¬ In64 n → okN n = 0 ∧ decide (turn n = 0) = false := fun n h => ⟨okN_out (fun t => h (in_of_turn t)), decide_eq_false (fun t => h (in_of_turn t))⟩
  by_cases h1 : 9223372036854775808 < val f 260
  · obtain ⟨e1, e2⟩ := hout (sgn l (val f 260)) (fun h => by
      have a := h.lo
      have b := h.hi
      cases l <;> simp [sgn] at a b <;> omega)
    rw [e1, e2]
    exact small_out l f hf h1 w
  · cases l with
    | true =>
      obtain ⟨e1, e2⟩ := hin (sgn true (val f 260)) (by unfold sgn; rw [if_pos rfl]; exact ⟨by omega, by omega⟩)
      rw [e1, e2]
      unfold sgn
      rw [if_pos rfl]
      by_cases h2 : val f 260 = 9223372036854775808
      · exact small_min f hf h2 w
      · exact small_neg f hf (by omega) w
    | false =>
      by_cases h2 : val f 260 = 9223372036854775808
      · obtain ⟨e1, e2⟩ := hout (sgn false (val f 260)) (fun h => by
          have b := h.hi
          unfold sgn at b
          rw [if_neg (by decide)] at b
          omega)
        rw [e1, e2]
        exact small_top f hf h2 w
      · obtain ⟨e1, e2⟩ := hin (sgn false (val f 260)) (by unfold sgn; rw [if_neg (by decide)]; exact ⟨by omega, by omega⟩)
        rw [e1, e2]
        unfold sgn
        rw [if_neg (by decide)]
        exact small_pos f hf (by omega) w
end Go.Proofs.Ytmepmmhhiphfiaa
