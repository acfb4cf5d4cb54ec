/- Equal lines are the same. -/
import Derived.Test.YtalbdkihlcbhbaaFs
namespace Go.Proofs.Ytalbdkihlcbhbaa
open Go.RowKit
set_option linter.unusedVariables false
set_option linter.unusedSimpArgs false
theorem same_to (v u : Value) (xs : List Li) (w : World) (h : RowG 2 w v (xs.map liL)) (h' : RowG 2 w u (xs.map liL)) :
    Calls Try.prog 11 #[v, u] w fun e w' => e = .returned (.bool true) ∧ Below w.heap.size w w' :=
  (same_any v u xs xs w h h').mono fun e w' ⟨he, n, hn⟩ => by
    subst hn
    exact ⟨by rw [he, sameL_refl], ⟨rfl, rfl, rfl, Nat.le_refl _, fun _ _ => rfl⟩⟩
end Go.Proofs.Ytalbdkihlcbhbaa
