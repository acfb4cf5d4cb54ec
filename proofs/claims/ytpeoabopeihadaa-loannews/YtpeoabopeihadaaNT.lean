/- LoanOff, plain. -/
import Derived.Test.YtpeoabopeihadaaNS
import Derived.Test.YtpeoabopeihadaaNM
import Derived.Test.YtpeoabopeihadaaNL
set_option linter.unusedVariables false
set_option linter.unusedSimpArgs false
set_option linter.unusedSectionVars false
namespace Go.Proofs.Ytpeoabopeihadaa.Mn
open Go.RowKit
theorem new_rt {id out : Int} {l : List Int} {r : Int} (h : NewE id out l r 0) : Rt (newK id out r) l ∧ l ≠ [] := by
 rcases h with ⟨_, _, h⟩ | ⟨hi, h⟩
 ·cases h
 rcases h with ⟨_, _, h⟩ | ⟨hm, ⟨_, _, h⟩ | ⟨h, _⟩⟩
 ·cases h
 ·cases h
 have hs := maySo_yes hm
 have h1 := hs.lo
 have h2 := hs.hi
 have h3 := h.lo
 have h4 := h.hi
 refine ⟨⟨inB_yes hi, ?_, ?_, ⟨h1, h2⟩, ⟨h3, by show r ≤ _; omega⟩, ?_, ?_, ?_, ?_, ?_, ?_, ?_, hs.len, hs.amt, .inl rfl, ?_⟩, fun e => ?_⟩
 ·simp [newK]
 ·simp [newK]
 ·simp only [newK]; omega
 ·simp [newK]
 ·simp [newK]
 ·simp [newK]
 ·simp [newK]
 ·simp [newK]
 ·simp [newK]
 ·simp [newK]
 ·rw [e, maySo_nil] at hm
  cases hm
end Go.Proofs.Ytpeoabopeihadaa.Mn
