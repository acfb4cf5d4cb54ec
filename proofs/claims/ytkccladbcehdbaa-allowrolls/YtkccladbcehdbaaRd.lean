/- The document's Roll, whole. -/
import Derived.Test.YtkccladbcehdbaaRc
namespace Go.Proofs.Ytkccladbcehdbaa
open Go.RowKit
set_option linter.unusedVariables false
set_option linter.unusedSimpArgs false
theorem rroll_any : RollA 12 := by
  intro w v a b c l h
  obtain ⟨x, cap, rfl⟩ := rowG_slice h
  have hl : Hid (l.length = (l.map chL).length) := hide (by rw [List.length_map])
  have hn : (l.map chL).length = l.length := List.length_map ..
  by_cases hm : l.length ≤ 4096
  · have d1 : decide ((4096 : Int) < ((l.map chL).length : Int)) = false := decide_eq_false (by omega)
    have hf : ∀ y, x = some y → 0 < (l.map chL).length → y.block < w.heap.size := fun y e h0 => by
      obtain ⟨b, off, cap', hx, _⟩ := h.open h0
      injection hx with e1 e2 e3
      rw [e1] at e
      cases e
      subst e1
      exact lt_of_cell (h.cells (j := 0) (t := 0) (by omega) (by decide))
    by_cases hok : l.all okC = true
    · cases p0 : inB a 1152921504606846976
      · exact (rr_op0 a b c x _ cap l d1 w h hl (by omega) (allOk_of hok) p0).mono fun q w' ⟨h1, h2⟩ => ⟨rw0, rw0, rw0, 2, h1, h2, .inr (.inl ⟨hm, by simp [mayB, p0], rfl, rfl, rfl, rfl⟩)⟩
      cases p1 : inB b 1152921504606846976
      · exact (rr_op1 a b c x _ cap l d1 w h hl (by omega) (allOk_of hok) p0 p1).mono fun q w' ⟨h1, h2⟩ => ⟨rw0, rw0, rw0, 2, h1, h2, .inr (.inl ⟨hm, by simp [mayB, p1], rfl, rfl, rfl, rfl⟩)⟩
      cases p2 : inB c 1152921504606846976
      · exact (rr_op2 a b c x _ cap l d1 w h hl (by omega) (allOk_of hok) p0 p1 p2).mono fun q w' ⟨h1, h2⟩ => ⟨rw0, rw0, rw0, 2, h1, h2, .inr (.inl ⟨hm, by simp [mayB, p2], rfl, rfl, rfl, rfl⟩)⟩
      exact (rr_yes a b c x _ cap l d1 w h hl (by omega) (allOk_of hok) p0 p1 p2 hf).mono fun q w' ⟨h1, h2⟩ => ⟨_, _, _, 0, h1, h2, .inr (.inr ⟨hm, by simp only [mayB, p0, p1, p2, hok]; rfl, rfl, rfl, rfl, rfl⟩)⟩
    · have hno : l.all okC = false := by simpa using hok
      exact (rr_bad a b c x _ cap l d1 w h hl (by omega) hno).mono fun q w' ⟨h1, h2⟩ => ⟨rw0, rw0, rw0, 2, h1, h2, .inr (.inl ⟨hm, by simp [mayB, hno], rfl, rfl, rfl, rfl⟩)⟩
  · exact (rr_full a b c x _ cap (decide_eq_true (by omega)) w).mono fun q w' ⟨h1, h2⟩ => ⟨rw0, rw0, rw0, 10, h1, h2, .inl ⟨by omega, rfl, rfl, rfl, rfl⟩⟩
end Go.Proofs.Ytkccladbcehdbaa
