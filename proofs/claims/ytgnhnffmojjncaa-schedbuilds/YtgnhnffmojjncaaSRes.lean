/- What Build answers, at any terms; whether terms are more than are looked at. -/
import Derived.Test.YtgnhnffmojjncaaSAlive
namespace Go.Proofs.Ytgnhnffmojjncaa.Mn
open Go.RowKit
set_option linter.unusedSimpArgs false
/-- What comes of terms: an error, or the rows. -/
def Res (kd P : Int) (rs : List Int) (n : Int) (l : List (List Int)) (e : Int) : Prop :=
  (e = 2 ∧ l = [] ∧ ∀ m : Nat, n = m → ¬ TermsOk kd P rs m) ∨ ∃ m : Nat, n = m ∧ TermsOk kd P rs m ∧ ((e = 0 ∧ l = rowsUp (loanOf kd P rs m) m ∧ ∀ j, j < m → ¬ over qI (loanOf kd P rs m) j) ∨ (e = 3 ∧ l = [] ∧ ∃ j, j < m ∧ over qI (loanOf kd P rs m) j))
theorem res_ex (kd P : Int) (rs : List Int) (n : Int) : ∃ l e, Res kd P rs n l e := by
  by_cases h : ∃ m : Nat, n = m ∧ TermsOk kd P rs m
  · obtain ⟨m, hm, hT⟩ := h
    by_cases ho : ∃ j, j < m ∧ over qI (loanOf kd P rs m) j
    · exact ⟨[], 3, Or.inr ⟨m, hm, hT, Or.inr ⟨rfl, rfl, ho⟩⟩⟩
    · exact ⟨_, 0, Or.inr ⟨m, hm, hT, Or.inl ⟨rfl, rfl, fun j hj c => ho ⟨j, hj, c⟩⟩⟩⟩
  · exact ⟨[], 2, Or.inl ⟨rfl, rfl, fun m hm c => h ⟨m, hm, c⟩⟩⟩
theorem Res.fine {kd P : Int} {rs : List Int} {n : Int} {l : List (List Int)} {e : Int} (h : Res kd P rs n l e) (he : e = 0) : ∃ m : Nat, n = m ∧ TermsOk kd P rs m ∧ l = rowsUp (loanOf kd P rs m) m ∧ ∀ j, j < m → ¬ over qI (loanOf kd P rs m) j := by
  rcases h with ⟨h, _⟩ | ⟨m, h1, h2, ⟨_, h4, h5⟩ | ⟨h3, _⟩⟩
  · omega
  · exact ⟨m, h1, h2, h4, h5⟩
  · omega
theorem Res.none {kd P : Int} {rs : List Int} {n : Int} {l : List (List Int)} {e : Int} (h : Res kd P rs n l e) (he : e ≠ 0) : l = [] := by
  rcases h with ⟨_, h, _⟩ | ⟨m, _, _, ⟨h3, _⟩ | ⟨_, h4, _⟩⟩
  · exact h
  · exact absurd h3 he
  · exact h4
theorem Res.errs {kd P : Int} {rs : List Int} {n : Int} {l : List (List Int)} {e : Int} (h : Res kd P rs n l e) : e = 0 ∨ e = 2 ∨ e = 3 := by
  rcases h with ⟨h, _, _⟩ | ⟨m, _, _, ⟨h3, _⟩ | ⟨h, _, _⟩⟩
  · exact Or.inr (Or.inl h)
  · exact Or.inl h3
  · exact Or.inr (Or.inr h)
theorem build_any {kd P : Int} {rs : List Int} {n : Int} {l : List (List Int)} {e : Int} (h : Res kd P rs n l e) {rv : Value} {w : World} (hR : Row w rv rs) : BuildA 11 w kd P rv n l e := by
  rcases h with ⟨rfl, rfl, h⟩ | ⟨m, rfl, hT, h⟩
  · exact build_no (fun W hb => chk_no (Or.inl rfl) h (hR.below hb (Nat.le_refl _)))
  · exact build_yes hT hR h
/-- Are terms more than are looked at? -/
def grB (len : Nat) (n : Int) : Bool := decide (60 < (len : Int)) || (decide (60 < n) && decide (n ≤ 600))
theorem great_any (kd P n : Int) (a : Option Addr) (len cap : Nat) (w : World) : Calls Try.prog 10 #[.agg #[.int .i64 kd, .int .i64 P, .slice a len cap, .int .i64 n]] w fun e w' => e = .returned (.bool (grB len n)) ∧ Below w.heap.size w w' := by
  by_cases t1 : 60 < (len : Int)
  · have e : grB len n = true := by unfold grB; rw [decide_eq_true t1]; rfl
    rw [e]
    have d1 := decide_eq_true t1
    clear t1 e
    go_enter Try.func10, Try.ntmps10
    go_wp2_with fail
    go_ret
    exact ⟨rfl, below1 _ _⟩
  have d1 := decide_eq_false t1
  by_cases t2 : 60 < n
  · have d2 := decide_eq_true t2
    by_cases t3 : n ≤ 600
    · have d3 := decide_eq_true t3
      have e : grB len n = true := by unfold grB; rw [d1, d2, d3]; rfl
      rw [e]
      clear t1 t2 t3 e
      go_enter Try.func10, Try.ntmps10
      go_wp2_with fail
      go_ret
      exact ⟨rfl, below1 _ _⟩
    · have d3 := decide_eq_false t3
      have e : grB len n = false := by unfold grB; rw [d1, d2, d3]; rfl
      rw [e]
      clear t1 t2 t3 e
      go_enter Try.func10, Try.ntmps10
      go_wp2_with fail
      go_ret
      exact ⟨rfl, below1 _ _⟩
  · have d2 := decide_eq_false t2
    have e : grB len n = false := by unfold grB; rw [d1, d2]; rfl
    rw [e]
    clear t1 t2 e
    go_enter Try.func10, Try.ntmps10
    go_wp2_with fail
    go_ret
    exact ⟨rfl, below1 _ _⟩
theorem grB_no {len : Nat} {n : Int} (h : grB len n = false) : len ≤ 60 ∧ (n ≤ 60 ∨ 600 < n) := by
  simp [grB] at h
  omega
theorem row_cell {w : World} {b off len cap : Nat} {zs : List Int} (h : Row w (.slice (some ⟨b, off, none⟩) len cap) zs) {j : Nat} (hj : j < zs.length) : w.cell? ⟨b, off + j, none⟩ = some (.int .i64 (zs.getD j 0)) := by
  rcases h with ⟨a, c, h1, h2⟩ | ⟨b', off', c, h1, _, _, h2, _⟩
  · rw [h2] at hj; exact absurd hj (Nat.not_lt_zero j)
  · cases h1
    exact h2 j hj
/-- The numbers of a period's row. -/
theorem row_facts {L : Loan} (hL : L.Ok) {k n : Nat} (hn : L.n = n) (hk : k < n) (ho : ∀ j, j < n → ¬ over qI L j) :
    ∃ x A B C D : Int, left qI L k = x ∧ rowAt L k = [A, B, C, D] ∧ A = qI x (L.rt k) ∧ B = A + C ∧ D = x - C ∧ left qI L (k + 1) = D ∧ int qI L k = A ∧ paid qI L k = B ∧ prin qI L k = C ∧ 0 ≤ x ∧ x ≤ 10000000000000 ∧ 0 ≤ A ∧ A ≤ x ∧ 0 ≤ B ∧ B ≤ 10000000000000 ∧ 0 ≤ D ∧ D ≤ 10000000000000 := by
  subst hn
  obtain ⟨h1, h2, h3, h4, h5, h6, h7⟩ := paid_bd qI_int2 hL hk (fun j hj => ho j (by omega))
  obtain ⟨x0, x1, _⟩ := left_in qI_int2 hL k (by omega) (fun j hj => ho j (by omega))
  have hno := ho k hk
  unfold over at hno
  refine ⟨_, _, _, _, _, rfl, rfl, rfl, by unfold prin; omega, left_succ _ _ _, rfl, rfl, rfl, rfl, x0, x1, h1, h2, h3, by omega, h7, by omega⟩
theorem rowsUp_at {L : Loan} {k n t : Nat} (hk : k < n) : getN (rowsUp L n) k t = (rowAt L k).getD t 0 := by
  unfold getN rowsUp
  have : ((List.range n).map (rowAt L)).getD k [] = rowAt L k := by simp [List.getD, hk]
  rw [this]
/-- The cells of a period's row, in memory. -/
theorem row_cells {w : World} {b off cap n k : Nat} {L : Loan} {A B C D : Int} (h : RowN 4 w (.slice (some ⟨b, off, none⟩) n cap) (rowsUp L n)) (hk : k < n) (hr : rowAt L k = [A, B, C, D]) :
    w.cell? ⟨b, off + k * 4, none⟩ = some (.int .i64 A) ∧ w.cell? ⟨b, off + k * 4 + 1, none⟩ = some (.int .i64 B) ∧ w.cell? ⟨b, off + k * 4 + 2, none⟩ = some (.int .i64 C) ∧ w.cell? ⟨b, off + k * 4 + 3, none⟩ = some (.int .i64 D) := by
  have hl : k < (rowsUp L n).length := by rw [rowsUp_len]; exact hk
  refine ⟨?_, ?_, ?_, ?_⟩
  · have c := h.cells (t := 0) hl (by decide); rw [rowsUp_at hk, hr] at c; exact c
  · have c := h.cells (t := 1) hl (by decide); rw [rowsUp_at hk, hr] at c; exact c
  · have c := h.cells (t := 2) hl (by decide); rw [rowsUp_at hk, hr] at c; exact c
  · have c := h.cells (t := 3) hl (by decide); rw [rowsUp_at hk, hr] at c; exact c
end Go.Proofs.Ytgnhnffmojjncaa.Mn
