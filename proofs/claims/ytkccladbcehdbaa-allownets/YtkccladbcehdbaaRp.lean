/- Rows of allowances (plain). -/
import Derived.Test.YtkccladbcehdbaaSr
namespace Go.Proofs.Ytkccladbcehdbaa
open Go.RowKit
set_option linter.unusedVariables false
set_option linter.unusedSimpArgs false
structure Rw where
  o : Int
  i : Int
  u : Int
  n : Int
  x : Int
  z : Int
abbrev cells6 (r : Rw) : Array Value := #[.int .i64 r.o, .int .i64 r.i, .int .i64 r.u, .int .i64 r.n, .int .i64 r.x, .int .i64 r.z]
abbrev cells18 (r s t : Rw) : Array Value := #[.int .i64 r.o, .int .i64 r.i, .int .i64 r.u, .int .i64 r.n, .int .i64 r.x, .int .i64 r.z, .int .i64 s.o, .int .i64 s.i, .int .i64 s.u, .int .i64 s.n, .int .i64 s.x, .int .i64 s.z, .int .i64 t.o, .int .i64 t.i, .int .i64 t.u, .int .i64 t.n, .int .i64 t.x, .int .i64 t.z]
/-- A row of nothing. -/
abbrev rw0 : Rw := ⟨0, 0, 0, 0, 0, 0⟩
/-- The row of the stage s. -/
def rwS (l : List Ch) (s o : Int) : Rw := ⟨o, putS l s 0, putS l s 1, putS l s 2, putS l s 3, o + putS l s 0 + putS l s 2 - putS l s 1 - putS l s 3⟩
theorem putN_col {c : Ch} (h : OkC c) (s k : Int) (hk : k = 0 ∨ k = 1 ∨ k = 3) : 0 ≤ putN c s k ∧ putN c s k ≤ 562949953421312 := by
  obtain ⟨_, _, ⟨a, b⟩, ⟨d, e⟩, ⟨x, y⟩⟩ := h
  unfold putN
  rcases hk with rfl | rfl | rfl
  all_goals repeat' split
  all_goals omega
theorem putS_col {l : List Ch} (h : AllOk l) (s k : Int) (hk : k = 0 ∨ k = 1 ∨ k = 3) : 0 ≤ putS l s k ∧ putS l s k ≤ 562949953421312 * (l.length : Int) := by
  induction l with
  | nil => simp [putS]
  | cons c r ih =>
    have h1 := putN_col (h c List.mem_cons_self) s k hk
    have h2 := ih (fun x hx => h x (List.mem_cons_of_mem _ hx))
    simp only [putS, List.length_cons, Int.natCast_add]
    omega
structure RwB (r : Rw) : Prop where
  o : 0 ≤ r.o ∧ r.o ≤ 1152921504606846976
  i : 0 ≤ r.i ∧ r.i ≤ 2305843009213693952
  u : 0 ≤ r.u ∧ r.u ≤ 2305843009213693952
  n : -2305843009213693952 ≤ r.n ∧ r.n ≤ 4611686018427387904
  x : 0 ≤ r.x ∧ r.x ≤ 2305843009213693952
  z : r.z = r.o + r.i + r.n - r.u - r.x
theorem rwS_bd {l : List Ch} (h : AllOk l) (hl : l.length ≤ 4096) {o : Int} (ho : 0 ≤ o ∧ o ≤ 1152921504606846976) (s : Int) : RwB (rwS l s o) := by
  have a := putS_col h s 0 (.inl rfl)
  have b := putS_col h s 1 (.inr (.inl rfl))
  have c := putS_col h s 3 (.inr (.inr rfl))
  have d := putS_bd h s 2
  exact ⟨ho, by simp only [rwS]; omega, by simp only [rwS]; omega, by simp only [rwS]; omega, by simp only [rwS]; omega, rfl⟩
theorem turn0 {n : Int} (h : -9223372036854775808 ≤ n ∧ n ≤ 9223372036854775807) : turn n = 0 := turn_in ⟨h.1, h.2⟩
theorem RwB.fits {r : Rw} (h : RwB r) : fits r.o r.i r.u r.n r.x = true := by
  obtain ⟨⟨a, b⟩, ⟨c, d⟩, ⟨e, f⟩, ⟨g, k⟩, ⟨m, n⟩, _⟩ := h
  simp only [Go.Proofs.Ytkccladbcehdbaa.fits, Bool.and_eq_true, decide_eq_true_eq]
  exact ⟨⟨⟨turn0 (by omega), turn0 (by omega)⟩, turn0 (by omega)⟩, turn0 (by omega)⟩
theorem RwB.end_ {r : Rw} (h : RwB r) : endN r.o r.i r.u r.n r.x = r.z := by
  rw [endN, if_pos h.fits, h.z]
theorem allOk_of {l : List Ch} (h : l.all okC = true) : AllOk l := fun c hc => okC_iff.1 (List.all_eq_true.1 h c hc)
theorem inB_iff {n m : Int} : inB n m = true ↔ 0 ≤ n ∧ n ≤ m := by simp [inB]
theorem mayB_iff {a b c : Int} {l : List Ch} : mayB a b c l = true ↔ (0 ≤ a ∧ a ≤ 1152921504606846976) ∧ (0 ≤ b ∧ b ≤ 1152921504606846976) ∧ (0 ≤ c ∧ c ≤ 1152921504606846976) ∧ AllOk l := by
  simp only [mayB, Bool.and_eq_true, inB_iff]
  constructor
  · rintro ⟨⟨⟨h1, h2⟩, h3⟩, h4⟩
    exact ⟨h1, h2, h3, allOk_of h4⟩
  · rintro ⟨h1, h2, h3, h4⟩
    exact ⟨⟨⟨h1, h2⟩, h3⟩, List.all_eq_true.2 (fun c hc => okC_iff.2 (h4 c hc))⟩
/-- What Roll answers. -/
def RollR (a b c : Int) (l : List Ch) (r s t : Rw) (e : Int) : Prop :=
  (4096 < l.length ∧ r = rw0 ∧ s = rw0 ∧ t = rw0 ∧ e = 10) ∨ (l.length ≤ 4096 ∧ mayB a b c l = false ∧ r = rw0 ∧ s = rw0 ∧ t = rw0 ∧ e = 2) ∨
  (l.length ≤ 4096 ∧ mayB a b c l = true ∧ r = rwS l 1 a ∧ s = rwS l 2 b ∧ t = rwS l 3 c ∧ e = 0)
theorem RollR.only {a b c : Int} {l : List Ch} {r s t r' s' t' : Rw} {e e' : Int} (h : RollR a b c l r s t e) (k : RollR a b c l r' s' t' e') : r = r' ∧ s = s' ∧ t = t' ∧ e = e' := by
  rcases h with ⟨h1, rfl, rfl, rfl, rfl⟩ | ⟨h1, h2, rfl, rfl, rfl, rfl⟩ | ⟨h1, h2, rfl, rfl, rfl, rfl⟩ <;> rcases k with ⟨k1, rfl, rfl, rfl, rfl⟩ | ⟨k1, k2, rfl, rfl, rfl, rfl⟩ | ⟨k1, k2, rfl, rfl, rfl, rfl⟩ <;> first | exact ⟨rfl, rfl, rfl, rfl⟩ | omega | (rw [h2] at k2; cases k2)
def RollA (f : Nat) : Prop := ∀ (w : World) (v : Value) (a b c : Int) (l : List Ch), RowG 5 w v (l.map chL) → Calls Try.prog f #[.agg #[.int .i64 a, .int .i64 b, .int .i64 c], v] w fun q w' => ∃ r s t e, q = .returned (.tuple #[.agg (cells18 r s t), .int .i64 e]) ∧ Below w.heap.size w w' ∧ RollR a b c l r s t e
end Go.Proofs.Ytkccladbcehdbaa
