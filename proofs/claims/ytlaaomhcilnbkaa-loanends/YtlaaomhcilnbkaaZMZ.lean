/- Rows of numbers appended to rows, and zeros appended to them. -/
import Derived.Test.YtlaaomhcilnbkaaZQJ
import Derived.Laws.IdiomCopy
import Derived.Deep.RegionLaw
set_option linter.unusedVariables false
set_option linter.unusedSimpArgs false
set_option linter.unusedSectionVars false
namespace Go.Proofs.Ytlaaomhcilnbkaa.Mn
open Go.RowKit
attribute [local simp] Tri.typeInfo Tri.sizeOf Tri.underlying Tri.runUnderlying Tri.isAgg Tri.zeroValue Tri.depth Tri.stoodInHeld Tri.eqGuardType Tri.call16 Tri.call22 Tri.call28 Tri.call29 Tri.call33 Tri.call38 Tri.call39 Tri.call42 Tri.call45 Tri.call48 Tri.call52 Tri.call54 Tri.call62 Tri.call63 Tri.call65 Tri.call66 Tri.call68 Tri.call69 Tri.call70 Tri.call71 Tri.call78 Tri.call79 Tri.call80 Tri.call81 Tri.call82 Tri.call83 Tri.call84 Tri.call85 Tri.call86 Tri.call89 Tri.call101 Tri.call102 Tri.call103 Tri.call104 Tri.call105 Tri.call107 Tri.call113 Tri.call123 Tri.call124 Tri.call125 Tri.call126 Tri.call127 Tri.call136 Tri.call138 Tri.call139 Tri.call140 Tri.call141 Tri.call142 Tri.call143 Tri.call144 Tri.call154 Tri.call155 Tri.call165 Tri.call167 Tri.call184
theorem row_len {w : World} {a : Option Addr} {n c : Nat} {zs : List Int} (h : Row w (.slice a n c) zs) : n = zs.length := by
  obtain ⟨a', c', e⟩ := row_slice h
  cases e
  rfl
theorem row_cell {w : World} {b off n c : Nat} {zs : List Int} (h : Row w (.slice (some ⟨b, off, none⟩) n c) zs) {j : Nat} (hj : j < zs.length) : w.cell? ⟨b, off + j, none⟩ = some (.int .i64 (zs.getD j 0)) := by
  rcases h with ⟨a, cap, h1, h2⟩ | ⟨b', off', cap, h1, _, _, hc, _⟩
  · rw [h2] at hj; exact absurd hj (Nat.not_lt_zero j)
  · cases h1
    exact hc j hj
theorem row_in {w : World} {v : Value} {zs : List Int} (h : Row w v zs) : ∀ z ∈ zs, In64 z := by
  rcases h with ⟨a, cap, _, h2⟩ | ⟨b', off', cap, h1, _, _, _, h⟩
  · rw [h2]; intro z hz; cases hz
  · exact h
/-- The value x, in the world W, is a slice whose elements are the numbers ys. -/
def From (W : World) (x : Value) (ys : List Int) : Prop :=
  (x = .slice none 0 0 ∧ ys = []) ∨ ∃ ad c, x = .slice (some ad) ys.length c ∧ ∀ j, j < ys.length → W.cell? (ad.add j) = some (.int .i64 (ys.getD j 0))
theorem wp_from {o : Oper} {a : Act} {K : Act → World → Prop} {Q : Exit → Act → World → Prop} (s x : Operand)
    (ho : o.op = .call { callee := .builtin .append, args := #[s, x], argTypes := #[22, 22] })
    (w W : World) (v u : Value) (zs ys : List Int) (hG : Grow 2 w W v zs) (hF : From W u ys) (hs : a.eval s = v) (hx : a.eval x = u)
    (hlen : zs.length + ys.length ≤ 1000000) (hy : ∀ y ∈ ys, In64 y)
    (h : ∀ v' W', Grow 2 w W' v' (zs ++ ys) → K (a.put o.dst v') W') : o.wp (Tri Try.prog) a W K Q := by
  obtain ⟨i0, hi, hz0, hz1, hz2⟩ := info_parts info2
  have hsize := hG.below.size
  rcases hF with ⟨rfl, rfl⟩ | ⟨ad, c, rfl, hc⟩
  · have hrun := run_append_owned_none (P := (Tri Try.prog)) W w.heap.size 22 o.type 2 i0 1 (Tri.und Try.underlying22) hi v zs.length _ hG.owns
    unfold Oper.wp
    simp [execOp, ho, resolve, invoke, builtin, hs, hx, hrun, Result.andThen]
    have := h v W (by simpa using hG)
    exact this
  · refine wp_append_own W s x 22 ho w.heap.size 2 i0 (.int .i64 0) 1 8 (Tri.und Try.underlying22) hi hz0 hz1 hz2 rfl (by decide) v zs.length _ hs hG.owns ad ys.length c (ys.map (Value.int .i64)) hx (by simp) ?_ (ints_oneCell _ _) (by unfold maxLen; omega) (by omega) hsize ?_
    · intro j y hj
      have hjl : j < ys.length := by
        have := (List.getElem?_eq_some_iff.1 hj).1
        simpa using this
      rw [hc j hjl]
      rw [List.getElem?_map] at hj
      simpa [List.getD, hjl] using hj
    · intro v' W' hown hgrow _
      refine h v' W' ⟨?_, ?_, ?_⟩
      · exact hG.below.grown hgrow hsize (fun k hk => (hG.owns.lt k hk).1)
      · simpa using hown
      · intro y hy'
        rcases List.mem_append.1 hy' with h1 | h1
        · exact hG.small y h1
        · exact hy y h1
theorem list_from {ops : Array Oper} {rest : List Oper} {o : Oper} {a : Act} {Q : Exit → Act → World → Prop} (hgd : o.guard = none) (s x : Operand)
    (ho : o.op = .call { callee := .builtin .append, args := #[s, x], argTypes := #[22, 22] })
    (w W : World) (v u : Value) (zs ys : List Int) (hG : Grow 2 w W v zs) (hF : From W u ys) (hs : a.eval s = v) (hx : a.eval x = u)
    (hlen : zs.length + ys.length ≤ 1000000) (hy : ∀ y ∈ ys, In64 y)
    (h : ∀ v' W', Grow 2 w W' v' (zs ++ ys) → wpList (Tri Try.prog) ops Q rest (a.put o.dst v') W') : wpList (Tri Try.prog) ops Q (o :: rest) a W :=
  wpList_plain hgd fun _ hK => wp_from s x ho w W v u zs ys hG hF hs hx hlen hy fun v' W' h2 => hK _ _ (h v' W' h2)
theorem from_row {W : World} {a : Option Addr} {n c : Nat} {zs : List Int} (h : Row W (.slice a n c) zs) (hn : a = none → c = 0) : From W (.slice a n c) zs := by
  have hl := row_len h
  rcases h with ⟨a', c', e, rfl⟩ | ⟨b, off, c', e, _, _, hc, _⟩
  · injection e with e1 e2 e3
    subst e1 e2 e3
    cases a with
    | none =>
      rw [hn rfl]
      exact Or.inl ⟨rfl, rfl⟩
    | some x => exact Or.inr ⟨x, c, rfl, fun j hj => absurd hj (Nat.not_lt_zero j)⟩
  · injection e with e1 e2 e3
    subst e1 e2 e3
    refine Or.inr ⟨_, _, rfl, fun j hj => ?_⟩
    rw [← hc j hj, Addr.add_lit]
theorem wrap_small (n : Nat) (h : n ≤ 255) : IntKind.i64.wrap (n : Int) = (n : Int) := by rw [IntKind.wrap_i64]; omega
end Go.Proofs.Ytlaaomhcilnbkaa.Mn
