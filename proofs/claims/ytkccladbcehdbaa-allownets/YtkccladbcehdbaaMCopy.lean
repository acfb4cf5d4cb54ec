/- Rows appended to rows: from any slice of numbers, nil and empty ones too. -/
import Derived.Test.YtkccladbcehdbaaMSum
import Derived.Deep.RegionLaw
import Derived.Laws.IdiomCopy
namespace Go.Proofs.Ytkccladbcehdbaa.Mn
open Go.RowKit
/-- The value x, in the world W, is a slice whose elements are the numbers ys. -/
def From (W : World) (x : Value) (ys : List Int) : Prop :=
  (x = .slice none 0 0 ∧ ys = []) ∨ ∃ ad c, x = .slice (some ad) ys.length c ∧ ∀ j, j < ys.length → W.cell? (ad.add j) = some (.int .i64 (ys.getD j 0))
theorem wp_from {o : Oper} {a : Act} {K : Act → World → Prop} {Q : Exit → Act → World → Prop} (s x : Operand)
    (ho : o.op = .call { callee := .builtin .append, args := #[s, x], argTypes := #[64, 64] })
    (w W : World) (v u : Value) (zs ys : List Int) (hG : Grow 2 w W v zs) (hF : From W u ys) (hs : a.eval s = v) (hx : a.eval x = u)
    (hlen : zs.length + ys.length ≤ 1000000) (hy : ∀ y ∈ ys, In64 y)
    (h : ∀ v' W', Grow 2 w W' v' (zs ++ ys) → K (a.put o.dst v') W') : o.wp Try.prog a W K Q := by
  obtain ⟨i0, hi, hz0, hz1, hz2⟩ := info_parts info2
  have hsize := hG.below.size
  rcases hF with ⟨rfl, rfl⟩ | ⟨ad, c, rfl, hc⟩
  · have hrun := run_append_owned_none (P := Try.prog) W w.heap.size 64 o.type 2 i0 1 Try.underlying64 hi v zs.length _ hG.owns
    unfold Oper.wp
    simp [execOp, ho, resolve, invoke, builtin, hs, hx, hrun, Result.andThen]
    have := h v W (by simpa using hG)
    exact this
  · refine wp_append_own W s x 64 ho w.heap.size 2 i0 (.int .i64 0) 1 8 Try.underlying64 hi hz0 hz1 hz2 rfl (by decide) v zs.length _ hs hG.owns ad ys.length c (ys.map (Value.int .i64)) hx (by simp) ?_ (ints_oneCell _ _) (by unfold maxLen; omega) (by omega) hsize ?_
    · intro j y hj
      have hjl : j < ys.length := by
        have := (List.getElem?_eq_some_iff.1 hj).1
        simpa using this
      rw [hc j hjl]
      rw [List.getElem?_map] at hj
      simpa [List.getD, hjl] using hj
    · intro v' W' hown hgrow _
      refine h v' W' ⟨?_, ?_, ?_⟩
      · exact hG.below.grown hgrow hsize (fun k hk => (hG.owns.lt k hk).1)
      · simpa using hown
      · intro y hy'
        rcases List.mem_append.1 hy' with h1 | h1
        · exact hG.small y h1
        · exact hy y h1
theorem list_from {ops : Array Oper} {rest : List Oper} {o : Oper} {a : Act} {Q : Exit → Act → World → Prop} (hgd : o.guard = none) (s x : Operand)
    (ho : o.op = .call { callee := .builtin .append, args := #[s, x], argTypes := #[64, 64] })
    (w W : World) (v u : Value) (zs ys : List Int) (hG : Grow 2 w W v zs) (hF : From W u ys) (hs : a.eval s = v) (hx : a.eval x = u)
    (hlen : zs.length + ys.length ≤ 1000000) (hy : ∀ y ∈ ys, In64 y)
    (h : ∀ v' W', Grow 2 w W' v' (zs ++ ys) → wpList Try.prog ops Q rest (a.put o.dst v') W') : wpList Try.prog ops Q (o :: rest) a W :=
  wpList_plain hgd fun _ hK => wp_from s x ho w W v u zs ys hG hF hs hx hlen hy fun v' W' h2 => hK _ _ (h v' W' h2)
theorem step_from {ops : Array Oper} {o : Oper} {a : Act} {K : Act → World → Prop} {Q : Exit → Act → World → Prop} {E : Prop} (hgd : o.guard = none) (s x : Operand)
    (ho : o.op = .call { callee := .builtin .append, args := #[s, x], argTypes := #[64, 64] })
    (w W : World) (v u : Value) (zs ys : List Int) (hG : Grow 2 w W v zs) (hF : From W u ys) (hs : a.eval s = v) (hx : a.eval x = u)
    (hlen : zs.length + ys.length ≤ 1000000) (hy : ∀ y ∈ ys, In64 y)
    (h : ∀ v' W', Grow 2 w W' v' (zs ++ ys) → K (a.put o.dst v') W') :
    if Region.wanted o (yielded ops a.tmps) = true then Oper.wp Try.prog o a W K Q else E := by
  have hw : Region.wanted o (yielded ops a.tmps) = true := by simp [Region.wanted, hgd]
  rw [if_pos hw]
  exact wp_from s x ho w W v u zs ys hG hF hs hx hlen hy h
/-- The empty slice that is written out. -/
theorem Grow.empty (w W : World) (h : Below w.heap.size w W) : Grow 2 w (W.alloc (.cells #[] 2)) (.slice (some ⟨W.heap.size, 0, none⟩) 0 0) [] :=
  ⟨h.alloc h.size _, W.ownsRow_lit #[] 0 h.size (by decide) rfl, fun z hz => (by cases hz)⟩
theorem Grow.drew {w W : World} {v : Value} {zs : List Int} (h : Grow 2 w W v zs) : Grow 2 w W.drew v zs := ⟨h.below.drew, h.owns, h.small⟩
theorem From.later {W W' : World} {x : Value} {ys : List Int} (h : From W x ys) (hc : ∀ a y, W.cell? a = some y → W'.cell? a = some y) : From W' x ys := by
  rcases h with h | ⟨ad, c, h1, h2⟩
  · exact Or.inl h
  · exact Or.inr ⟨ad, c, h1, fun j hj => hc _ _ (h2 j hj)⟩
end Go.Proofs.Ytkccladbcehdbaa.Mn
