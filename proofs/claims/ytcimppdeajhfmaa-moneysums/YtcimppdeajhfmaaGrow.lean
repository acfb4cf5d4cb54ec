/- A row of numbers that a call builds by append, one number at a time. -/
import Derived.Test.YtcimppdeajhfmaaAlive
namespace Go.Proofs.Ytcimppdeajhfmaa
open Go.RowKit
/-- Since the world w, below its end nothing has turned; the slice value v owns the numbers zs, in memory that is new since. -/
structure Grow (w wr : World) (v : Value) (zs : List Int) : Prop where
  below : Below w.heap.size w wr
  owns : wr.ownsRow w.heap.size 2 1 v zs.length (zs.map (Value.int .i64))
  small : ∀ z ∈ zs, In64 z
theorem Grow.nil (w wr : World) (h : Below w.heap.size w wr) : Grow w wr (.slice none 0 0) [] :=
  ⟨h, World.ownsRow_nil _ _ _ _, fun z hz => by cases hz⟩
theorem Grow.row {w wr : World} {v : Value} {zs : List Int} (h : Grow w wr v zs) (hm : zs.length ≤ maxLen) : Row wr v zs := by
  obtain ⟨h1, h2⟩ := h.owns
  rcases h2 with ⟨rfl, h0⟩ | ⟨g, cap, cur, rfl, _⟩
  · exact Or.inl ⟨none, 0, rfl, List.eq_nil_of_length_eq_zero h0⟩
  · by_cases h0 : zs.length = 0
    · rw [h0]; exact Or.inl ⟨_, cap, rfl, List.eq_nil_of_length_eq_zero h0⟩
    · refine Or.inr ⟨g, 0, cap, rfl, by omega, hm, fun j hj => ?_, h.small⟩
      rw [Nat.zero_add, h.owns.cellAt j (by omega)]
      simp [List.getD, hj]
theorem push_law {ops : Array Oper} {rest : List Oper} {o : Oper} {a : Act} {Q : Exit → Act → World → Prop} (hgd : o.guard = none) (s x : Operand)
    (ho : o.op = .call { callee := .builtin .append, args := #[s, x], argTypes := #[29, 29] })
    (w wr : World) (v : Value) (zs : List Int) (z : Int) (hG : Grow w wr v zs) (hs : a.eval s = v) (hx : a.eval x = .slice (some ⟨wr.heap.size, 0, none⟩) 1 1)
    (hlen : zs.length ≤ 1000000) (hz : In64 z)
    (h : ∀ v' w', Grow w w' v' (zs ++ [z]) → wpList Try.prog ops Q rest (a.put o.dst v') w') : wpList Try.prog ops Q (o :: rest) a (wr.alloc (.cells #[.int .i64 z] 2)) := by
  obtain ⟨i0, hi, hz0, hz1, hz2⟩ := info_parts Try.info2
  have hsize := hG.below.size
  refine wpList_append_own _ hgd s x 29 ho w.heap.size 2 i0 (.int .i64 0) 1 8 Try.underlying29 hi hz0 hz1 hz2 rfl (by decide) v zs.length _ hs (hG.owns.alloc _) ⟨wr.heap.size, 0, none⟩ 1 1 [.int .i64 z] hx rfl ?_ ?_ (by unfold maxLen; omega) (by omega) (by simp; omega) ?_
  · intro j u hj
    match j, hj with
    | 0, hj => simp at hj; subst hj; simp [Addr.add]
  · intro u hu; simp at hu; subst hu; rfl
  · intro v' w' hown hgrow _
    refine h v' w' ⟨?_, ?_, ?_⟩
    · exact (hG.below.alloc hsize _).grown hgrow (by simp; omega) (fun k hk => (hG.owns.lt k hk).1)
    · simpa using hown
    · intro u hu
      rcases List.mem_append.1 hu with hu | hu
      · exact hG.small u hu
      · simp at hu; subst hu; exact hz
end Go.Proofs.Ytcimppdeajhfmaa
