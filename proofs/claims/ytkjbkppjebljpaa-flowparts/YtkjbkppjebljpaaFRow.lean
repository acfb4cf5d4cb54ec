/- Rows of flows: such as come in, such as are appended to; over any types of elements of two numbers. -/
import Derived.Test.YtkjbkppjebljpaaRow
import Derived.Test.YtkjbkppjebljpaaFNum
import Derived.Deep.SlicePairs
import Derived.Deep.AppendLies
namespace Go.Proofs.Ytkjbkppjebljpaa
open Go.RowKit
set_option linter.unusedSimpArgs false
/-- The slice value v leads, in the world w, to the flows l (a nil or empty one to none). -/
def RowF (w : World) (v : Value) (l : List (Int × Int)) : Prop :=
  (∃ a cap, v = .slice a 0 cap ∧ l = [] ∧ (a = none → cap = 0)) ∨
  ∃ b off cap, v = .slice (some ⟨b, off, none⟩) l.length cap ∧ 0 < l.length ∧ l.length ≤ cap ∧ cap ≤ maxLen ∧ (∀ j, j < l.length → w.cell? ⟨b, off + j * 2, none⟩ = some (.int .i64 (l.getD j (0, 0)).1) ∧ w.cell? ⟨b, off + j * 2 + 1, none⟩ = some (.int .i64 (l.getD j (0, 0)).2)) ∧ ∀ f ∈ l, In64 f.1 ∧ In64 f.2
theorem rowF_slice {w : World} {v : Value} {l : List (Int × Int)} (h : RowF w v l) : ∃ a cap, v = .slice a l.length cap := by
  rcases h with ⟨a, cap, rfl, rfl, _⟩ | ⟨b, off, cap, rfl, _⟩
  · exact ⟨a, cap, rfl⟩
  · exact ⟨_, cap, rfl⟩
theorem RowF.small {w : World} {v : Value} {l : List (Int × Int)} (h : RowF w v l) : ∀ f ∈ l, In64 f.1 ∧ In64 f.2 := by
  rcases h with ⟨a, cap, rfl, rfl, _⟩ | ⟨b, off, cap, rfl, _, _, _, _, h⟩
  · intro f hf; cases hf
  · exact h
theorem RowF.later {w w' : World} {v : Value} {l : List (Int × Int)} (h : RowF w v l) (hc : ∀ a x, w.cell? a = some x → w'.cell? a = some x) : RowF w' v l := by
  rcases h with h | ⟨b, off, cap, h1, h2, h3, h6, h4, h5⟩
  · exact Or.inl h
  · exact Or.inr ⟨b, off, cap, h1, h2, h3, h6, fun j hj => ⟨hc _ _ (h4 j hj).1, hc _ _ (h4 j hj).2⟩, h5⟩
theorem RowF.blk {w w' : World} {v : Value} {l : List (Int × Int)} (h : RowF w v l) (hk : ∀ k, v.ownBlock = some k → k < w.heap.size → w'.heap[k]? = w.heap[k]?) : RowF w' v l := by
  rcases h with h | ⟨b, off, cap, h1, h2, h3, h6, h4, h5⟩
  · exact Or.inl h
  · refine Or.inr ⟨b, off, cap, h1, h2, h3, h6, fun j hj => ?_, h5⟩
    have e := hk b (by rw [h1]; rfl) (lt_of_cell (h4 j hj).1)
    exact ⟨(World.cell?_of_block (a := ⟨b, off + j * 2, none⟩) e).trans (h4 j hj).1, (World.cell?_of_block (a := ⟨b, off + j * 2 + 1, none⟩) e).trans (h4 j hj).2⟩
theorem RowF.below {B : Nat} {w w' : World} {v : Value} {l : List (Int × Int)} (h : RowF w v l) (hb : Below B w w') (hB : w.heap.size ≤ B) : RowF w' v l := h.blk (fun k _ hlt => hb.block k (Nat.lt_of_lt_of_le hlt hB))
theorem RowF.keep {w w' : World} {v : Value} {l : List (Int × Int)} (h : RowF w v l) (hb : Below w.heap.size w w') : RowF w' v l := h.below hb (Nat.le_refl _)
theorem RowF.alloc {w : World} {v : Value} {l : List (Int × Int)} (h : RowF w v l) (o : Obj) : RowF (w.alloc o) v l := h.below ((Below.refl w.heap.size w).alloc (Nat.le_refl _) o) (Nat.le_refl _)
/-- The cells of flows, one behind the other. -/
def flat : List (Int × Int) → List Value
  | [] => []
  | f :: r => .int .i64 f.1 :: .int .i64 f.2 :: flat r
theorem flat_len (l : List (Int × Int)) : (flat l).length = l.length * 2 := by
  induction l with
  | nil => rfl
  | cons f r ih => simp only [flat, List.length_cons, ih]; omega
theorem flat_append (l m : List (Int × Int)) : flat (l ++ m) = flat l ++ flat m := by
  induction l with
  | nil => rfl
  | cons f r ih => simp only [List.cons_append, flat, ih]
theorem flat_at (l : List (Int × Int)) : ∀ j, j < l.length → (flat l)[j * 2]? = some (.int .i64 (l.getD j (0, 0)).1) ∧ (flat l)[j * 2 + 1]? = some (.int .i64 (l.getD j (0, 0)).2) := by
  induction l with
  | nil => intro j hj; simp at hj
  | cons f r ih =>
    intro j hj
    cases j with
    | zero => exact ⟨rfl, rfl⟩
    | succ k =>
      have := ih k (by simpa using hj)
      rw [show (k + 1) * 2 = k * 2 + 2 from by omega]
      simp only [flat, List.getElem?_cons_succ, List.getD_cons_succ]
      exact this
/-- Since the world w, below its end nothing has turned; the slice value v owns the flows l, in memory that is new since; their type is E. -/
structure GrowF (E : TypeId) (w wr : World) (v : Value) (l : List (Int × Int)) : Prop where
  below : Below w.heap.size w wr
  owns : wr.ownsRow w.heap.size E 2 v l.length (flat l)
  small : ∀ f ∈ l, In64 f.1 ∧ In64 f.2
theorem GrowF.nil (E : TypeId) (w wr : World) (h : Below w.heap.size w wr) : GrowF E w wr (.slice none 0 0) [] :=
  ⟨h, World.ownsRow_nil _ _ _ _, fun z hz => by cases hz⟩
theorem GrowF.keep {E : TypeId} {w wr wr' : World} {v : Value} {l : List (Int × Int)} (h : GrowF E w wr v l) (hb : Below wr.heap.size wr wr') : GrowF E w wr' v l := by
  obtain ⟨h1, ⟨h2, h3⟩, h4⟩ := h
  refine ⟨below_via h1 hb, ⟨h2, ?_⟩, h4⟩
  rcases h3 with h3 | ⟨g, cap, cur, e1, e2, e3, e4⟩
  · exact Or.inl h3
  · exact Or.inr ⟨g, cap, cur, e1, e2, (hb.block g (Array.getElem?_eq_some_iff.1 e3).1).trans e3, e4⟩
theorem GrowF.row {E : TypeId} {w wr : World} {v : Value} {l : List (Int × Int)} (h : GrowF E w wr v l) : RowF wr v l := by
  obtain ⟨h1, h2⟩ := h.owns
  rcases h2 with ⟨rfl, h0⟩ | ⟨g, cap, cur, rfl, _, _, h5, h6, _⟩
  · exact Or.inl ⟨none, 0, rfl, List.eq_nil_of_length_eq_zero h0, fun _ => rfl⟩
  · by_cases h0 : l.length = 0
    · rw [h0]; exact Or.inl ⟨_, cap, rfl, List.eq_nil_of_length_eq_zero h0, fun c => (by cases c)⟩
    · refine Or.inr ⟨g, 0, cap, rfl, by omega, h5, h6, fun j hj => ?_, h.small⟩
      rw [Nat.zero_add, h.owns.cellAt (j * 2) (by omega), h.owns.cellAt (j * 2 + 1) (by omega)]
      exact flat_at l j hj
theorem GrowF.at_least {E : TypeId} {w wr : World} {v : Value} {l : List (Int × Int)} (h : GrowF E w wr v l) : ∀ k, v.ownBlock = some k → w.heap.size ≤ k ∧ k < wr.heap.size := h.owns.lt
/-- Two values that own no block together. -/
def Apart (v u : Value) : Prop := ∀ k, v.ownBlock = some k → u.ownBlock ≠ some k
theorem Apart.symm {v u : Value} (h : Apart v u) : Apart u v := fun k hk hv => h k hv hk
theorem GrowF.grown {E : TypeId} {w wr wr' : World} {v : Value} {l : List (Int × Int)} {row : Option Nat} (h : GrowF E w wr v l) (hg : wr.grownBy wr' row) (hv : ∀ k, v.ownBlock = some k → row ≠ some k) (hr : ∀ k, row = some k → w.heap.size ≤ k) : GrowF E w wr' v l :=
  ⟨h.below.grown hg h.below.size hr, h.owns.kept hg (by
    cases e : v.ownBlock with
    | none => exact Or.inl rfl
    | some k => exact Or.inr (fun c => hv k e c.symm)), h.small⟩
theorem pushF_lies {ops : Array Oper} {rest : List Oper} {o : Oper} {a : Act} {Q : Exit → Act → World → Prop} (E T : TypeId) (hu : Try.prog.underlying T = some (.slice E)) (hinfo : (Try.prog.info? E).map (fun i => (i.zero, i.size, i.bytes)) = some (some (.agg #[.int .i64 0, .int .i64 0]), 2, 16))
    (hgd : o.guard = none) (s x : Operand)
    (ho : o.op = .call { callee := .builtin .append, args := #[s, x], argTypes := #[T, T] })
    (w wr : World) (v : Value) (l : List (Int × Int)) (f : Int × Int) (hG : GrowF E w wr v l) (hs : a.eval s = v) (hx : a.eval x = .slice (some ⟨wr.heap.size, 0, none⟩) 1 1)
    (hlen : l.length ≤ 1000000) (hf : In64 f.1 ∧ In64 f.2)
    (h : ∀ v' w', GrowF E w w' v' (l ++ [f]) → wr.grownBy w' v.ownBlock → (∀ k, v'.ownBlock = some k → v.ownBlock = some k ∨ wr.heap.size ≤ k) → wpList Try.prog ops Q rest (a.put o.dst v') w') : wpList Try.prog ops Q (o :: rest) a (wr.alloc (.cells #[.int .i64 f.1, .int .i64 f.2] E)) := by
  obtain ⟨i0, hi, hz0, hz1, hz2⟩ := info_parts hinfo
  have hsize := hG.below.size
  refine wpList_append_lies _ hgd s x T ho w.heap.size E i0 (.agg #[.int .i64 0, .int .i64 0]) 2 16 hu hi hz0 hz1 hz2 rfl (by decide) v l.length _ hs (hG.owns.alloc _) ⟨wr.heap.size, 0, none⟩ 1 1 [.int .i64 f.1, .int .i64 f.2] hx rfl ?_ ?_ (by decide) (by unfold maxLen; omega) (by omega) (by simp; omega) (wr.heap.size + 1) (by simp) ?_
  · intro j u hj
    match j, hj with
    | 0, hj => simp at hj; subst hj; simp [Addr.add]
    | 1, hj => simp at hj; subst hj; simp [Addr.add]
  · intro u hu
    simp at hu
    rcases hu with rfl | rfl <;> rfl
  · intro g cap w' hown hgrow hg _
    refine h _ w' ⟨?_, ?_, ?_⟩ ⟨hgrow.os, hgrow.tape, hgrow.output, by have := hgrow.size; simp at this; omega, fun k hk hne => ?_⟩ (fun k hk => ?_)
    · exact (hG.below.alloc hsize _).grown hgrow (by simp; omega) (fun k hk => (hG.owns.lt k hk).1)
    · rw [flat_append]
      simpa [flat] using hown
    · intro u hu
      rcases List.mem_append.1 hu with hu | hu
      · exact hG.small u hu
      · simp at hu; subst hu; exact hf
    · rw [hgrow.block k (by simp; omega) hne]
      exact Below.heap_alloc _ _ k hk
    · simp [Value.ownBlock] at hk
      subst hk
      rcases hg with hg | hg
      · exact Or.inl hg
      · exact Or.inr (by omega)
theorem pushF_law {ops : Array Oper} {rest : List Oper} {o : Oper} {a : Act} {Q : Exit → Act → World → Prop} (E T : TypeId) (hu : Try.prog.underlying T = some (.slice E)) (hinfo : (Try.prog.info? E).map (fun i => (i.zero, i.size, i.bytes)) = some (some (.agg #[.int .i64 0, .int .i64 0]), 2, 16))
    (hgd : o.guard = none) (s x : Operand)
    (ho : o.op = .call { callee := .builtin .append, args := #[s, x], argTypes := #[T, T] })
    (w wr : World) (v : Value) (l : List (Int × Int)) (f : Int × Int) (hG : GrowF E w wr v l) (hs : a.eval s = v) (hx : a.eval x = .slice (some ⟨wr.heap.size, 0, none⟩) 1 1)
    (hlen : l.length ≤ 1000000) (hf : In64 f.1 ∧ In64 f.2)
    (h : ∀ v' w', GrowF E w w' v' (l ++ [f]) → wpList Try.prog ops Q rest (a.put o.dst v') w') : wpList Try.prog ops Q (o :: rest) a (wr.alloc (.cells #[.int .i64 f.1, .int .i64 f.2] E)) :=
  pushF_lies E T hu hinfo hgd s x ho w wr v l f hG hs hx hlen hf (fun v' w' h1 _ _ => h v' w' h1)
/-- Append to one of two rows. -/
theorem pushF_pair {ops : Array Oper} {rest : List Oper} {o : Oper} {a : Act} {Q : Exit → Act → World → Prop} (E T : TypeId) (hu : Try.prog.underlying T = some (.slice E)) (hinfo : (Try.prog.info? E).map (fun i => (i.zero, i.size, i.bytes)) = some (some (.agg #[.int .i64 0, .int .i64 0]), 2, 16))
    (hgd : o.guard = none) (s x : Operand)
    (ho : o.op = .call { callee := .builtin .append, args := #[s, x], argTypes := #[T, T] })
    (w wr : World) (v u : Value) (l m : List (Int × Int)) (f : Int × Int) (hG : GrowF E w wr v l) (hU : GrowF E w wr u m) (hA : Apart v u) (hs : a.eval s = v) (hx : a.eval x = .slice (some ⟨wr.heap.size, 0, none⟩) 1 1)
    (hlen : l.length ≤ 1000000) (hf : In64 f.1 ∧ In64 f.2)
    (h : ∀ v' w', GrowF E w w' v' (l ++ [f]) → GrowF E w w' u m → Apart v' u → wpList Try.prog ops Q rest (a.put o.dst v') w') : wpList Try.prog ops Q (o :: rest) a (wr.alloc (.cells #[.int .i64 f.1, .int .i64 f.2] E)) :=
  pushF_lies E T hu hinfo hgd s x ho w wr v l f hG hs hx hlen hf (fun v' w' h1 h2 h3 => h v' w' h1 (hU.grown h2 (fun k hk hr => hA k hr hk) (fun k hk => (hG.at_least k hk).1)) (fun k hk hk2 => by
    rcases h3 k hk with c | c
    · exact hA k c hk2
    · have := (hU.at_least k hk2).2
      omega))
/-- A slice of flows that comes in is a row. -/
theorem rowF_open {H : Type} {enc : TypeId × Value → H} {W : World} {base : Nat} {spare : Nat → Bool} {held : Bool} {T E : TypeId} {f0 f1 : Field} {fuel : Nat} {a : Option Addr} {len cap : Nat} {x : DataW H × List MemPlace}
    (ht : Try.prog.underlying T = some (.slice E)) (he : Try.prog.underlying E = some (.struct #[f0, f1])) (ce : Try.prog.cellsOf E = 2) (o0 : f0.offset = 0) (o1 : f1.offset = 1) (c0 : Try.prog.cellsOf f0.type = 1) (c1 : Try.prog.cellsOf f1.type = 1)
    (u0 : Try.prog.underlying f0.type = some (.int .i64)) (u1 : Try.prog.underlying f1.type = some (.int .i64))
    (h : DataW.trod enc Try.prog W base spare held fuel T [.slice a len cap] = some x) : ∃ l : List (Int × Int), RowF W (.slice a len cap) l := by
  rcases Go.Deep.open_slice_pairs ht he ce o0 o1 c0 c1 h with ⟨hc, _⟩ | ⟨ad, l, c, m, n, V0, V1, D0, D1, P0, P1, hc, _, hl, hm, hmm, _, hx⟩
  · simp at hc
    obtain ⟨rfl, rfl, rfl⟩ := hc
    exact ⟨[], Or.inl ⟨_, _, rfl, rfl, fun _ => rfl⟩⟩
  · simp at hc
    obtain ⟨rfl, rfl, rfl⟩ := hc
    by_cases h0 : len = 0
    · subst h0; exact ⟨[], Or.inl ⟨_, cap, rfl, rfl, fun c => (by cases c)⟩⟩
    · have hlm : len ≤ m := by rw [hmm]; split <;> omega
      have each : ∀ i, i < len → ∃ p : Int × Int, W.cell? (ad.add (i * 2)) = some (.int .i64 p.1) ∧ W.cell? (ad.add (i * 2 + 1)) = some (.int .i64 p.2) ∧ In64 p.1 ∧ In64 p.2 := fun i hi => by
        obtain ⟨g1, g2, g3, g4⟩ := hx i (by omega)
        obtain ⟨z0, e0, _, w0⟩ := DataW.trod_int u0 g3
        obtain ⟨z1, e1, _, w1⟩ := DataW.trod_int u1 g4
        simp at e0 e1
        exact ⟨(z0, z1), by rw [g1, e0], by rw [g2, e1], in64_of w0, in64_of w1⟩
      obtain ⟨q, hq⟩ : ∃ q : Nat → Int × Int, ∀ i, i < len → W.cell? (ad.add (i * 2)) = some (.int .i64 (q i).1) ∧ W.cell? (ad.add (i * 2 + 1)) = some (.int .i64 (q i).2) ∧ In64 (q i).1 ∧ In64 (q i).2 :=
        (Classical.skolem (p := fun i (p : Int × Int) => i < len → W.cell? (ad.add (i * 2)) = some (.int .i64 p.1) ∧ W.cell? (ad.add (i * 2 + 1)) = some (.int .i64 p.2) ∧ In64 p.1 ∧ In64 p.2)).1 (fun i => by
          by_cases hi : i < len
          · obtain ⟨p, hp⟩ := each i hi
            exact ⟨p, fun _ => hp⟩
          · exact ⟨(0, 0), fun c => absurd c hi⟩)
      obtain ⟨b, off, spot⟩ := ad
      have hspot : spot = none := by simpa [Addr.add] using World.cell?_spot (hq 0 (by omega)).1
      subst hspot
      have hlen : ((List.range len).map q).length = len := by simp
      refine ⟨(List.range len).map q, Or.inr ⟨b, off, cap, by rw [hlen], by omega, by omega, by omega, fun j hj => ?_, fun f hf => ?_⟩⟩
      · rw [hlen] at hj
        have e : ((List.range len).map q).getD j (0, 0) = q j := by simp [List.getD, hj]
        have g := hq j hj
        rw [Go.WideShapes.add_plain, Go.WideShapes.add_plain] at g
        rw [e]
        exact ⟨g.1, by rw [Nat.add_assoc]; exact g.2.1⟩
      · obtain ⟨j, hj, rfl⟩ := List.mem_map.1 hf
        exact (hq j (List.mem_range.1 hj)).2.2
end Go.Proofs.Ytkjbkppjebljpaa
