/- Rows of numbers that are appended to in turn, four of them. -/
import Derived.Test.YtpncdjejngkpgaaVFacts
import Derived.Deep.AppendLies
namespace Go.Proofs.Ytpncdjejngkpgaa.Mn
open Go.RowKit
set_option linter.unusedSimpArgs false
theorem Grow.at_least {E : TypeId} {w wr : World} {v : Value} {l : List Int} (h : Grow E w wr v l) : ∀ k, v.ownBlock = some k → w.heap.size ≤ k ∧ k < wr.heap.size := h.owns.lt
/-- Two values that own no block together. -/
def Apart (v u : Value) : Prop := ∀ k, v.ownBlock = some k → u.ownBlock ≠ some k
theorem Apart.symm {v u : Value} (h : Apart v u) : Apart u v := fun k hk hv => h k hv hk
theorem Apart.none (v : Value) : Apart (.slice none 0 0) v := fun k hk => by simp [Value.ownBlock] at hk
theorem Grow.grown {E : TypeId} {w wr wr' : World} {v : Value} {l : List Int} {row : Option Nat} (h : Grow E w wr v l) (hg : wr.grownBy wr' row) (hv : ∀ k, v.ownBlock = some k → row ≠ some k) (hr : ∀ k, row = some k → w.heap.size ≤ k) : Grow E w wr' v l :=
  ⟨h.below.grown hg h.below.size hr, h.owns.kept hg (by
    cases e : v.ownBlock with
    | none => exact Or.inl rfl
    | some k => exact Or.inr (fun c => hv k e c.symm)), h.small⟩
theorem push_lies {ops : Array Oper} {rest : List Oper} {o : Oper} {a : Act} {Q : Exit → Act → World → Prop} (hgd : o.guard = none) (s x : Operand)
    (ho : o.op = .call { callee := .builtin .append, args := #[s, x], argTypes := #[22, 22] })
    (w wr : World) (v : Value) (l : List Int) (z : Int) (hG : Grow 2 w wr v l) (hs : a.eval s = v) (hx : a.eval x = .slice (some ⟨wr.heap.size, 0, none⟩) 1 1)
    (hlen : l.length ≤ 1000000) (hz : In64 z)
    (h : ∀ v' w', Grow 2 w w' v' (l ++ [z]) → wr.grownBy w' v.ownBlock → (∀ k, v'.ownBlock = some k → v.ownBlock = some k ∨ wr.heap.size ≤ k) → wpList Try.prog ops Q rest (a.put o.dst v') w') : wpList Try.prog ops Q (o :: rest) a (wr.alloc (.cells #[.int .i64 z] 2)) := by
  obtain ⟨i0, hi, hz0, hz1, hz2⟩ := info_parts info2
  have hsize := hG.below.size
  refine wpList_append_lies _ hgd s x 22 ho w.heap.size 2 i0 (.int .i64 0) 1 8 Try.underlying22 hi hz0 hz1 hz2 rfl (by decide) v l.length _ hs (hG.owns.alloc _) ⟨wr.heap.size, 0, none⟩ 1 1 [.int .i64 z] hx rfl ?_ ?_ (by decide) (by unfold maxLen; omega) (by omega) (by simp; omega) (wr.heap.size + 1) (by simp) ?_
  · intro j u hj
    match j, hj with
    | 0, hj => simp at hj; subst hj; simp [Addr.add]
  · intro u hu
    simp at hu
    subst hu
    rfl
  · intro g cap w' hown hgrow hg _
    refine h _ w' ⟨?_, ?_, ?_⟩ ⟨hgrow.os, hgrow.tape, hgrow.output, by have := hgrow.size; simp at this; omega, fun k hk hne => ?_⟩ (fun k hk => ?_)
    · exact (hG.below.alloc hsize _).grown hgrow (by simp; omega) (fun k hk => (hG.owns.lt k hk).1)
    · simpa using hown
    · intro u hu
      rcases List.mem_append.1 hu with hu | hu
      · exact hG.small u hu
      · simp at hu; subst hu; exact hz
    · rw [hgrow.block k (by simp; omega) hne]
      exact Below.heap_alloc _ _ k hk
    · simp [Value.ownBlock] at hk
      subst hk
      rcases hg with hg | hg
      · exact Or.inl hg
      · exact Or.inr (by omega)
/-- Four rows, each in memory of its own. -/
structure Four (w wr : World) (v1 v2 v3 v4 : Value) (l1 l2 l3 l4 : List Int) : Prop where
  g1 : Grow 2 w wr v1 l1
  g2 : Grow 2 w wr v2 l2
  g3 : Grow 2 w wr v3 l3
  g4 : Grow 2 w wr v4 l4
  p12 : Apart v1 v2
  p13 : Apart v1 v3
  p14 : Apart v1 v4
  p23 : Apart v2 v3
  p24 : Apart v2 v4
  p34 : Apart v3 v4
theorem Four.none (w wr : World) (h : Below w.heap.size w wr) : Four w wr (.slice none 0 0) (.slice none 0 0) (.slice none 0 0) (.slice none 0 0) [] [] [] [] :=
  ⟨Grow.nil _ _ _ h, Grow.nil _ _ _ h, Grow.nil _ _ _ h, Grow.nil _ _ _ h, Apart.none _, Apart.none _, Apart.none _, Apart.none _, Apart.none _, Apart.none _⟩
theorem Grow.drewN {E : TypeId} {w wr : World} {v : Value} {l : List Int} (h : Grow E w wr v l) (n : Nat) : Grow E w (wr.drewN n) v l := ⟨below_drewN h.below n, h.owns, h.small⟩
theorem Four.drewN {w wr : World} {v1 v2 v3 v4 : Value} {l1 l2 l3 l4 : List Int} (h : Four w wr v1 v2 v3 v4 l1 l2 l3 l4) (n : Nat) : Four w (wr.drewN n) v1 v2 v3 v4 l1 l2 l3 l4 :=
  ⟨h.g1.drewN n, h.g2.drewN n, h.g3.drewN n, h.g4.drewN n, h.p12, h.p13, h.p14, h.p23, h.p24, h.p34⟩
/-- What is appended to the first of them comes last. -/
theorem push4 {ops : Array Oper} {rest : List Oper} {o : Oper} {a : Act} {Q : Exit → Act → World → Prop} (hgd : o.guard = none) (s x : Operand)
    (ho : o.op = .call { callee := .builtin .append, args := #[s, x], argTypes := #[22, 22] })
    (w wr : World) (v1 v2 v3 v4 : Value) (l1 l2 l3 l4 : List Int) (z : Int) (hF : Four w wr v1 v2 v3 v4 l1 l2 l3 l4) (hs : a.eval s = v1) (hx : a.eval x = .slice (some ⟨wr.heap.size, 0, none⟩) 1 1)
    (hlen : l1.length ≤ 1000000) (hz : In64 z)
    (h : ∀ v' w', Four w w' v2 v3 v4 v' l2 l3 l4 (l1 ++ [z]) → wpList Try.prog ops Q rest (a.put o.dst v') w') : wpList Try.prog ops Q (o :: rest) a (wr.alloc (.cells #[.int .i64 z] 2)) :=
  push_lies hgd s x ho w wr v1 l1 z hF.g1 hs hx hlen hz (fun v' w' h1 h2 h3 => by
    have base : ∀ k, v1.ownBlock = some k → w.heap.size ≤ k := fun k hk => (hF.g1.at_least k hk).1
    have new : ∀ {u : Value} {l : List Int}, Grow 2 w wr u l → Apart v1 u → Apart u v' := fun {u l} hu hA k hk hk2 => by
      rcases h3 k hk2 with c | c
      · exact hA k c hk
      · have := (hu.at_least k hk).2
        omega
    have old : ∀ {u : Value} {l : List Int}, Grow 2 w wr u l → Apart v1 u → Grow 2 w w' u l := fun {u l} hu hA => hu.grown h2 (fun k hk hr => hA k hr hk) base
    exact h v' w' ⟨old hF.g2 hF.p12, old hF.g3 hF.p13, old hF.g4 hF.p14, h1, hF.p23, hF.p24, new hF.g2 hF.p12, hF.p34, new hF.g3 hF.p13, new hF.g4 hF.p14⟩)
end Go.Proofs.Ytpncdjejngkpgaa.Mn
