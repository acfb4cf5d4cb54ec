/- Rows of numbers: such as come in, such as are made, such as are appended to; what Ints answers. -/
import Derived.Test.YtkccladbcehdbaaBas
import Derived.WalkKit
import Derived.WalkSpells
import Derived.ProofKit
import Derived.OpenShut
import Derived.ShutString
import Derived.ChangeOld
import Derived.Deep.Draws
import Derived.Deep.OwnRows
import Derived.Below
namespace Go.Proofs.Ytkccladbcehdbaa.Mn
open Go.RowKit
set_option linter.unusedSimpArgs false
/-- The slice value v leads, in the world w, to the numbers zs (a nil or empty one to none). -/
def Row (w : World) (v : Value) (zs : List Int) : Prop :=
  (∃ a cap, v = .slice a 0 cap ∧ zs = []) ∨
  ∃ b off cap, v = .slice (some ⟨b, off, none⟩) zs.length cap ∧ 0 < zs.length ∧ zs.length ≤ maxLen ∧ (∀ j, j < zs.length → w.cell? ⟨b, off + j, none⟩ = some (.int .i64 (zs.getD j 0))) ∧ ∀ z ∈ zs, In64 z
theorem getD_in {zs : List Int} (h : ∀ z ∈ zs, In64 z) (k : Nat) : In64 (zs.getD k 0) := by
  by_cases hk : k < zs.length
  · have : zs.getD k 0 = zs[k] := by simp [List.getD, hk]
    rw [this]; exact h _ (List.getElem_mem hk)
  · have : zs.getD k 0 = 0 := by simp [List.getD, List.getElem?_eq_none (Nat.le_of_not_lt hk)]
    rw [this]; exact ⟨by omega, by omega⟩
theorem lt_of_cell {w : World} {b o : Nat} {v : Value} (h : w.cell? ⟨b, o, none⟩ = some v) : b < w.heap.size := by
  by_cases hb : b < w.heap.size
  · exact hb
  · exfalso
    have e : w.heap[b]? = none := Array.getElem?_eq_none (Nat.le_of_not_lt hb)
    simp [World.cell?, e] at h
def sameB (xs ys : List Int) : Bool := decide (xs = ys)
theorem sameB_refl (xs : List Int) : sameB xs xs = true := by simp [sameB]
theorem sameB_no {xs ys : List Int} (h : xs ≠ ys) : sameB xs ys = false := by simp [sameB, h]
theorem row_slice {w : World} {v : Value} {zs : List Int} (h : Row w v zs) : ∃ a cap, v = .slice a zs.length cap := by
  rcases h with ⟨a, cap, rfl, rfl⟩ | ⟨b, off, cap, rfl, _⟩
  · exact ⟨a, cap, rfl⟩
  · exact ⟨_, cap, rfl⟩
theorem ret_bool {a b : Bool} (h : a = b) : Ending.returned (.bool a) = .returned (.bool b) := by rw [h]
/-- Any part of the program that reads a row may do so in a later world. -/
theorem Row.later {w w' : World} {v : Value} {zs : List Int} (h : Row w v zs) (hc : ∀ a x, w.cell? a = some x → w'.cell? a = some x) : Row w' v zs := by
  rcases h with h | ⟨b, off, cap, h1, h2, h3, h4, h5⟩
  · exact Or.inl h
  · exact Or.inr ⟨b, off, cap, h1, h2, h3, fun j hj => hc _ _ (h4 j hj), h5⟩
theorem Row.below {B : Nat} {w w' : World} {v : Value} {zs : List Int} (h : Row w v zs) (hb : Below B w w') (hB : w.heap.size ≤ B) : Row w' v zs := by
  rcases h with h | ⟨b, off, cap, h1, h2, h3, h4, h5⟩
  · exact Or.inl h
  · exact Or.inr ⟨b, off, cap, h1, h2, h3, fun j hj => (hb.cell (p := ⟨b, off + j, none⟩) (Nat.lt_of_lt_of_le (lt_of_cell (h4 j hj)) hB)).trans (h4 j hj), h5⟩
theorem Row.alloc {w : World} {v : Value} {zs : List Int} (h : Row w v zs) (o : Obj) : Row (w.alloc o) v zs := h.below ((Below.refl w.heap.size w).alloc (Nat.le_refl _) o) (Nat.le_refl _)
/-- Since the world w, below its end nothing has turned; the slice value v owns the numbers zs, in memory that is new since. -/
structure Grow (E : TypeId) (w wr : World) (v : Value) (zs : List Int) : Prop where
  below : Below w.heap.size w wr
  owns : wr.ownsRow w.heap.size E 1 v zs.length (zs.map (Value.int .i64))
  small : ∀ z ∈ zs, In64 z
theorem Grow.nil (E : TypeId) (w wr : World) (h : Below w.heap.size w wr) : Grow E w wr (.slice none 0 0) [] :=
  ⟨h, World.ownsRow_nil _ _ _ _, fun z hz => by cases hz⟩
theorem Grow.row {E : TypeId} {w wr : World} {v : Value} {zs : List Int} (h : Grow E w wr v zs) (hm : zs.length ≤ maxLen) : Row wr v zs := by
  obtain ⟨h1, h2⟩ := h.owns
  rcases h2 with ⟨rfl, h0⟩ | ⟨g, cap, cur, rfl, _⟩
  · exact Or.inl ⟨none, 0, rfl, List.eq_nil_of_length_eq_zero h0⟩
  · by_cases h0 : zs.length = 0
    · rw [h0]; exact Or.inl ⟨_, cap, rfl, List.eq_nil_of_length_eq_zero h0⟩
    · refine Or.inr ⟨g, 0, cap, rfl, by omega, hm, fun j hj => ?_, h.small⟩
      rw [Nat.zero_add, h.owns.cellAt j (by omega)]
      simp [List.getD, hj]
theorem push_law {ops : Array Oper} {rest : List Oper} {o : Oper} {a : Act} {Q : Exit → Act → World → Prop} (E T : TypeId) (hu : Try.prog.underlying T = some (.slice E)) (hinfo : (Try.prog.info? E).map (fun i => (i.zero, i.size, i.bytes)) = some (some (.int .i64 0), 1, 8)) (hgd : o.guard = none) (s x : Operand)
    (ho : o.op = .call { callee := .builtin .append, args := #[s, x], argTypes := #[T, T] })
    (w wr : World) (v : Value) (zs : List Int) (z : Int) (hG : Grow E w wr v zs) (hs : a.eval s = v) (hx : a.eval x = .slice (some ⟨wr.heap.size, 0, none⟩) 1 1)
    (hlen : zs.length ≤ 1000000) (hz : In64 z)
    (h : ∀ v' w', Grow E w w' v' (zs ++ [z]) → wpList Try.prog ops Q rest (a.put o.dst v') w') : wpList Try.prog ops Q (o :: rest) a (wr.alloc (.cells #[.int .i64 z] E)) := by
  obtain ⟨i0, hi, hz0, hz1, hz2⟩ := info_parts hinfo
  have hsize := hG.below.size
  refine wpList_append_own _ hgd s x T ho w.heap.size E i0 (.int .i64 0) 1 8 hu hi hz0 hz1 hz2 rfl (by decide) v zs.length _ hs (hG.owns.alloc _) ⟨wr.heap.size, 0, none⟩ 1 1 [.int .i64 z] hx rfl ?_ ?_ (by unfold maxLen; omega) (by omega) (by simp; omega) ?_
  · intro j u hj
    match j, hj with
    | 0, hj => simp at hj; subst hj; simp [Addr.add]
  · intro u hu; simp at hu; subst hu; rfl
  · intro v' w' hown hgrow _
    refine h v' w' ⟨?_, ?_, ?_⟩
    · exact (hG.below.alloc hsize _).grown hgrow (by simp; omega) (fun k hk => (hG.owns.lt k hk).1)
    · simpa using hown
    · intro u hu
      rcases List.mem_append.1 hu with hu | hu
      · exact hG.small u hu
      · simp at hu; subst hu; exact hz
theorem row_open {W : World} {x : Addr} {len cap : Nat} {zs : List Int} (hl : len ≤ cap) (hm : cap ≤ maxLen) (hz : zs.length = cap)
    (hcell : ∀ i, i < zs.length → W.cell? (x.add i) = some (.int .i64 (zs.getD i 0))) (hwz : ∀ n ∈ zs, (Lit.int .i64 n).wf = true) : ∃ ys : List Int, Row W (.slice (some x) len cap) ys := by
  by_cases h0 : len = 0
  · subst h0; exact ⟨[], Or.inl ⟨_, cap, rfl, rfl⟩⟩
  · obtain ⟨b, off, rfl, hc⟩ := ints_at hcell (by omega)
    have hlen : (zs.take len).length = len := by simp; omega
    refine ⟨zs.take len, Or.inr ⟨b, off, cap, by rw [hlen], by omega, by omega, fun j hj => ?_, fun z hz => in64_of (hwz z (List.mem_of_mem_take hz))⟩⟩
    rw [hlen] at hj
    rw [hc j (by omega)]
    congr 2
    simp [List.getD, hj]
theorem Grow.keep {E : TypeId} {w wr wr' : World} {v : Value} {zs : List Int} (h : Grow E w wr v zs) (hb : Below wr.heap.size wr wr') : Grow E w wr' v zs := by
  obtain ⟨h1, ⟨h2, h3⟩, h4⟩ := h
  refine ⟨below_via h1 hb, ⟨h2, ?_⟩, h4⟩
  rcases h3 with h3 | ⟨g, cap, cur, e1, e2, e3, e4⟩
  · exact Or.inl h3
  · exact Or.inr ⟨g, cap, cur, e1, e2, (hb.block g (Array.getElem?_eq_some_iff.1 e3).1).trans e3, e4⟩
theorem info2 : (Try.prog.info? 2).map (fun i => (i.zero, i.size, i.bytes)) = some (some (.int .i64 0), 1, 8) := by kernel_rfl
end Go.Proofs.Ytkccladbcehdbaa.Mn
