/- Rows of structs of m numbers; a struct of three numbers and a slice of numbers, opened. -/
import Derived.Test.YtpeoabopeihadaaWTSm
import Derived.Deep.AppendLies
import Derived.Lib.SmallJoins
set_option linter.unusedVariables false
set_option linter.unusedSimpArgs false
set_option linter.unusedSectionVars false
namespace Go.Proofs.Ytpeoabopeihadaa.Mn
open Go.RowKit
attribute [local simp] Tri.typeInfo Tri.sizeOf Tri.underlying Tri.runUnderlying Tri.isAgg Tri.zeroValue Tri.depth Tri.stoodInHeld Tri.eqGuardType Tri.call15 Tri.call22 Tri.call23 Tri.call24 Tri.call25 Tri.call46 Tri.call49 Tri.call52 Tri.call54 Tri.call58 Tri.call59 Tri.call60 Tri.call61 Tri.call62 Tri.call63 Tri.call64 Tri.call65 Tri.call66 Tri.call67 Tri.call95 Tri.call106 Tri.call115 Tri.call116 Tri.call117 Tri.call118 Tri.call119 Tri.call120 Tri.call121 Tri.call122 Tri.call142 Tri.call143 Tri.call144 Tri.call145 Tri.call146 Tri.call147 Tri.call156 Tri.call157 Tri.call159 Tri.call160 Tri.call161 Tri.call162 Tri.call163 Tri.call164 Tri.call165 Tri.call175 Tri.call176 Tri.call186 Tri.call188 Tri.call205
def getN (l : List (List Int)) (j t : Nat) : Int := (l.getD j []).getD t 0
def SmallN (m : Nat) (l : List (List Int)) : Prop := ∀ f ∈ l, f.length = m ∧ ∀ x ∈ f, In64 x
theorem SmallN.at {m : Nat} {l : List (List Int)} (h : SmallN m l) (j t : Nat) : In64 (getN l j t) := by
  have z : In64 0 := ⟨by omega, by omega⟩
  unfold getN
  by_cases hj : j < l.length
  · have e : l.getD j [] = l[j] := by simp [List.getD, hj]
    rw [e]
    exact getD_in (h _ (List.getElem_mem hj)).2 t
  · have e : l.getD j [] = [] := by simp [List.getD, List.getElem?_eq_none (Nat.le_of_not_lt hj)]
    rw [e]
    exact z
def RowN (m : Nat) (w : World) (v : Value) (l : List (List Int)) : Prop :=
  (∃ a cap, v = .slice a 0 cap ∧ l = [] ∧ (a = none → cap = 0)) ∨
  ∃ b off cap, v = .slice (some ⟨b, off, none⟩) l.length cap ∧ 0 < l.length ∧ l.length ≤ cap ∧ cap ≤ maxLen ∧ (∀ j, j < l.length → ∀ t, t < m → w.cell? ⟨b, off + j * m + t, none⟩ = some (.int .i64 (getN l j t))) ∧ SmallN m l
theorem rowN_slice {m : Nat} {w : World} {v : Value} {l : List (List Int)} (h : RowN m w v l) : ∃ a cap, v = .slice a l.length cap := by
  rcases h with ⟨a, cap, rfl, rfl, _⟩ | ⟨b, off, cap, rfl, _⟩
  · exact ⟨a, cap, rfl⟩
  · exact ⟨_, cap, rfl⟩
theorem rowN_nil (m : Nat) (w : World) : RowN m w (.slice none 0 0) [] := Or.inl ⟨none, 0, rfl, rfl, fun _ => rfl⟩
theorem RowN.small {m : Nat} {w : World} {v : Value} {l : List (List Int)} (h : RowN m w v l) : SmallN m l := by
  rcases h with ⟨a, cap, rfl, rfl, _⟩ | ⟨b, off, cap, rfl, _, _, _, _, h⟩
  · intro f hf; cases hf
  · exact h
theorem RowN.keep {m : Nat} {w w' : World} {v : Value} {l : List (List Int)} (h : RowN m w v l) (hb : Below w.heap.size w w') : RowN m w' v l := by
  rcases h with h | ⟨b, off, cap, h1, h2, h3, h6, h4, h5⟩
  · exact Or.inl h
  · exact Or.inr ⟨b, off, cap, h1, h2, h3, h6, fun j hj t ht => (hb.cell (p := ⟨b, off + j * m + t, none⟩) (lt_of_cell (h4 j hj t ht))).trans (h4 j hj t ht), h5⟩
theorem RowN.alloc {m : Nat} {w : World} {v : Value} {l : List (List Int)} (h : RowN m w v l) (o : Obj) : RowN m (w.alloc o) v l := h.keep ((Below.refl w.heap.size w).alloc (Nat.le_refl _) o)
def flatN : List (List Int) → List Value
  | [] => []
  | f :: r => f.map (Value.int .i64) ++ flatN r
theorem flatN_append (l k : List (List Int)) : flatN (l ++ k) = flatN l ++ flatN k := by
  induction l with
  | nil => rfl
  | cons f r ih => simp only [List.cons_append, flatN, ih, List.append_assoc]
theorem flatN_at {m : Nat} {l : List (List Int)} (h : SmallN m l) : ∀ j t, j < l.length → t < m → (flatN l)[j * m + t]? = some (.int .i64 (getN l j t)) := by
  induction l with
  | nil => intro j t hj; simp at hj
  | cons f r ih =>
    intro j t hj ht
    have h1 := (h f List.mem_cons_self).1
    cases j with
    | zero =>
      have : t < f.length := by omega
      rw [Nat.zero_mul, Nat.zero_add]
      simp only [flatN]
      rw [List.getElem?_append_left (by simpa using this)]
      simp [getN, List.getD, this]
    | succ j =>
      have hi := ih (fun g hg => h g (List.mem_cons_of_mem _ hg)) j t (by simpa using hj) ht
      simp only [flatN]
      rw [List.getElem?_append_right (by simp [h1, Nat.add_mul]; omega)]
      have e : (j + 1) * m + t - (f.map (Value.int .i64)).length = j * m + t := by simp [h1, Nat.add_mul]; omega
      rw [e, hi]
      simp [getN, List.getD]
structure GrowN (E : TypeId) (m : Nat) (w wr : World) (v : Value) (l : List (List Int)) : Prop where
  below : Below w.heap.size w wr
  owns : wr.ownsRow w.heap.size E m v l.length (flatN l)
  small : SmallN m l
theorem GrowN.nil (E : TypeId) (m : Nat) (w wr : World) (h : Below w.heap.size w wr) : GrowN E m w wr (.slice none 0 0) [] :=
  ⟨h, World.ownsRow_nil _ _ _ _, fun f hf => by cases hf⟩
theorem GrowN.keep {E : TypeId} {m : Nat} {w wr wr' : World} {v : Value} {l : List (List Int)} (h : GrowN E m w wr v l) (hb : Below wr.heap.size wr wr') : GrowN E m w wr' v l := by
  obtain ⟨h1, ⟨h2, h3⟩, h4⟩ := h
  refine ⟨below_via h1 hb, ⟨h2, ?_⟩, h4⟩
  rcases h3 with h3 | ⟨g, cap, cur, e1, e2, e3, e4⟩
  · exact Or.inl h3
  · exact Or.inr ⟨g, cap, cur, e1, e2, (hb.block g (Array.getElem?_eq_some_iff.1 e3).1).trans e3, e4⟩
theorem GrowN.alloc {E : TypeId} {m : Nat} {w wr : World} {v : Value} {l : List (List Int)} (h : GrowN E m w wr v l) (o : Obj) : GrowN E m w (wr.alloc o) v l := h.keep ((Below.refl wr.heap.size wr).alloc (Nat.le_refl _) o)
theorem GrowN.row {E : TypeId} {m : Nat} {w wr : World} {v : Value} {l : List (List Int)} (h : GrowN E m w wr v l) : RowN m wr v l := by
  obtain ⟨h1, h2⟩ := h.owns
  rcases h2 with ⟨rfl, h0⟩ | ⟨g, cap, cur, rfl, _, _, h5, h6, _⟩
  · exact Or.inl ⟨none, 0, rfl, List.eq_nil_of_length_eq_zero h0, fun _ => rfl⟩
  · by_cases h0 : l.length = 0
    · rw [h0]; exact Or.inl ⟨_, cap, rfl, List.eq_nil_of_length_eq_zero h0, fun c => (by cases c)⟩
    · refine Or.inr ⟨g, 0, cap, rfl, by omega, h5, h6, fun j hj t ht => ?_, h.small⟩
      have hlt : j * m + t < l.length * m := by
        have : (j + 1) * m ≤ l.length * m := Nat.mul_le_mul_right m (by omega)
        rw [Nat.add_mul] at this
        omega
      rw [Nat.zero_add, h.owns.cellAt (j * m + t) (by omega)]
      exact flatN_at h.small j t hj ht
theorem pushN_law {ops : Array Oper} {rest : List Oper} {o : Oper} {a : Act} {Q : Exit → Act → World → Prop} (E T : TypeId) (m bytes : Nat) (z : Value) (hm : 0 < m) (hb : bytes ≤ 100) (hz : z.cells.size = m) (hu : (Tri Try.prog).underlying T = some (.slice E)) (hinfo : ((Tri Try.prog).info? E).map (fun i => (i.zero, i.size, i.bytes)) = some (some z, m, bytes))
    (hgd : o.guard = none) (s x : Operand)
    (ho : o.op = .call { callee := .builtin .append, args := #[s, x], argTypes := #[T, T] })
    (w wr : World) (v : Value) (l : List (List Int)) (f : List Int) (cs : Array Value) (hcs : cs.toList = f.map (Value.int .i64)) (hG : GrowN E m w wr v l) (hs : a.eval s = v) (hx : a.eval x = .slice (some ⟨wr.heap.size, 0, none⟩) 1 1)
    (hlen : l.length ≤ 1000000) (hf : f.length = m ∧ ∀ y ∈ f, In64 y)
    (h : ∀ v' w', GrowN E m w w' v' (l ++ [f]) → wr.grownBy w' v.ownBlock → (∀ k, v'.ownBlock = some k → v.ownBlock = some k ∨ wr.heap.size ≤ k) → wpList (Tri Try.prog) ops Q rest (a.put o.dst v') w') : wpList (Tri Try.prog) ops Q (o :: rest) a (wr.alloc (.cells cs E)) := by
  obtain ⟨i0, hi, hz0, hz1, hz2⟩ := info_parts hinfo
  have hsize := hG.below.size
  have hb2 : (l.length + 1) * bytes ≤ 140737488355328 := Nat.le_trans (Nat.mul_le_mul (show l.length + 1 ≤ 1000001 by omega) hb) (by decide)
  refine wpList_append_lies _ hgd s x T ho w.heap.size E i0 z m bytes hu hi hz0 hz1 hz2 hz hm v l.length _ hs (hG.owns.alloc _) ⟨wr.heap.size, 0, none⟩ 1 1 (f.map (Value.int .i64)) hx (by simp [hf.1]) ?_ ?_ (by decide) (by unfold maxLen; omega) hb2 (by simp; omega) (wr.heap.size + 1) (by simp) ?_
  · intro j u hj
    rw [Addr.add_lit, Nat.zero_add, World.cell?_alloc_at _ _ _ _ rfl, ← hj, ← hcs]
    simp
  · intro u hu
    obtain ⟨y, _, rfl⟩ := List.mem_map.1 hu
    rfl
  · intro g cap w' hown hgrow hg _
    refine h _ w' ⟨?_, ?_, ?_⟩ ⟨hgrow.os, hgrow.tape, hgrow.output, by have := hgrow.size; simp at this; omega, fun k hk hne => ?_⟩ (fun k hk => ?_)
    · exact (hG.below.alloc hsize _).grown hgrow (by simp; omega) (fun k hk => (hG.owns.lt k hk).1)
    · rw [flatN_append]
      simpa [flatN] using hown
    · intro u hu
      rcases List.mem_append.1 hu with hu | hu
      · exact hG.small u hu
      · simp at hu; subst hu; exact hf
    · rw [hgrow.block k (by simp; omega) hne]
      exact Below.heap_alloc _ _ k hk
    · simp [Value.ownBlock] at hk
      subst hk
      rcases hg with hg | hg
      · exact Or.inl hg
      · exact Or.inr (by omega)
end Go.Proofs.Ytpeoabopeihadaa.Mn
/- A struct of a number, a number, a slice of numbers, and a number, by value: opened. (Shut again: Below.trod, as a slice.) -/
namespace Go.Proofs.Ytpeoabopeihadaa.Mn
open Go.ChangeShapes Go.WideShapes Go.ChangeAt Go.RowKit
end Go.Proofs.Ytpeoabopeihadaa.Mn
