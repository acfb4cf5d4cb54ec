/- Rows of numbers: such as come in, such as are made, such as are appended to; blocks of memory. -/
import Derived.Test.YtdbefnghljjieaaNum
import Derived.Test.YtdbefnghljjieaaRows
import Derived.Below
import Derived.Deep.OwnRows
import Derived.Deep.MidRow
import Derived.Deep.AppendLies
import Derived.WalkKit
import Derived.WalkSpells
import Derived.ProofKit
import Derived.OpenShut
import Derived.ShutString
import Derived.ChangeOld
import Derived.Deep.Draws
namespace Go.Proofs.Ytdbefnghljjieaa
open Go.RowKit
set_option linter.unusedSimpArgs false
set_option linter.unusedVariables false
def Hid (p : Prop) : Prop := p
theorem hide {p : Prop} (h : p) : Hid p := h
theorem unhide {p : Prop} (h : Hid p) : p := h
theorem below_via {w W w1 : World} (h1 : Below w.heap.size w W) (h2 : Below W.heap.size W w1) : Below w.heap.size w w1 := h1.trans (h2.mono h1.size)
theorem below1 (w : World) (o : Obj) : Below w.heap.size w (w.alloc o) := (Below.refl _ _).alloc (Nat.le_refl _) o
/-- The slice value v leads, in the world w, to the numbers zs (a nil or empty one to none). -/
def Row (w : World) (v : Value) (zs : List Int) : Prop :=
  (∃ a cap, v = .slice a 0 cap ∧ zs = []) ∨
  ∃ b off cap, v = .slice (some ⟨b, off, none⟩) zs.length cap ∧ 0 < zs.length ∧ zs.length ≤ maxLen ∧ (∀ j, j < zs.length → w.cell? ⟨b, off + j, none⟩ = some (.int .i64 (zs.getD j 0))) ∧ ∀ z ∈ zs, In64 z
theorem getD_in {zs : List Int} (h : ∀ z ∈ zs, In64 z) (k : Nat) : In64 (zs.getD k 0) := by
  by_cases hk : k < zs.length
  · have : zs.getD k 0 = zs[k] := by simp [List.getD, hk]
    rw [this]; exact h _ (List.getElem_mem hk)
  · have : zs.getD k 0 = 0 := by simp [List.getD, List.getElem?_eq_none (Nat.le_of_not_lt hk)]
    rw [this]; exact ⟨by omega, by omega⟩
theorem lt_of_cell {w : World} {b o : Nat} {v : Value} (h : w.cell? ⟨b, o, none⟩ = some v) : b < w.heap.size := by
  by_cases hb : b < w.heap.size
  · exact hb
  · exfalso
    have e : w.heap[b]? = none := Array.getElem?_eq_none (Nat.le_of_not_lt hb)
    simp [World.cell?, e] at h
def sameB (xs ys : List Int) : Bool := decide (xs = ys)
theorem sameB_refl (xs : List Int) : sameB xs xs = true := by simp [sameB]
theorem sameB_no {xs ys : List Int} (h : xs ≠ ys) : sameB xs ys = false := by simp [sameB, h]
theorem row_slice {w : World} {v : Value} {zs : List Int} (h : Row w v zs) : ∃ a cap, v = .slice a zs.length cap := by
  rcases h with ⟨a, cap, rfl, rfl⟩ | ⟨b, off, cap, rfl, _⟩
  · exact ⟨a, cap, rfl⟩
  · exact ⟨_, cap, rfl⟩
theorem ret_bool {a b : Bool} (h : a = b) : Ending.returned (.bool a) = .returned (.bool b) := by rw [h]
/-- Any part of the program that reads a row may do so in a later world. -/
theorem Row.later {w w' : World} {v : Value} {zs : List Int} (h : Row w v zs) (hc : ∀ a x, w.cell? a = some x → w'.cell? a = some x) : Row w' v zs := by
  rcases h with h | ⟨b, off, cap, h1, h2, h3, h4, h5⟩
  · exact Or.inl h
  · exact Or.inr ⟨b, off, cap, h1, h2, h3, fun j hj => hc _ _ (h4 j hj), h5⟩
theorem Row.below {B : Nat} {w w' : World} {v : Value} {zs : List Int} (h : Row w v zs) (hb : Below B w w') (hB : w.heap.size ≤ B) : Row w' v zs := by
  rcases h with h | ⟨b, off, cap, h1, h2, h3, h4, h5⟩
  · exact Or.inl h
  · exact Or.inr ⟨b, off, cap, h1, h2, h3, fun j hj => (hb.cell (p := ⟨b, off + j, none⟩) (Nat.lt_of_lt_of_le (lt_of_cell (h4 j hj)) hB)).trans (h4 j hj), h5⟩
theorem Row.alloc {w : World} {v : Value} {zs : List Int} (h : Row w v zs) (o : Obj) : Row (w.alloc o) v zs := h.below ((Below.refl w.heap.size w).alloc (Nat.le_refl _) o) (Nat.le_refl _)
/-- Since the world w, below its end nothing has turned; the slice value v owns the numbers zs, in memory that is new since. -/
structure Grow (E : TypeId) (w wr : World) (v : Value) (zs : List Int) : Prop where
  below : Below w.heap.size w wr
  owns : wr.ownsRow w.heap.size E 1 v zs.length (zs.map (Value.int .i64))
  small : ∀ z ∈ zs, In64 z
theorem Grow.nil (E : TypeId) (w wr : World) (h : Below w.heap.size w wr) : Grow E w wr (.slice none 0 0) [] :=
  ⟨h, World.ownsRow_nil _ _ _ _, fun z hz => by cases hz⟩
theorem Grow.row {E : TypeId} {w wr : World} {v : Value} {zs : List Int} (h : Grow E w wr v zs) (hm : zs.length ≤ maxLen) : Row wr v zs := by
  obtain ⟨h1, h2⟩ := h.owns
  rcases h2 with ⟨rfl, h0⟩ | ⟨g, cap, cur, rfl, _⟩
  · exact Or.inl ⟨none, 0, rfl, List.eq_nil_of_length_eq_zero h0⟩
  · by_cases h0 : zs.length = 0
    · rw [h0]; exact Or.inl ⟨_, cap, rfl, List.eq_nil_of_length_eq_zero h0⟩
    · refine Or.inr ⟨g, 0, cap, rfl, by omega, hm, fun j hj => ?_, h.small⟩
      rw [Nat.zero_add, h.owns.cellAt j (by omega)]
      simp [List.getD, hj]
theorem push_law {ops : Array Oper} {rest : List Oper} {o : Oper} {a : Act} {Q : Exit → Act → World → Prop} (E T : TypeId) (hu : Try.prog.underlying T = some (.slice E)) (hinfo : (Try.prog.info? E).map (fun i => (i.zero, i.size, i.bytes)) = some (some (.int .i64 0), 1, 8)) (hgd : o.guard = none) (s x : Operand)
    (ho : o.op = .call { callee := .builtin .append, args := #[s, x], argTypes := #[T, T] })
    (w wr : World) (v : Value) (zs : List Int) (z : Int) (hG : Grow E w wr v zs) (hs : a.eval s = v) (hx : a.eval x = .slice (some ⟨wr.heap.size, 0, none⟩) 1 1)
    (hlen : zs.length ≤ 1000000) (hz : In64 z)
    (h : ∀ v' w', Grow E w w' v' (zs ++ [z]) → wpList Try.prog ops Q rest (a.put o.dst v') w') : wpList Try.prog ops Q (o :: rest) a (wr.alloc (.cells #[.int .i64 z] E)) := by
  obtain ⟨i0, hi, hz0, hz1, hz2⟩ := info_parts hinfo
  have hsize := hG.below.size
  refine wpList_append_own _ hgd s x T ho w.heap.size E i0 (.int .i64 0) 1 8 hu hi hz0 hz1 hz2 rfl (by decide) v zs.length _ hs (hG.owns.alloc _) ⟨wr.heap.size, 0, none⟩ 1 1 [.int .i64 z] hx rfl ?_ ?_ (by unfold maxLen; omega) (by omega) (by simp; omega) ?_
  · intro j u hj
    match j, hj with
    | 0, hj => simp at hj; subst hj; simp [Addr.add]
  · intro u hu; simp at hu; subst hu; rfl
  · intro v' w' hown hgrow _
    refine h v' w' ⟨?_, ?_, ?_⟩
    · exact (hG.below.alloc hsize _).grown hgrow (by simp; omega) (fun k hk => (hG.owns.lt k hk).1)
    · simpa using hown
    · intro u hu
      rcases List.mem_append.1 hu with hu | hu
      · exact hG.small u hu
      · simp at hu; subst hu; exact hz
theorem row_open {W : World} {x : Addr} {len cap : Nat} {zs : List Int} (hl : len ≤ cap) (hm : cap ≤ maxLen) (hz : zs.length = cap)
    (hcell : ∀ i, i < zs.length → W.cell? (x.add i) = some (.int .i64 (zs.getD i 0))) (hwz : ∀ n ∈ zs, (Lit.int .i64 n).wf = true) : ∃ ys : List Int, Row W (.slice (some x) len cap) ys := by
  by_cases h0 : len = 0
  · subst h0; exact ⟨[], Or.inl ⟨_, cap, rfl, rfl⟩⟩
  · obtain ⟨b, off, rfl, hc⟩ := ints_at hcell (by omega)
    have hlen : (zs.take len).length = len := by simp; omega
    refine ⟨zs.take len, Or.inr ⟨b, off, cap, by rw [hlen], by omega, by omega, fun j hj => ?_, fun z hz => in64_of (hwz z (List.mem_of_mem_take hz))⟩⟩
    rw [hlen] at hj
    rw [hc j (by omega)]
    congr 2
    simp [List.getD, hj]
theorem Grow.keep {E : TypeId} {w wr wr' : World} {v : Value} {zs : List Int} (h : Grow E w wr v zs) (hb : Below wr.heap.size wr wr') : Grow E w wr' v zs := by
  obtain ⟨h1, ⟨h2, h3⟩, h4⟩ := h
  refine ⟨below_via h1 hb, ⟨h2, ?_⟩, h4⟩
  rcases h3 with h3 | ⟨g, cap, cur, e1, e2, e3, e4⟩
  · exact Or.inl h3
  · exact Or.inr ⟨g, cap, cur, e1, e2, (hb.block g (Array.getElem?_eq_some_iff.1 e3).1).trans e3, e4⟩
def Blk (w : World) (b : Nat) (cs : Array Value) (T : TypeId) : Prop := w.heap[b]? = some (.cells cs T (0, 0))
section
variable {w w' : World} {b : Nat} {T : TypeId} {cs : Array Value}
theorem Blk.lt (h : Blk w b cs T) : b < w.heap.size := (Array.getElem?_eq_some_iff.1 h).1
theorem Blk.keep (h : Blk w b cs T) (hb : Below w.heap.size w w') : Blk w' b cs T := (hb.block b h.lt).trans h
theorem Blk.alloc (h : Blk w b cs T) (o : Obj) : Blk (w.alloc o) b cs T := (Below.heap_alloc w o b h.lt).trans h
theorem Blk.new (w : World) (cs : Array Value) (T : TypeId) : Blk (w.alloc (.cells cs T)) w.heap.size cs T := heap_alloc_new w _
theorem Blk.at (h : Blk w b cs T) (i : Nat) (v : Value) (hv : cs[i]? = some v) : w.cell? ⟨b, i, none⟩ = some v := by rw [cell_of_row w b i _ _ _ h]; exact hv
theorem Blk.fz (h : Blk w b cs T) (j : Nat) : w.frozen? ⟨b, j, none⟩ = false := frozen_of_row w b j _ _ h
theorem Blk.set (h : Blk w b cs T) (i : Nat) (v : Value) : Blk (w.setCell ⟨b, i, none⟩ v) b (cs.setIfInBounds i v) T := (Go.heap_setCell_same w b i _ _ _ h).trans rfl
theorem Blk.other (h : Blk w b cs T) {g : Nat} (hg : b ≠ g) (i : Nat) (v : Value) : Blk (w.setCell ⟨g, i, none⟩ v) b cs T := by
  exact (Go.heap_setCell_other w ⟨g, i, none⟩ b v hg).trans h
end
theorem Row.off {w : World} {a : Option Addr} {n c g i : Nat} {v : Value} {l : List Int} (h : Row w (.slice a n c) l) (hg : ∀ x, a = some x → x.block ≠ g) : Row (w.setCell ⟨g, i, none⟩ v) (.slice a n c) l := by
  rcases h with ⟨a', c', h1, h2⟩ | ⟨b, off, c', h1, h2, h3, h4, h5⟩
  · exact .inl ⟨a', c', h1, h2⟩
  · have e : a = some ⟨b, off, none⟩ := by injection h1
    refine .inr ⟨b, off, c', h1, h2, h3, fun j hj => ?_, h5⟩
    have k := h4 j hj
    have hne := hg _ e
    simp only [World.cell?] at k ⊢
    rw [Go.heap_setCell_other w ⟨g, i, none⟩ b v hne]
    exact k
def setsN (cs : Array Value) : Nat → List Value → Array Value
  | _, [] => cs
  | k, v :: vs => setsN (cs.setIfInBounds k v) (k + 1) vs
/-- What a store into one block leaves as it was. -/
structure Past (w W : World) (b : Nat) : Prop where
  blk : ∀ {b' : Nat} {cs : Array Value} {T : TypeId}, b' ≠ b → Blk w b' cs T → Blk W b' cs T
  bel : ∀ {B : Nat} {w0 : World}, B ≤ b → Below B w0 w → Below B w0 W
  row : ∀ {a : Option Addr} {n c : Nat} {l : List Int}, (∀ x, a = some x → x.block ≠ b) → Row w (.slice a n c) l → Row W (.slice a n c) l
theorem past_setCells {b : Nat} : ∀ (vs : List Value) (k : Nat) (w : World), Past w (w.setCells b k vs) b
  | [], _, w => ⟨fun _ h => h, fun _ h => h, fun _ h => h⟩
  | v :: vs, k, w =>
    have h := past_setCells (b := b) vs (k + 1) (w.setCell ⟨b, k, none⟩ v)
    ⟨fun hb hB => h.blk hb (hB.other hb k v), fun hb hB => h.bel hb (hB.setCell (p := ⟨b, k, none⟩) hb v), fun hb hR => h.row hb (hR.off (i := k) (v := v) hb)⟩
theorem blk_setCells {b : Nat} {T : TypeId} : ∀ (vs : List Value) (k : Nat) {w : World} {cs : Array Value}, Blk w b cs T → Blk (w.setCells b k vs) b (setsN cs k vs) T
  | [], _, _, _, h => h
  | v :: vs, k, _, _, h => blk_setCells vs (k + 1) (h.set k v)
theorem sets_size : ∀ (vs : List Value) (k : Nat) (cs : Array Value), (setsN cs k vs).size = cs.size
  | [], _, _ => rfl
  | v :: vs, k, cs => by rw [setsN, sets_size vs]; simp
theorem sets_get : ∀ (vs : List Value) (k : Nat) (cs : Array Value) (j : Nat), k + vs.length ≤ cs.size → (setsN cs k vs)[j]? = if k ≤ j ∧ j < k + vs.length then vs[j - k]? else cs[j]?
  | [], k, cs, j, _ => by rw [setsN, if_neg (by simp <;> omega)]
  | v :: vs, k, cs, j, h => by
    simp only [List.length_cons] at h
    rw [setsN, sets_get vs (k + 1) _ j (by simp; omega)]
    by_cases h1 : k + 1 ≤ j ∧ j < k + 1 + vs.length
    · rw [if_pos h1, if_pos ⟨by omega, by simp; omega⟩, show j - k = (j - (k + 1)) + 1 by omega]
      rfl
    · rw [if_neg h1]
      by_cases h2 : j = k
      · subst h2
        rw [if_pos ⟨by omega, by simp⟩, Nat.sub_self, Array.getElem?_setIfInBounds]
        simp
        omega
      · rw [if_neg (by simp; omega), Array.getElem?_setIfInBounds, if_neg (fun e => h2 e.symm)]
theorem sets_all {cs vs : Array Value} (h : cs.size = vs.size) : setsN cs 0 vs.toList = vs := by
  apply Array.ext_getElem?
  intro j
  rw [sets_get _ 0 cs j (by simp; omega)]
  by_cases h1 : j < vs.size
  · rw [if_pos ⟨Nat.zero_le _, by simpa using h1⟩]; simp
  · rw [if_neg (by simp; omega), Array.getElem?_eq_none (by omega), Array.getElem?_eq_none (by omega)]
theorem Blk.there {w : World} {b : Nat} {cs : Array Value} {T : TypeId} (h : Blk w b cs T) {n : Nat} (hn : cs.size = n) : w.there b 0 n := fun j hj => by
  rw [Nat.zero_add, cell_of_row w b j _ _ _ h, Array.getElem?_eq_getElem (by omega)]
  exact ⟨rfl, h.fz j⟩
theorem Blk.range {w : World} {b : Nat} {cs : Array Value} {T : TypeId} (h : Blk w b cs T) : w.rangeAt b 0 cs.toList := fun j v hv => by
  rw [Nat.zero_add, cell_of_row w b j _ _ _ h]
  simpa using hv
def isRowB (P : Program) (ty : TypeId) : Bool := match P.underlying ty with | some d => d.isRow | none => false
theorem store_blk {ops : Array Oper} {rest : List Oper} {op : Oper} {a : Act} {w : World} {Q : Exit → Act → World → Prop} (hgd : op.guard = none) (ty : TypeId) (x y : Operand) (ho : op.op = .store ty x y) {b : Nat} {T : TypeId} {old cells : Array Value} (hB : Blk w b old T) (hx : a.eval x = .pointer (some ⟨b, 0, none⟩)) (hy : a.eval y = .agg cells) {n : Nat} (hi : (Try.prog.info? ty).map (·.size) = some n) (ho' : old.size = n) (hn : cells.size = n) (h1 : cells.toList.all (·.oneCell') = true)
    (h : ∀ W, Blk W b cells T → Past w W b → wpList Try.prog ops Q rest (a.put op.dst undef) W) : wpList Try.prog ops Q (op :: rest) a w :=
  wpList_store_mid hgd ty x y ho b 0 cells hx hy (hB.there (ho'.trans hn.symm)) (hi.trans (by rw [hn])) (all_oneCell_toArray (cs := cells.toList) (fun v hv => List.all_eq_true.1 h1 v hv)) (h _ (by have k := blk_setCells cells.toList 0 hB; rw [sets_all (ho'.trans hn.symm)] at k; exact k) (past_setCells _ _ _))
theorem load_blk {ops : Array Oper} {rest : List Oper} {op : Oper} {a : Act} {w : World} {Q : Exit → Act → World → Prop} (hgd : op.guard = none) (ty : TypeId) (x : Operand) (ho : op.op = .load ty x) {b : Nat} {T : TypeId} {cells : Array Value} (hB : Blk w b cells T) (hx : a.eval x = .pointer (some ⟨b, 0, none⟩)) (hr : isRowB Try.prog ty = true) {n : Nat} (hi : (Try.prog.info? ty).map (·.size) = some n) (hn : cells.size = n)
    (h : wpList Try.prog ops Q rest (a.put op.dst (.agg cells)) w) : wpList Try.prog ops Q (op :: rest) a w := by
  unfold isRowB at hr
  split at hr
  · next d hu => exact wpList_load_mid hgd ty x ho b 0 hx cells.toList d hB.range hu hr (by rw [hi, ← hn]; simp) h
  · cases hr
theorem load_var {W : World} {b n : Nat} {ty T : TypeId} {cs : Array Value} (hB : Blk W b cs T) (hr : isRowB Try.prog ty = true) (hi : (Try.prog.info? ty).map (·.size) = some n) (hn : cs.size = n) : (loadVar ty ⟨b, 0, none⟩).run Try.prog W = .ok (.agg cs) W := by
  unfold isRowB at hr
  split at hr
  · next d hu => exact run_loadVar_mid W b 0 ty cs.toList d hB.range hu hr (by rw [hi, ← hn]; simp)
  · cases hr
theorem res_ct {fn : Func} {tmps : Array Value} {W : World} {s0 b0 n0 : Nat} {ty0 T0 : TypeId} {cs0 : Array Value} (hs0 : tmps.getD s0 undef = .pointer (some ⟨b0, 0, none⟩)) (hB0 : Blk W b0 cs0 T0) (hr0 : isRowB Try.prog ty0 = true) (hi0 : (Try.prog.info? ty0).map (·.size) = some n0) (hn0 : cs0.size = n0) {t1 : Nat} {v1 : Value} (hv1 : tmps.getD t1 undef = v1) (hf : fn.results = #[.cell s0 ty0, .tmp t1]) : (results fn tmps).run Try.prog W = .ok (.tuple #[.agg cs0, v1]) W := by
  have gs0 : tmps[s0]?.getD undef = .pointer (some ⟨b0, 0, none⟩) := by simpa using hs0
  have gl0 := load_var hB0 hr0 hi0 hn0
  have gv1 : tmps[t1]?.getD undef = v1 := by simpa using hv1
  unfold results
  rw [hf]
  simp [Sem.run_bind, Sem.run_pure, Result.andThen_ok, asAddr, gs0, gl0, gv1]
theorem res_c {fn : Func} {tmps : Array Value} {W : World} {s0 b0 n0 : Nat} {ty0 T0 : TypeId} {cs0 : Array Value} (hs0 : tmps.getD s0 undef = .pointer (some ⟨b0, 0, none⟩)) (hB0 : Blk W b0 cs0 T0) (hr0 : isRowB Try.prog ty0 = true) (hi0 : (Try.prog.info? ty0).map (·.size) = some n0) (hn0 : cs0.size = n0) (hf : fn.results = #[.cell s0 ty0]) : (results fn tmps).run Try.prog W = .ok (.agg cs0) W := by
  have gs0 : tmps[s0]?.getD undef = .pointer (some ⟨b0, 0, none⟩) := by simpa using hs0
  have gl0 := load_var hB0 hr0 hi0 hn0
  unfold results
  rw [hf]
  simp [Sem.run_bind, Sem.run_pure, Result.andThen_ok, asAddr, gs0, gl0]
theorem res_ctt {fn : Func} {tmps : Array Value} {W : World} {s0 b0 n0 : Nat} {ty0 T0 : TypeId} {cs0 : Array Value} (hs0 : tmps.getD s0 undef = .pointer (some ⟨b0, 0, none⟩)) (hB0 : Blk W b0 cs0 T0) (hr0 : isRowB Try.prog ty0 = true) (hi0 : (Try.prog.info? ty0).map (·.size) = some n0) (hn0 : cs0.size = n0) {t1 : Nat} {v1 : Value} (hv1 : tmps.getD t1 undef = v1) {t2 : Nat} {v2 : Value} (hv2 : tmps.getD t2 undef = v2) (hf : fn.results = #[.cell s0 ty0, .tmp t1, .tmp t2]) : (results fn tmps).run Try.prog W = .ok (.tuple #[.agg cs0, v1, v2]) W := by
  have gs0 : tmps[s0]?.getD undef = .pointer (some ⟨b0, 0, none⟩) := by simpa using hs0
  have gl0 := load_var hB0 hr0 hi0 hn0
  have gv1 : tmps[t1]?.getD undef = v1 := by simpa using hv1
  have gv2 : tmps[t2]?.getD undef = v2 := by simpa using hv2
  unfold results
  rw [hf]
  simp [Sem.run_bind, Sem.run_pure, Result.andThen_ok, asAddr, gs0, gl0, gv1, gv2]

theorem Try.info3 : (Try.prog.info? 3).map (fun i => (i.zero, i.size, i.bytes)) = some (some (.int .i64 0), 1, 8) := by kernel_rfl
end Go.Proofs.Ytdbefnghljjieaa
