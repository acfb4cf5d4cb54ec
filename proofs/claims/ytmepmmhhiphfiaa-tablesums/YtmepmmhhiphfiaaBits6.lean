/- A number laid open as bits. -/
import Derived.Test.YtmepmmhhiphfiaaBits5
namespace Go.Proofs.Ytmepmmhhiphfiaa
open Go.RowKit
set_option linter.unusedSimpArgs false
/-- A sign and 260 bits, as a value. -/
def gv (l : Bool) (f : Nat → Nat) : Array Value := ((List.range 261).map fun i => if i = 0 then Value.bool l else Value.int .u8 (f (i - 1))).toArray
theorem gv_size (l : Bool) (f : Nat → Nat) : (gv l f).size = 261 := by simp [gv]
theorem gv_zero (l : Bool) (f : Nat → Nat) : (gv l f)[0]? = some (.bool l) := by simp [gv]
theorem gv_get {l : Bool} {f : Nat → Nat} {i : Nat} (h : i < 260) : (gv l f)[1 + i]? = some (.int .u8 (f i)) := by
  have e : ¬ 1 + i = 0 := by omega
  have e2 : 1 + i - 1 = i := by omega
  have e3 : 1 + i < 261 := by omega
  simp [gv, e2, e3, e]
theorem gv_all (l : Bool) (f : Nat → Nat) : (gv l f).all (·.oneCell') = true := by
  rw [Array.all_eq_true]
  intro i h
  rw [gv_size] at h
  rcases i with _ | i
  · have := gv_zero l f
    rw [Array.getElem?_eq_getElem (by rw [gv_size]; exact h)] at this
    rw [Option.some.inj this]
    rfl
  · have := gv_get (l := l) (f := f) (i := i) (by omega)
    rw [show 1 + i = i + 1 by omega, Array.getElem?_eq_getElem (by rw [gv_size]; exact h)] at this
    rw [Option.some.inj this]
    rfl
theorem gv_ext {l : Bool} {f : Nat → Nat} {c : Array Value} (hs : c.size = 261) (h0 : c[0]? = some (.bool l)) (h : ∀ i, i < 260 → c[1 + i]? = some (.int .u8 (f i))) : c = gv l f := by
  apply Array.ext_getElem?
  intro j
  by_cases hj : j < 261
  · rcases j with _ | j
    · rw [h0, gv_zero]
    · rw [show j + 1 = 1 + j by omega, h j (by omega), gv_get (by omega)]
  · rw [Array.getElem?_eq_none (by omega), Array.getElem?_eq_none (by rw [gv_size]; omega)]
theorem gv_set {l : Bool} {f : Nat → Nat} {k v : Nat} : (gv l f).setIfInBounds (1 + k) (.int .u8 v) = gv l (upd f k v) := by
  refine gv_ext (by rw [Array.size_setIfInBounds, gv_size]) ?_ (fun i hi => ?_)
  · rw [Array.getElem?_setIfInBounds, if_neg (by omega), gv_zero]
  · rw [Array.getElem?_setIfInBounds, gv_size]
    unfold upd
    by_cases e : k = i
    · subst e; rw [if_pos rfl, if_pos (by omega), if_pos rfl]
    · rw [if_neg (by omega), if_neg (fun h => e h.symm), gv_get hi]
theorem gv_less {l m : Bool} {f : Nat → Nat} : (gv l f).setIfInBounds 0 (.bool m) = gv m f := by
  refine gv_ext (by rw [Array.size_setIfInBounds, gv_size]) ?_ (fun i hi => ?_)
  · rw [Array.getElem?_setIfInBounds, if_pos rfl, if_pos (by rw [gv_size]; omega)]
  · rw [Array.getElem?_setIfInBounds, if_neg (by omega), gv_get hi]
def GRow (w : World) (b : Nat) (l : Bool) (f : Nat → Nat) : Prop := w.heap[b]? = some (.cells (gv l f) 84 (0, 0))
theorem GRow.less {w : World} {b : Nat} {l : Bool} {f : Nat → Nat} (h : GRow w b l f) : w.cell? ⟨b, 0, none⟩ = some (.bool l) := by rw [cell_of_row w b 0 _ _ _ h]; exact gv_zero l f
theorem GRow.cell {w : World} {b : Nat} {l : Bool} {f : Nat → Nat} (h : GRow w b l f) {i : Nat} (hi : i < 260) : w.cell? ⟨b, 1 + i, none⟩ = some (.int .u8 (f i)) := by rw [cell_of_row w b (1 + i) _ _ _ h]; exact gv_get hi
theorem GRow.frozen {w : World} {b : Nat} {l : Bool} {f : Nat → Nat} (h : GRow w b l f) (i : Nat) : w.frozen? ⟨b, i, none⟩ = false := frozen_of_row w b i _ _ h
theorem GRow.lt {w : World} {b : Nat} {l : Bool} {f : Nat → Nat} (h : GRow w b l f) : b < w.heap.size := (Array.getElem?_eq_some_iff.1 h).1
theorem GRow.set {w : World} {b : Nat} {l : Bool} {f : Nat → Nat} (h : GRow w b l f) (k v : Nat) : GRow (w.setCell ⟨b, 1 + k, none⟩ (.int .u8 v)) b l (upd f k v) := by
  unfold GRow
  rw [Go.heap_setCell_same w b (1 + k) _ _ _ h, gv_set]
theorem GRow.sign {w : World} {b : Nat} {l : Bool} {f : Nat → Nat} (h : GRow w b l f) (m : Bool) : GRow (w.setCell ⟨b, 0, none⟩ (.bool m)) b m f := by
  unfold GRow
  rw [Go.heap_setCell_same w b 0 _ _ _ h, gv_less]
theorem GRow.other {w : World} {b : Nat} {l : Bool} {f : Nat → Nat} (h : GRow w b l f) {a : Addr} (ha : b ≠ a.block) (v : Value) : GRow (w.setCell a v) b l f := (heap_setCell_other w a b v ha).trans h
theorem GRow.alloc {w : World} {b : Nat} {l : Bool} {f : Nat → Nat} (h : GRow w b l f) (o : Obj) : GRow (w.alloc o) b l f := (Below.heap_alloc w o b h.lt).trans h
theorem GRow.keep {w w' : World} {B b : Nat} {l : Bool} {f : Nat → Nat} (h : GRow w b l f) (hb : Below B w w') (hB : b < B) : GRow w' b l f := (hb.block b hB).trans h
theorem GRow.new (w : World) (l : Bool) (f : Nat → Nat) : GRow (w.alloc (.cells (gv l f) 84)) w.heap.size l f := heap_alloc_new w _
theorem GRow.putOther {w : World} {b c : Nat} {l : Bool} {f : Nat → Nat} (h : GRow w b l f) (hc : c ≠ b) (g : Array Value) : GRow (w.setRow c g) b l f := by
  unfold GRow at *
  simp [World.setRow, Array.getElem?_modify, h, hc]
theorem GRow.put {w : World} {b : Nat} {l m : Bool} {f : Nat → Nat} (h : GRow w b l f) (g : Nat → Nat) : GRow (w.setRow b (gv m g)) b m g := by
  unfold GRow at *
  simp [World.setRow, Array.getElem?_modify, h]
theorem info84 : (Try.prog.info? 84).map (fun i => (i.zero, i.size)) = some (some (.agg (gv false zb)), 261) := by kernel_rfl
theorem zero56 (w : World) : (zeroValue 84).run Try.prog w = .ok (.agg (gv false zb)) w := (zero_of_info info84).1 w
theorem size56 (l : Bool) (f : Nat → Nat) : (Try.prog.info? 84).map (·.size) = some (gv l f).size := by rw [gv_size]; exact (zero_of_info info84).2
theorem store56c {w : World} {b : Nat} {l : Bool} {f : Nat → Nat} (m : Bool) (g : Nat → Nat) (h : GRow w b l f) : (storeCells ⟨b, 0, none⟩ (gv m g).toList).run Try.prog w = .ok () (w.setRow b (gv m g)) := by
  have := run_storeVar_row (P := Try.prog) w b 84 84 (gv l f) (gv m g) h (size56 m g) (by rw [gv_size, gv_size]) (gv_all m g)
  have hi := size56 m g
  cases hq : Try.prog.info? 84 with
  | none => simp [hq] at hi
  | some i =>
    have hs : (gv m g).size = i.size := by simp [hq] at hi; omega
    simpa [storeVar, sizeOf, typeInfo, hq, Value.cells, hs] using this
theorem wp_load56 {o : Oper} {a : Act} {w : World} {K : Act → World → Prop} {Q : Exit → Act → World → Prop} {x : Operand} {b : Nat} {l : Bool} {f : Nat → Nat} (hr : GRow w b l f) (ho : o.op = .load 84 x) (hx : a.eval x = .pointer (some ⟨b, 0, none⟩))
    (h : K (a.put o.dst (.agg (gv l f))) w) : o.wp Try.prog a w K Q := wp_load_row 84 x ho b hx 84 (gv l f) (0, 0) _ hr Try.underlying84 rfl (size56 l f) h
theorem results56 {fn : Func} {p : Tmp} (h : fn.results = #[.cell p 84]) (tmps : Array Value) {w : World} {b : Nat} {l : Bool} {f : Nat → Nat} (hp : tmps.getD p undef = .pointer (some ⟨b, 0, none⟩)) (hr : GRow w b l f) :
    (results fn tmps).run Try.prog w = .ok (.agg (gv l f)) w := results_cell_row h tmps w b 84 (gv l f) (0, 0) _ hp hr Try.underlying84 rfl (size56 l f)
end Go.Proofs.Ytmepmmhhiphfiaa
