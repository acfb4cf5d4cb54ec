/- What the reference's From answers. -/
import Derived.Test.YthlakemoiicdfaaDRef
import Derived.Test.YthlakemoiicdfaaDFrom
namespace Go.Proofs.Ythlakemoiicdfaa.Dy
open Go.RowKit
set_option linter.unusedSimpArgs false
/-- Block b holds these three numbers, of the reference. -/
def R9 (w : World) (b : Nat) (x y z : Int) : Prop := w.heap[b]? = some (.cells #[.int .i64 x, .int .i64 y, .int .i64 z] 45 (0, 0))
theorem R9.c0 {w : World} {b : Nat} {x y z : Int} (h : R9 w b x y z) : w.cell? ⟨b, 0, none⟩ = some (.int .i64 x) := by rw [cell_of_row w b 0 _ _ _ h]; rfl
theorem R9.c1 {w : World} {b : Nat} {x y z : Int} (h : R9 w b x y z) : w.cell? ⟨b, 1, none⟩ = some (.int .i64 y) := by rw [cell_of_row w b 1 _ _ _ h]; rfl
theorem R9.c2 {w : World} {b : Nat} {x y z : Int} (h : R9 w b x y z) : w.cell? ⟨b, 2, none⟩ = some (.int .i64 z) := by rw [cell_of_row w b 2 _ _ _ h]; rfl
theorem R9.fr {w : World} {b : Nat} {x y z : Int} (h : R9 w b x y z) (i : Nat) : w.frozen? ⟨b, i, none⟩ = false := frozen_of_row w b i _ _ h
theorem R9.lt {w : World} {b : Nat} {x y z : Int} (h : R9 w b x y z) : b < w.heap.size := (Array.getElem?_eq_some_iff.1 h).1
theorem R9.s0 {w : World} {b : Nat} {x y z : Int} (h : R9 w b x y z) (u : Int) : R9 (w.setCell ⟨b, 0, none⟩ (.int .i64 u)) b u y z := by unfold R9; rw [Go.heap_setCell_same w b 0 _ _ _ h]; rfl
theorem R9.s1 {w : World} {b : Nat} {x y z : Int} (h : R9 w b x y z) (u : Int) : R9 (w.setCell ⟨b, 1, none⟩ (.int .i64 u)) b x u z := by unfold R9; rw [Go.heap_setCell_same w b 1 _ _ _ h]; rfl
theorem R9.s2 {w : World} {b : Nat} {x y z : Int} (h : R9 w b x y z) (u : Int) : R9 (w.setCell ⟨b, 2, none⟩ (.int .i64 u)) b x y u := by unfold R9; rw [Go.heap_setCell_same w b 2 _ _ _ h]; rfl
theorem R9.other {w : World} {b : Nat} {x y z : Int} (h : R9 w b x y z) {a : Addr} (ha : b ≠ a.block) (v : Value) : R9 (w.setCell a v) b x y z := (heap_setCell_other w a b v ha).trans h
theorem R9.alloc {w : World} {b : Nat} {x y z : Int} (h : R9 w b x y z) (o : Obj) : R9 (w.alloc o) b x y z := (Below.heap_alloc w o b h.lt).trans h
theorem R9.keep {w w' : World} {B b : Nat} {x y z : Int} (h : R9 w b x y z) (hb : Below B w w') (hB : b < B) : R9 w' b x y z := (hb.block b hB).trans h
theorem R9.new (w : World) (x y z : Int) : R9 (w.alloc (.cells #[.int .i64 x, .int .i64 y, .int .i64 z] 45)) w.heap.size x y z := heap_alloc_new w _
theorem rbuild0 (w : World) : Sem.run Try.prog (Instr.build 45 #[]) w = .ok (.agg #[.int .i64 0, .int .i64 0, .int .i64 0]) w := by kernel_rfl
theorem rbuild3 (a b c : Int) (w : World) : Sem.run Try.prog (Instr.build 45 #[(0, .int .i64 a), (1, .int .i64 b), (2, .int .i64 c)]) w = .ok (.agg #[.int .i64 a, .int .i64 b, .int .i64 c]) w := by kernel_rfl
theorem results9 {fn : Func} {p q : Tmp} (h : fn.results = #[.cell p 45, .tmp q]) (tmps : Array Value) {w : World} {b : Nat} {x y z : Int} {v : Value} (hp : tmps.getD p undef = .pointer (some ⟨b, 0, none⟩)) (hq : tmps.getD q undef = v) (hr : R9 w b x y z) :
    (results fn tmps).run Try.prog w = .ok (.tuple #[.agg #[.int .i64 x, .int .i64 y, .int .i64 z], v]) w := by
  have e1 : tmps[p]?.getD undef = .pointer (some ⟨b, 0, none⟩) := by simpa using hp
  have e2 : tmps[q]?.getD undef = v := by simpa using hq
  have c0 := hr.c0
  have c1 := hr.c1
  have c2 := hr.c2
  simp [results, h, e1, e2, go_sem, c0, c1, c2]
theorem r9_new (w : World) (o : Int) (x y z : Int) : R9 ((((w.alloc (.cells #[.int .i64 o, .int .i64 o, .int .i64 o] 45)).setCell ⟨w.heap.size, 0, none⟩ (.int .i64 x)).setCell ⟨w.heap.size, 1, none⟩ (.int .i64 y)).setCell ⟨w.heap.size, 2, none⟩ (.int .i64 z)) w.heap.size x y z := (((R9.new w o o o).s0 x).s1 y).s2 z
end Go.Proofs.Ythlakemoiicdfaa.Dy
