/- A struct of five numbers, by value: opened and shut. -/
import Derived.Test.YthlakemoiicdfaaRows
import Derived.ProofKit
import Derived.Lib.SmallJoins
import Derived.OpenShut
import Derived.ShutString
import Derived.ChangeOld
import Derived.Below
namespace Go.Proofs.Ythlakemoiicdfaa
open Go.ChangeShapes Go.WideShapes Go.ChangeAt Go.RowKit
theorem array5 {α : Type} {cs : Array α} (h : cs.size = 5) : ∃ c0 c1 c2 c3 c4, cs = #[c0, c1, c2, c3, c4] := by
  obtain ⟨l⟩ := cs
  match l, h with
  | [c0, c1, c2, c3, c4], _ => exact ⟨c0, c1, c2, c3, c4, rfl⟩
theorem cells_23 : Try.prog.cellsOf 23 = 5 := by kernel_rfl
theorem cells_2 : Try.prog.cellsOf 2 = 1 := by kernel_rfl
theorem cells_3 : Try.prog.cellsOf 3 = 1 := by kernel_rfl
theorem int_fuel {H : Type} {enc : TypeId × Value → H} {P : Program} {w : World} {base : Nat} {spare : Nat → Bool} {held : Bool} {k : IntKind} {a : Int} {T : TypeId} (n : Nat) (hu : P.underlying T = some (.int k)) (h : (Lit.int k a).wf = true) : DataW.trod enc P w base spare held (n + 1) T [.int k a] = some (.lit (.int k a), []) := by simp [DataW.trod, hu, h]
theorem open_asked {H : Type} {enc : TypeId × Value → H} {w : World} {r : Reach} {b0 base : Nat} {spare : Nat → Bool} {held : Bool} {v : Value} {d : DataW H} {p : List MemPlace} (hv : Value.okWide Try.prog w r b0 23 v) (h : DataW.Trod enc Try.prog w base spare held 23 v d p) :
    ∃ a0 a1 a2 a3 a4 : Int, v = .agg #[.int .i64 a0, .int .i64 a1, .int .i64 a2, .int .i64 a3, .int .i64 a4] ∧ d = .agg [.lit (.int .i64 a0), .lit (.int .i64 a1), .lit (.int .i64 a2), .lit (.int .i64 a3), .lit (.int .i64 a4)] ∧ p = [] ∧ (Lit.int .i64 a0).wf = true ∧ (Lit.int .i64 a1).wf = true ∧ (Lit.int .i64 a2).wf = true ∧ (Lit.int .i64 a3).wf = true ∧ (Lit.int .i64 a4).wf = true := by
  obtain ⟨cs, rfl, hsz⟩ := okWide_struct Try.underlying23 hv
  obtain ⟨c0, c1, c2, c3, c4, rfl⟩ := array5 (hsz.trans cells_23)
  obtain ⟨fuel, hf⟩ := h
  obtain ⟨xs, n, _, hx, _, hlen, hF⟩ := DataW.trod_struct Try.underlying23 hf
  match xs, hlen with
  | [y0, y1, y2, y3, y4], _ =>
    have h0 : DataW.trod enc Try.prog w base spare held n 2 [c0] = some y0 := by simpa [Value.cells, cells_2] using hF 0 _ rfl
    have h1 : DataW.trod enc Try.prog w base spare held n 2 [c1] = some y1 := by simpa [Value.cells, cells_2] using hF 1 _ rfl
    have h2 : DataW.trod enc Try.prog w base spare held n 3 [c2] = some y2 := by simpa [Value.cells, cells_3] using hF 2 _ rfl
    have h3 : DataW.trod enc Try.prog w base spare held n 3 [c3] = some y3 := by simpa [Value.cells, cells_3] using hF 3 _ rfl
    have h4 : DataW.trod enc Try.prog w base spare held n 3 [c4] = some y4 := by simpa [Value.cells, cells_3] using hF 4 _ rfl
    obtain ⟨a0, e0, rfl, w0⟩ := DataW.trod_int Try.underlying2 h0
    obtain ⟨a1, e1, rfl, w1⟩ := DataW.trod_int Try.underlying2 h1
    obtain ⟨a2, e2, rfl, w2⟩ := DataW.trod_int Try.underlying3 h2
    obtain ⟨a3, e3, rfl, w3⟩ := DataW.trod_int Try.underlying3 h3
    obtain ⟨a4, e4, rfl, w4⟩ := DataW.trod_int Try.underlying3 h4
    simp at e0 e1 e2 e3 e4
    subst e0 e1 e2 e3 e4
    simp only [Prod.mk.injEq] at hx
    exact ⟨a0, a1, a2, a3, a4, rfl, by simpa using hx.1, by simpa using hx.2, w0, w1, w2, w3, w4⟩
theorem shut_asked {H : Type} {enc : TypeId × Value → H} {w : World} {base : Nat} {spare : Nat → Bool} {held : Bool} {a0 a1 a2 a3 a4 : Int} (w0 : (Lit.int .i64 a0).wf = true) (w1 : (Lit.int .i64 a1).wf = true) (w2 : (Lit.int .i64 a2).wf = true) (w3 : (Lit.int .i64 a3).wf = true) (w4 : (Lit.int .i64 a4).wf = true) :
    DataW.Trod enc Try.prog w base spare held 23 (.agg #[.int .i64 a0, .int .i64 a1, .int .i64 a2, .int .i64 a3, .int .i64 a4]) (.agg [.lit (.int .i64 a0), .lit (.int .i64 a1), .lit (.int .i64 a2), .lit (.int .i64 a3), .lit (.int .i64 a4)]) [] := by
  have h0 := int_fuel (enc := enc) (w := w) (base := base) (spare := spare) (held := held) 1 Try.underlying2 w0
  have h1 := int_fuel (enc := enc) (w := w) (base := base) (spare := spare) (held := held) 1 Try.underlying2 w1
  have h2 := int_fuel (enc := enc) (w := w) (base := base) (spare := spare) (held := held) 1 Try.underlying3 w2
  have h3 := int_fuel (enc := enc) (w := w) (base := base) (spare := spare) (held := held) 1 Try.underlying3 w3
  have h4 := int_fuel (enc := enc) (w := w) (base := base) (spare := spare) (held := held) 1 Try.underlying3 w4
  have ts := trod_struct_mk (enc := enc) (w := w) (base := base) (spare := spare) (held := held) (n := 2) (cs := [.int .i64 a0, .int .i64 a1, .int .i64 a2, .int .i64 a3, .int .i64 a4])
    (xs := [(.lit (.int .i64 a0), []), (.lit (.int .i64 a1), []), (.lit (.int .i64 a2), []), (.lit (.int .i64 a3), []), (.lit (.int .i64 a4), [])]) Try.underlying23 (by simp [cells_23]) (by simp [cells_2, cells_3, h0, h1, h2, h3, h4])
  exact ⟨_, by simpa [Value.cells] using ts⟩
/-- Block b holds what is asked. -/
def R5 (w : World) (b : Nat) (x r a c y : Int) : Prop := w.heap[b]? = some (.cells #[.int .i64 x, .int .i64 r, .int .i64 a, .int .i64 c, .int .i64 y] 23 (0, 0))
theorem R5.c0 {w : World} {b : Nat} {x r a c y : Int} (h : R5 w b x r a c y) : w.cell? ⟨b, 0, none⟩ = some (.int .i64 x) := by rw [cell_of_row w b 0 _ _ _ h]; rfl
theorem R5.c1 {w : World} {b : Nat} {x r a c y : Int} (h : R5 w b x r a c y) : w.cell? ⟨b, 1, none⟩ = some (.int .i64 r) := by rw [cell_of_row w b 1 _ _ _ h]; rfl
theorem R5.c2 {w : World} {b : Nat} {x r a c y : Int} (h : R5 w b x r a c y) : w.cell? ⟨b, 2, none⟩ = some (.int .i64 a) := by rw [cell_of_row w b 2 _ _ _ h]; rfl
theorem R5.c3 {w : World} {b : Nat} {x r a c y : Int} (h : R5 w b x r a c y) : w.cell? ⟨b, 3, none⟩ = some (.int .i64 c) := by rw [cell_of_row w b 3 _ _ _ h]; rfl
theorem R5.c4 {w : World} {b : Nat} {x r a c y : Int} (h : R5 w b x r a c y) : w.cell? ⟨b, 4, none⟩ = some (.int .i64 y) := by rw [cell_of_row w b 4 _ _ _ h]; rfl
theorem R5.fr {w : World} {b : Nat} {x r a c y : Int} (h : R5 w b x r a c y) (i : Nat) : w.frozen? ⟨b, i, none⟩ = false := frozen_of_row w b i _ _ h
theorem R5.lt {w : World} {b : Nat} {x r a c y : Int} (h : R5 w b x r a c y) : b < w.heap.size := (Array.getElem?_eq_some_iff.1 h).1
theorem R5.s0 {w : World} {b : Nat} {x r a c y : Int} (h : R5 w b x r a c y) (u : Int) : R5 (w.setCell ⟨b, 0, none⟩ (.int .i64 u)) b u r a c y := by unfold R5; rw [Go.heap_setCell_same w b 0 _ _ _ h]; rfl
theorem R5.s1 {w : World} {b : Nat} {x r a c y : Int} (h : R5 w b x r a c y) (u : Int) : R5 (w.setCell ⟨b, 1, none⟩ (.int .i64 u)) b x u a c y := by unfold R5; rw [Go.heap_setCell_same w b 1 _ _ _ h]; rfl
theorem R5.keep {w w' : World} {B b : Nat} {x r a c y : Int} (h : R5 w b x r a c y) (hb : Below B w w') (hB : b < B) : R5 w' b x r a c y := (hb.block b hB).trans h
theorem R5.new (w : World) (x r a c y : Int) : R5 (w.alloc (.cells #[.int .i64 x, .int .i64 r, .int .i64 a, .int .i64 c, .int .i64 y] 23)) w.heap.size x r a c y := heap_alloc_new w _
end Go.Proofs.Ythlakemoiicdfaa
