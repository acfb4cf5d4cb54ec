/- A struct of four numbers and a truth value, by value: opened and shut. -/
import Derived.Test.YtmpalgfhamahnaaRows
import Derived.ProofKit
import Derived.Lib.SmallJoins
import Derived.OpenShut
import Derived.ShutString
import Derived.ChangeOld
import Derived.Below
namespace Go.Proofs.Ytmpalgfhamahnaa
open Go.ChangeShapes Go.WideShapes Go.ChangeAt Go.RowKit
theorem array5 {α : Type} {cs : Array α} (h : cs.size = 5) : ∃ c0 c1 c2 c3 c4, cs = #[c0, c1, c2, c3, c4] := by
  obtain ⟨l⟩ := cs
  match l, h with
  | [c0, c1, c2, c3, c4], _ => exact ⟨c0, c1, c2, c3, c4, rfl⟩
theorem cells_23 : Try.prog.cellsOf 23 = 5 := by kernel_rfl
theorem cells_3 : Try.prog.cellsOf 3 = 1 := by kernel_rfl
theorem cells_4 : Try.prog.cellsOf 4 = 1 := by kernel_rfl
theorem int_fuel {H : Type} {enc : TypeId × Value → H} {P : Program} {w : World} {base : Nat} {spare : Nat → Bool} {held : Bool} {k : IntKind} {a : Int} {T : TypeId} (n : Nat) (hu : P.underlying T = some (.int k)) (h : (Lit.int k a).wf = true) : DataW.trod enc P w base spare held (n + 1) T [.int k a] = some (.lit (.int k a), []) := by simp [DataW.trod, hu, h]
theorem open_asked {H : Type} {enc : TypeId × Value → H} {w : World} {r : Reach} {b0 base : Nat} {spare : Nat → Bool} {held : Bool} {v : Value} {d : DataW H} {p : List MemPlace} (hv : Value.okWide Try.prog w r b0 23 v) (h : DataW.Trod enc Try.prog w base spare held 23 v d p) :
    ∃ (a0 a1 a2 a3 : Int) (a4 : Bool), v = .agg #[.int .i64 a0, .int .i64 a1, .int .i64 a2, .int .i64 a3, .bool a4] ∧ d = .agg [.lit (.int .i64 a0), .lit (.int .i64 a1), .lit (.int .i64 a2), .lit (.int .i64 a3), .lit (.bool a4)] ∧ p = [] ∧ (Lit.int .i64 a0).wf = true ∧ (Lit.int .i64 a1).wf = true ∧ (Lit.int .i64 a2).wf = true ∧ (Lit.int .i64 a3).wf = true := by
  obtain ⟨cs, rfl, hsz⟩ := okWide_struct Try.underlying23 hv
  obtain ⟨c0, c1, c2, c3, c4, rfl⟩ := array5 (hsz.trans cells_23)
  obtain ⟨fuel, hf⟩ := h
  obtain ⟨xs, n, _, hx, _, hlen, hF⟩ := DataW.trod_struct Try.underlying23 hf
  match xs, hlen with
  | [y0, y1, y2, y3, y4], _ =>
    have h0 : DataW.trod enc Try.prog w base spare held n 3 [c0] = some y0 := by simpa [Value.cells, cells_3] using hF 0 _ rfl
    have h1 : DataW.trod enc Try.prog w base spare held n 3 [c1] = some y1 := by simpa [Value.cells, cells_3] using hF 1 _ rfl
    have h2 : DataW.trod enc Try.prog w base spare held n 3 [c2] = some y2 := by simpa [Value.cells, cells_3] using hF 2 _ rfl
    have h3 : DataW.trod enc Try.prog w base spare held n 3 [c3] = some y3 := by simpa [Value.cells, cells_3] using hF 3 _ rfl
    have h4 : DataW.trod enc Try.prog w base spare held n 4 [c4] = some y4 := by simpa [Value.cells, cells_4] using hF 4 _ rfl
    obtain ⟨a0, e0, rfl, w0⟩ := DataW.trod_int Try.underlying3 h0
    obtain ⟨a1, e1, rfl, w1⟩ := DataW.trod_int Try.underlying3 h1
    obtain ⟨a2, e2, rfl, w2⟩ := DataW.trod_int Try.underlying3 h2
    obtain ⟨a3, e3, rfl, w3⟩ := DataW.trod_int Try.underlying3 h3
    obtain ⟨a4, e4, rfl⟩ := DataW.trod_bool Try.underlying4 h4
    simp at e0 e1 e2 e3 e4
    subst e0 e1 e2 e3 e4
    simp only [Prod.mk.injEq] at hx
    exact ⟨a0, a1, a2, a3, a4, rfl, by simpa using hx.1, by simpa using hx.2, w0, w1, w2, w3⟩
theorem shut_asked {H : Type} {enc : TypeId × Value → H} {w : World} {base : Nat} {spare : Nat → Bool} {held : Bool} {a0 a1 a2 a3 : Int} {a4 : Bool} (w0 : (Lit.int .i64 a0).wf = true) (w1 : (Lit.int .i64 a1).wf = true) (w2 : (Lit.int .i64 a2).wf = true) (w3 : (Lit.int .i64 a3).wf = true) :
    DataW.Trod enc Try.prog w base spare held 23 (.agg #[.int .i64 a0, .int .i64 a1, .int .i64 a2, .int .i64 a3, .bool a4]) (.agg [.lit (.int .i64 a0), .lit (.int .i64 a1), .lit (.int .i64 a2), .lit (.int .i64 a3), .lit (.bool a4)]) [] := by
  have h0 := int_fuel (enc := enc) (w := w) (base := base) (spare := spare) (held := held) 1 Try.underlying3 w0
  have h1 := int_fuel (enc := enc) (w := w) (base := base) (spare := spare) (held := held) 1 Try.underlying3 w1
  have h2 := int_fuel (enc := enc) (w := w) (base := base) (spare := spare) (held := held) 1 Try.underlying3 w2
  have h3 := int_fuel (enc := enc) (w := w) (base := base) (spare := spare) (held := held) 1 Try.underlying3 w3
  have h4 : DataW.trod enc Try.prog w base spare held 2 4 [.bool a4] = some (.lit (.bool a4), []) := by simp [DataW.trod, Try.underlying4]
  have ts := trod_struct_mk (enc := enc) (w := w) (base := base) (spare := spare) (held := held) (n := 2) (cs := [.int .i64 a0, .int .i64 a1, .int .i64 a2, .int .i64 a3, .bool a4])
    (xs := [(.lit (.int .i64 a0), []), (.lit (.int .i64 a1), []), (.lit (.int .i64 a2), []), (.lit (.int .i64 a3), []), (.lit (.bool a4), [])]) Try.underlying23 (by simp [cells_23]) (by simp [cells_3, cells_4, h0, h1, h2, h3, h4])
  exact ⟨_, by simpa [Value.cells] using ts⟩
/-- Block b holds what is asked. -/
def R5 (w : World) (b : Nat) (n k s t : Int) (en : Bool) : Prop := w.heap[b]? = some (.cells #[.int .i64 n, .int .i64 k, .int .i64 s, .int .i64 t, .bool en] 23 (0, 0))
theorem R5.c0 {w : World} {b : Nat} {n k s t : Int} {en : Bool} (h : R5 w b n k s t en) : w.cell? ⟨b, 0, none⟩ = some (.int .i64 n) := by rw [cell_of_row w b 0 _ _ _ h]; rfl
theorem R5.c1 {w : World} {b : Nat} {n k s t : Int} {en : Bool} (h : R5 w b n k s t en) : w.cell? ⟨b, 1, none⟩ = some (.int .i64 k) := by rw [cell_of_row w b 1 _ _ _ h]; rfl
theorem R5.c2 {w : World} {b : Nat} {n k s t : Int} {en : Bool} (h : R5 w b n k s t en) : w.cell? ⟨b, 2, none⟩ = some (.int .i64 s) := by rw [cell_of_row w b 2 _ _ _ h]; rfl
theorem R5.c3 {w : World} {b : Nat} {n k s t : Int} {en : Bool} (h : R5 w b n k s t en) : w.cell? ⟨b, 3, none⟩ = some (.int .i64 t) := by rw [cell_of_row w b 3 _ _ _ h]; rfl
theorem R5.c4 {w : World} {b : Nat} {n k s t : Int} {en : Bool} (h : R5 w b n k s t en) : w.cell? ⟨b, 4, none⟩ = some (.bool en) := by rw [cell_of_row w b 4 _ _ _ h]; rfl
theorem R5.lt {w : World} {b : Nat} {n k s t : Int} {en : Bool} (h : R5 w b n k s t en) : b < w.heap.size := (Array.getElem?_eq_some_iff.1 h).1
theorem R5.keep {w w' : World} {b : Nat} {n k s t : Int} {en : Bool} (h : R5 w b n k s t en) (hb : Below w.heap.size w w') : R5 w' b n k s t en := (hb.block b h.lt).trans h
theorem R5.alloc {w : World} {b : Nat} {n k s t : Int} {en : Bool} (h : R5 w b n k s t en) (o : Obj) : R5 (w.alloc o) b n k s t en := (Below.heap_alloc w o b h.lt).trans h
theorem R5.new (w : World) (n k s t : Int) (en : Bool) : R5 (w.alloc (.cells #[.int .i64 n, .int .i64 k, .int .i64 s, .int .i64 t, .bool en] 23)) w.heap.size n k s t en := heap_alloc_new w _
end Go.Proofs.Ytmpalgfhamahnaa
