/- A struct of two Ints and two numbers, by value: opened and shut. -/
import Derived.Test.YtaknjpddjofgeaaRows
import Derived.ProofKit
import Derived.Lib.SmallJoins
import Derived.OpenShut
import Derived.ShutString
import Derived.ChangeOld
import Derived.Below
namespace Go.Proofs.Ytaknjpddjofgeaa.wideReckons
open Go.ChangeShapes Go.WideShapes Go.ChangeAt Go.RowKit
theorem array6 {α : Type} {cs : Array α} (h : cs.size = 6) : ∃ c0 c1 c2 c3 c4 c5, cs = #[c0, c1, c2, c3, c4, c5] := by
  obtain ⟨l⟩ := cs
  match l, h with
  | [c0, c1, c2, c3, c4, c5], _ => exact ⟨c0, c1, c2, c3, c4, c5, rfl⟩
theorem cells_26 : Try.prog.cellsOf 26 = 6 := by kernel_rfl
theorem cells_24 : Try.prog.cellsOf 24 = 2 := by kernel_rfl
theorem cells_2 : Try.prog.cellsOf 2 = 1 := by kernel_rfl
theorem cells_22 : Try.prog.cellsOf 22 = 1 := by kernel_rfl
theorem int_fuel {H : Type} {enc : TypeId × Value → H} {P : Program} {w : World} {base : Nat} {spare : Nat → Bool} {held : Bool} {k : IntKind} {a : Int} {T : TypeId} (n : Nat) (hu : P.underlying T = some (.int k)) (h : (Lit.int k a).wf = true) : DataW.trod enc P w base spare held (n + 1) T [.int k a] = some (.lit (.int k a), []) := by simp [DataW.trod, hu, h]
theorem open_four {H : Type} {enc : TypeId × Value → H} {w : World} {r : Reach} {b0 base : Nat} {spare : Nat → Bool} {held : Bool} {v : Value} {d : DataW H} {p : List MemPlace} (hv : Value.okWide Try.prog w r b0 26 v) (h : DataW.Trod enc Try.prog w base spare held 26 v d p) :
    ∃ a0 a1 a2 a3 a4 a5 : Int, v = .agg #[.int .i64 a0, .int .u64 a1, .int .i64 a2, .int .u64 a3, .int .i64 a4, .int .i64 a5] ∧ d = .agg [.agg [.lit (.int .i64 a0), .lit (.int .u64 a1)], .agg [.lit (.int .i64 a2), .lit (.int .u64 a3)], .lit (.int .i64 a4), .lit (.int .i64 a5)] ∧ p = [] ∧ (Lit.int .i64 a0).wf = true ∧ (Lit.int .u64 a1).wf = true ∧ (Lit.int .i64 a2).wf = true ∧ (Lit.int .u64 a3).wf = true ∧ (Lit.int .i64 a4).wf = true ∧ (Lit.int .i64 a5).wf = true := by
  obtain ⟨cs, rfl, hsz⟩ := okWide_struct Try.underlying26 hv
  obtain ⟨c0, c1, c2, c3, c4, c5, rfl⟩ := array6 (hsz.trans cells_26)
  obtain ⟨fuel, hf⟩ := h
  obtain ⟨xs, n, _, hx, _, hlen, hF⟩ := DataW.trod_struct Try.underlying26 hf
  match xs, hlen with
  | [y0, y1, y2, y3], _ =>
    have h0 : DataW.trod enc Try.prog w base spare held n 24 [c0, c1] = some y0 := by simpa [Value.cells, cells_24] using hF 0 _ rfl
    have h1 : DataW.trod enc Try.prog w base spare held n 24 [c2, c3] = some y1 := by simpa [Value.cells, cells_24] using hF 1 _ rfl
    have h2 : DataW.trod enc Try.prog w base spare held n 2 [c4] = some y2 := by simpa [Value.cells, cells_2] using hF 2 _ rfl
    have h3 : DataW.trod enc Try.prog w base spare held n 2 [c5] = some y3 := by simpa [Value.cells, cells_2] using hF 3 _ rfl
    obtain ⟨z0, z1, m, rfl, _, g0, g1⟩ := trod_struct2 Try.underlying24 h0
    obtain ⟨z2, z3, m', rfl, _, g2, g3⟩ := trod_struct2 Try.underlying24 h1
    have g0' : DataW.trod enc Try.prog w base spare held m 2 [c0] = some z0 := by simpa [cells_2] using g0
    have g1' : DataW.trod enc Try.prog w base spare held m 22 [c1] = some z1 := by simpa [cells_22] using g1
    have g2' : DataW.trod enc Try.prog w base spare held m' 2 [c2] = some z2 := by simpa [cells_2] using g2
    have g3' : DataW.trod enc Try.prog w base spare held m' 22 [c3] = some z3 := by simpa [cells_22] using g3
    obtain ⟨a0, e0, rfl, w0⟩ := DataW.trod_int Try.underlying2 g0'
    obtain ⟨a1, e1, rfl, w1⟩ := DataW.trod_int Try.underlying22 g1'
    obtain ⟨a2, e2, rfl, w2⟩ := DataW.trod_int Try.underlying2 g2'
    obtain ⟨a3, e3, rfl, w3⟩ := DataW.trod_int Try.underlying22 g3'
    obtain ⟨a4, e4, rfl, w4⟩ := DataW.trod_int Try.underlying2 h2
    obtain ⟨a5, e5, rfl, w5⟩ := DataW.trod_int Try.underlying2 h3
    simp at e0 e1 e2 e3 e4 e5
    subst e0 e1 e2 e3 e4 e5
    simp only [Prod.mk.injEq] at hx
    exact ⟨a0, a1, a2, a3, a4, a5, rfl, by simpa using hx.1, by simpa using hx.2, w0, w1, w2, w3, w4, w5⟩
theorem shut_int24 {H : Type} {enc : TypeId × Value → H} {w : World} {base : Nat} {spare : Nat → Bool} {held : Bool} {a0 a1 : Int} (w0 : (Lit.int .i64 a0).wf = true) (w1 : (Lit.int .u64 a1).wf = true) : DataW.trod enc Try.prog w base spare held 2 24 [.int .i64 a0, .int .u64 a1] = some (.agg [.lit (.int .i64 a0), .lit (.int .u64 a1)], []) := by
  have := trod_struct2_mk (enc := enc) (w := w) (base := base) (spare := spare) (held := held) (n := 1) (cs := [.int .i64 a0, .int .u64 a1]) Try.underlying24 (by simp [cells_24])
    (by simpa [cells_2] using int_fuel (enc := enc) (w := w) (base := base) (spare := spare) (held := held) 0 Try.underlying2 w0) (by simpa [cells_22] using int_fuel (enc := enc) (w := w) (base := base) (spare := spare) (held := held) 0 Try.underlying22 w1)
  simpa using this
theorem shut_four {H : Type} {enc : TypeId × Value → H} {w : World} {base : Nat} {spare : Nat → Bool} {held : Bool} {a0 a1 a2 a3 a4 a5 : Int} (w0 : (Lit.int .i64 a0).wf = true) (w1 : (Lit.int .u64 a1).wf = true) (w2 : (Lit.int .i64 a2).wf = true) (w3 : (Lit.int .u64 a3).wf = true) (w4 : (Lit.int .i64 a4).wf = true) (w5 : (Lit.int .i64 a5).wf = true) :
    DataW.Trod enc Try.prog w base spare held 26 (.agg #[.int .i64 a0, .int .u64 a1, .int .i64 a2, .int .u64 a3, .int .i64 a4, .int .i64 a5]) (.agg [.agg [.lit (.int .i64 a0), .lit (.int .u64 a1)], .agg [.lit (.int .i64 a2), .lit (.int .u64 a3)], .lit (.int .i64 a4), .lit (.int .i64 a5)]) [] := by
  have h0 := shut_int24 (enc := enc) (w := w) (base := base) (spare := spare) (held := held) w0 w1
  have h1 := shut_int24 (enc := enc) (w := w) (base := base) (spare := spare) (held := held) w2 w3
  have h2 := int_fuel (enc := enc) (w := w) (base := base) (spare := spare) (held := held) 1 Try.underlying2 w4
  have h3 := int_fuel (enc := enc) (w := w) (base := base) (spare := spare) (held := held) 1 Try.underlying2 w5
  have ts := trod_struct_mk (enc := enc) (w := w) (base := base) (spare := spare) (held := held) (n := 2) (cs := [.int .i64 a0, .int .u64 a1, .int .i64 a2, .int .u64 a3, .int .i64 a4, .int .i64 a5])
    (xs := [(.agg [.lit (.int .i64 a0), .lit (.int .u64 a1)], []), (.agg [.lit (.int .i64 a2), .lit (.int .u64 a3)], []), (.lit (.int .i64 a4), []), (.lit (.int .i64 a5), [])]) Try.underlying26 (by simp [cells_26]) (by simp [cells_24, cells_2, h0, h1, h2, h3])
  exact ⟨_, by simpa [Value.cells] using ts⟩
end Go.Proofs.Ytaknjpddjofgeaa.wideReckons
