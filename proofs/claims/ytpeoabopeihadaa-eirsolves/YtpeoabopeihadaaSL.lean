/- Rows of numbers appended to rows, and zeros appended to them. -/
import Derived.Test.YtpeoabopeihadaaSQJ
import Derived.Laws.IdiomCopy
import Derived.Deep.RegionLaw
set_option linter.unusedVariables false
set_option linter.unusedSimpArgs false
set_option linter.unusedSectionVars false
namespace Go.Proofs.Ytpeoabopeihadaa.Mn
open Go.RowKit
attribute [local simp] Tri.typeInfo Tri.sizeOf Tri.underlying Tri.runUnderlying Tri.isAgg Tri.zeroValue Tri.depth Tri.stoodInHeld Tri.eqGuardType Tri.call15 Tri.call14 Tri.call16 Tri.call17 Tri.call18 Tri.call19 Tri.call20 Tri.call46 Tri.call49 Tri.call50 Tri.call51 Tri.call52 Tri.call53 Tri.call54 Tri.call55 Tri.call65 Tri.call95 Tri.call106 Tri.call107 Tri.call108 Tri.call109 Tri.call116 Tri.call117 Tri.call118 Tri.call119 Tri.call120 Tri.call122 Tri.call135 Tri.call136 Tri.call137 Tri.call143 Tri.call144 Tri.call145 Tri.call146 Tri.call147 Tri.call149 Tri.call150 Tri.call151 Tri.call152 Tri.call156 Tri.call157 Tri.call159 Tri.call160 Tri.call161 Tri.call162 Tri.call163 Tri.call164 Tri.call165 Tri.call166 Tri.call167 Tri.call175 Tri.call176 Tri.call178 Tri.call179 Tri.call180 Tri.call181 Tri.call182 Tri.call183 Tri.call186 Tri.call187 Tri.call188 Tri.call204 Tri.call205
theorem row_len {w : World} {a : Option Addr} {n c : Nat} {zs : List Int} (h : Row w (.slice a n c) zs) : n = zs.length := by
  obtain ⟨a', c', e⟩ := row_slice h
  cases e
  rfl
theorem row_cell {w : World} {b off n c : Nat} {zs : List Int} (h : Row w (.slice (some ⟨b, off, none⟩) n c) zs) {j : Nat} (hj : j < zs.length) : w.cell? ⟨b, off + j, none⟩ = some (.int .i64 (zs.getD j 0)) := by
  rcases h with ⟨a, cap, h1, h2⟩ | ⟨b', off', cap, h1, _, _, hc, _⟩
  · rw [h2] at hj; exact absurd hj (Nat.not_lt_zero j)
  · cases h1
    exact hc j hj
theorem row_open' {w : World} {v : Value} {zs : List Int} (h : Row w v zs) (h0 : 0 < zs.length) : ∃ b off cap, v = .slice (some ⟨b, off, none⟩) zs.length cap := by
  rcases h with ⟨a, cap, _, h2⟩ | ⟨b', off', cap, h1, _⟩
  · rw [h2] at h0; exact absurd h0 (Nat.not_lt_zero 0)
  · exact ⟨_, _, _, h1⟩
def From (W : World) (x : Value) (ys : List Int) : Prop :=
  (x = .slice none 0 0 ∧ ys = []) ∨ ∃ ad c, x = .slice (some ad) ys.length c ∧ ∀ j, j < ys.length → W.cell? (ad.add j) = some (.int .i64 (ys.getD j 0))
theorem wrap_small (n : Nat) (h : n ≤ 255) : IntKind.i64.wrap (n : Int) = (n : Int) := by rw [IntKind.wrap_i64]; omega
structure Ln where
  id : Int
  st : Int
  be : Int
  out : Int
  rt : Int
  gr : Int
  due : Int
  inc : Int
  got : Int
  adj : Int
  wri : Int
  rcv : Int
abbrev lnA (L : Ln) (s : Value) : Array Value := #[.int .i64 L.id, .int .i64 L.st, .int .i64 L.be, .int .i64 L.out, .int .i64 L.rt, .int .i64 L.gr, .int .i64 L.due, .int .i64 L.inc, .int .i64 L.got, .int .i64 L.adj, .int .i64 L.wri, .int .i64 L.rcv, s]
abbrev lnZ : Array Value := #[.int .i64 0, .int .i64 0, .int .i64 0, .int .i64 0, .int .i64 0, .int .i64 0, .int .i64 0, .int .i64 0, .int .i64 0, .int .i64 0, .int .i64 0, .int .i64 0, .slice none 0 0]
def LB (w : World) (b : Nat) (T : TypeId) (L : Ln) (s : Value) : Prop := w.heap[b]? = some (.cells (lnA L s) T (0, 0))
section
variable {w w' : World} {b : Nat} {T : TypeId} {L : Ln} {s : Value}
theorem LB.c0 (h : LB w b T L s) : w.cell? ⟨b, 0, none⟩ = some (.int .i64 L.id) := by rw [cell_of_row w b 0 _ _ _ h]; rfl
theorem LB.c1 (h : LB w b T L s) : w.cell? ⟨b, 1, none⟩ = some (.int .i64 L.st) := by rw [cell_of_row w b 1 _ _ _ h]; rfl
theorem LB.c2 (h : LB w b T L s) : w.cell? ⟨b, 2, none⟩ = some (.int .i64 L.be) := by rw [cell_of_row w b 2 _ _ _ h]; rfl
end
def Blk (w : World) (b : Nat) (cs : Array Value) (T : TypeId) : Prop := w.heap[b]? = some (.cells cs T (0, 0))
section
variable {w w' : World} {b : Nat} {T : TypeId} {cs : Array Value}
theorem Blk.lt (h : Blk w b cs T) : b < w.heap.size := (Array.getElem?_eq_some_iff.1 h).1
theorem Blk.keep (h : Blk w b cs T) (hb : Below w.heap.size w w') : Blk w' b cs T := (hb.block b h.lt).trans h
theorem Blk.new (w : World) (cs : Array Value) (T : TypeId) : Blk (w.alloc (.cells cs T)) w.heap.size cs T := heap_alloc_new w _
theorem Blk.at (h : Blk w b cs T) (i : Nat) (v : Value) (hv : cs[i]? = some v) : w.cell? ⟨b, i, none⟩ = some v := by rw [cell_of_row w b i _ _ _ h]; exact hv
end
theorem Row.off {w : World} {a : Option Addr} {n c g i : Nat} {v : Value} {l : List Int} (h : Row w (.slice a n c) l) (hg : ∀ x, a = some x → x.block ≠ g) : Row (w.setCell ⟨g, i, none⟩ v) (.slice a n c) l := by
  rcases h with ⟨a', c', h1, h2⟩ | ⟨b, off, c', h1, h2, h3, h4, h5⟩
  · exact .inl ⟨a', c', h1, h2⟩
  · have e : a = some ⟨b, off, none⟩ := by injection h1
    refine .inr ⟨b, off, c', h1, h2, h3, fun j hj => ?_, h5⟩
    have k := h4 j hj
    have hne := hg _ e
    simp only [World.cell?] at k ⊢
    rw [Go.heap_setCell_other w ⟨g, i, none⟩ b v hne]
    exact k
theorem Row.drew {w : World} {v : Value} {l : List Int} (h : Row w v l) : Row w.drew v l := h.later (fun _ _ h => h)
def Sl (a : Option Addr) (n c : Nat) : Prop := n ≤ c ∧ (a = none → c = 0)
theorem Sl.nil : Sl none 0 0 := ⟨Nat.le_refl _, fun _ => rfl⟩
end Go.Proofs.Ytpeoabopeihadaa.Mn
