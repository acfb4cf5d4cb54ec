/- A step of a loan: check, do, end. -/
import Derived.Test.YtlaaomhcilnbkaaLRx
set_option linter.unusedVariables false
set_option linter.unusedSimpArgs false
set_option linter.unusedSectionVars false
namespace Go.Proofs.Ytlaaomhcilnbkaa.Mn
open Go.RowKit
attribute [local simp] Tri.typeInfo Tri.sizeOf Tri.underlying Tri.runUnderlying Tri.isAgg Tri.zeroValue Tri.depth Tri.stoodInHeld Tri.eqGuardType Tri.call16 Tri.call3 Tri.call4 Tri.call5 Tri.call6 Tri.call7 Tri.call8 Tri.call9 Tri.call10 Tri.call11 Tri.call12 Tri.call13 Tri.call14 Tri.call15 Tri.call17 Tri.call18 Tri.call19 Tri.call20 Tri.call21 Tri.call22 Tri.call23 Tri.call24 Tri.call25 Tri.call26 Tri.call27 Tri.call28 Tri.call29 Tri.call30 Tri.call31 Tri.call32 Tri.call33 Tri.call34 Tri.call35 Tri.call36 Tri.call37 Tri.call38 Tri.call39 Tri.call40 Tri.call41 Tri.call42 Tri.call43 Tri.call44 Tri.call45 Tri.call46 Tri.call47 Tri.call48 Tri.call49 Tri.call50 Tri.call51 Tri.call52 Tri.call53 Tri.call54 Tri.call55 Tri.call56 Tri.call57 Tri.call58 Tri.call59 Tri.call60 Tri.call61 Tri.call62 Tri.call63 Tri.call64 Tri.call65 Tri.call66 Tri.call67 Tri.call68 Tri.call69 Tri.call70 Tri.call71 Tri.call72 Tri.call73 Tri.call74 Tri.call75 Tri.call76 Tri.call77 Tri.call78 Tri.call79 Tri.call80 Tri.call81 Tri.call82 Tri.call83 Tri.call84 Tri.call85 Tri.call86 Tri.call87 Tri.call88 Tri.call89 Tri.call90 Tri.call91 Tri.call92 Tri.call93 Tri.call94 Tri.call95 Tri.call96 Tri.call97 Tri.call98 Tri.call99 Tri.call100 Tri.call101 Tri.call102 Tri.call103 Tri.call104 Tri.call105 Tri.call106 Tri.call107 Tri.call108 Tri.call109 Tri.call110 Tri.call111 Tri.call112 Tri.call113 Tri.call114 Tri.call115 Tri.call116 Tri.call117 Tri.call118 Tri.call119 Tri.call120 Tri.call121 Tri.call122 Tri.call123 Tri.call124 Tri.call125 Tri.call126 Tri.call127 Tri.call128 Tri.call129 Tri.call130 Tri.call131 Tri.call132 Tri.call133 Tri.call134 Tri.call135 Tri.call136 Tri.call137 Tri.call138 Tri.call139 Tri.call140 Tri.call141 Tri.call142 Tri.call143 Tri.call144 Tri.call145 Tri.call146 Tri.call147 Tri.call148 Tri.call149 Tri.call150 Tri.call151 Tri.call152 Tri.call153 Tri.call154 Tri.call155 Tri.call157 Tri.call158 Tri.call159 Tri.call160 Tri.call161 Tri.call162 Tri.call163 Tri.call165 Tri.call166 Tri.call167 Tri.call183 Tri.call184
/-- Block b is these cells, of the type T. -/
def Blk (w : World) (b : Nat) (cs : Array Value) (T : TypeId) : Prop := w.heap[b]? = some (.cells cs T (0, 0))
section
variable {w w' : World} {b : Nat} {T : TypeId} {cs : Array Value}
theorem Blk.lt (h : Blk w b cs T) : b < w.heap.size := (Array.getElem?_eq_some_iff.1 h).1
theorem Blk.keep (h : Blk w b cs T) (hb : Below w.heap.size w w') : Blk w' b cs T := (hb.block b h.lt).trans h
theorem Blk.alloc (h : Blk w b cs T) (o : Obj) : Blk (w.alloc o) b cs T := (Below.heap_alloc w o b h.lt).trans h
theorem Blk.new (w : World) (cs : Array Value) (T : TypeId) : Blk (w.alloc (.cells cs T)) w.heap.size cs T := heap_alloc_new w _
theorem Blk.at (h : Blk w b cs T) (i : Nat) (v : Value) (hv : cs[i]? = some v) : w.cell? ⟨b, i, none⟩ = some v := by rw [cell_of_row w b i _ _ _ h]; exact hv
theorem Blk.fz (h : Blk w b cs T) (j : Nat) : w.frozen? ⟨b, j, none⟩ = false := frozen_of_row w b j _ _ h
theorem Blk.set (h : Blk w b cs T) (i : Nat) (v : Value) : Blk (w.setCell ⟨b, i, none⟩ v) b (cs.setIfInBounds i v) T := (Go.heap_setCell_same w b i _ _ _ h).trans rfl
theorem Blk.other (h : Blk w b cs T) {g : Nat} (hg : b ≠ g) (i : Nat) (v : Value) : Blk (w.setCell ⟨g, i, none⟩ v) b cs T := by
  exact (Go.heap_setCell_other w ⟨g, i, none⟩ b v hg).trans h
end
structure TK (w wr : World) (sv cs : Array Value) : Prop where
  bel : Below w.heap.size w wr
  b0 : Blk wr (w.heap.size) sv 122
  b1 : Blk wr (w.heap.size + 1) cs 62
  b2 : Blk wr (w.heap.size + 1 + 1) #[.int .i64 0, .int .i64 0, .int .i64 0, .int .i64 0, .int .i64 0, .int .i64 0, .int .i64 0, .int .i64 0, .int .i64 0, .int .i64 0, .int .i64 0, .int .i64 0, .slice none 0 0] 62
  b3 : Blk wr (w.heap.size + 1 + 1 + 1) #[.int .i64 0, .int .i64 0, .int .i64 0, .int .i64 0] 74
  b4 : Blk wr (w.heap.size + 1 + 1 + 1 + 1) #[.int .i64 0, .int .i64 0, .int .i64 0, .int .i64 0, .int .i64 0, .int .i64 0, .int .i64 0, .int .i64 0, .int .i64 0, .int .i64 0, .int .i64 0, .int .i64 0, .slice none 0 0] 62
  b5 : Blk wr (w.heap.size + 1 + 1 + 1 + 1 + 1) #[.int .i64 0, .int .i64 0, .int .i64 0, .int .i64 0] 74
theorem TK.keep {w wr wr2 : World} {sv cs : Array Value} (h : TK w wr sv cs) (hb : Below wr.heap.size wr wr2) : TK w wr2 sv cs := ⟨below_via h.bel hb, h.b0.keep hb, h.b1.keep hb, h.b2.keep hb, h.b3.keep hb, h.b4.keep hb, h.b5.keep hb⟩
theorem TK.new (w : World) (sv cs : Array Value) : TK w ((((((w.alloc (.cells sv 122)).alloc (.cells cs 62)).alloc (.cells #[.int .i64 0, .int .i64 0, .int .i64 0, .int .i64 0, .int .i64 0, .int .i64 0, .int .i64 0, .int .i64 0, .int .i64 0, .int .i64 0, .int .i64 0, .int .i64 0, .slice none 0 0] 62)).alloc (.cells #[.int .i64 0, .int .i64 0, .int .i64 0, .int .i64 0] 74)).alloc (.cells #[.int .i64 0, .int .i64 0, .int .i64 0, .int .i64 0, .int .i64 0, .int .i64 0, .int .i64 0, .int .i64 0, .int .i64 0, .int .i64 0, .int .i64 0, .int .i64 0, .slice none 0 0] 62)).alloc (.cells #[.int .i64 0, .int .i64 0, .int .i64 0, .int .i64 0] 74)) sv cs := by
  refine ⟨?_, ?_, ?_, ?_, ?_, ?_, ?_⟩
  · exact (((((below1L w _).alloc (by simp) _).alloc (by simp; omega) _).alloc (by simp; omega) _).alloc (by simp; omega) _).alloc (by simp; omega) _
  · have h := (((((Blk.new w sv 122).alloc (.cells cs 62)).alloc (.cells #[.int .i64 0, .int .i64 0, .int .i64 0, .int .i64 0, .int .i64 0, .int .i64 0, .int .i64 0, .int .i64 0, .int .i64 0, .int .i64 0, .int .i64 0, .int .i64 0, .slice none 0 0] 62)).alloc (.cells #[.int .i64 0, .int .i64 0, .int .i64 0, .int .i64 0] 74)).alloc (.cells #[.int .i64 0, .int .i64 0, .int .i64 0, .int .i64 0, .int .i64 0, .int .i64 0, .int .i64 0, .int .i64 0, .int .i64 0, .int .i64 0, .int .i64 0, .int .i64 0, .slice none 0 0] 62)).alloc (.cells #[.int .i64 0, .int .i64 0, .int .i64 0, .int .i64 0] 74)
    simpa using h
  · have h := ((((Blk.new (w.alloc (.cells sv 122)) cs 62).alloc (.cells #[.int .i64 0, .int .i64 0, .int .i64 0, .int .i64 0, .int .i64 0, .int .i64 0, .int .i64 0, .int .i64 0, .int .i64 0, .int .i64 0, .int .i64 0, .int .i64 0, .slice none 0 0] 62)).alloc (.cells #[.int .i64 0, .int .i64 0, .int .i64 0, .int .i64 0] 74)).alloc (.cells #[.int .i64 0, .int .i64 0, .int .i64 0, .int .i64 0, .int .i64 0, .int .i64 0, .int .i64 0, .int .i64 0, .int .i64 0, .int .i64 0, .int .i64 0, .int .i64 0, .slice none 0 0] 62)).alloc (.cells #[.int .i64 0, .int .i64 0, .int .i64 0, .int .i64 0] 74)
    simpa using h
  · have h := (((Blk.new ((w.alloc (.cells sv 122)).alloc (.cells cs 62)) #[.int .i64 0, .int .i64 0, .int .i64 0, .int .i64 0, .int .i64 0, .int .i64 0, .int .i64 0, .int .i64 0, .int .i64 0, .int .i64 0, .int .i64 0, .int .i64 0, .slice none 0 0] 62).alloc (.cells #[.int .i64 0, .int .i64 0, .int .i64 0, .int .i64 0] 74)).alloc (.cells #[.int .i64 0, .int .i64 0, .int .i64 0, .int .i64 0, .int .i64 0, .int .i64 0, .int .i64 0, .int .i64 0, .int .i64 0, .int .i64 0, .int .i64 0, .int .i64 0, .slice none 0 0] 62)).alloc (.cells #[.int .i64 0, .int .i64 0, .int .i64 0, .int .i64 0] 74)
    simpa using h
  · have h := ((Blk.new (((w.alloc (.cells sv 122)).alloc (.cells cs 62)).alloc (.cells #[.int .i64 0, .int .i64 0, .int .i64 0, .int .i64 0, .int .i64 0, .int .i64 0, .int .i64 0, .int .i64 0, .int .i64 0, .int .i64 0, .int .i64 0, .int .i64 0, .slice none 0 0] 62)) #[.int .i64 0, .int .i64 0, .int .i64 0, .int .i64 0] 74).alloc (.cells #[.int .i64 0, .int .i64 0, .int .i64 0, .int .i64 0, .int .i64 0, .int .i64 0, .int .i64 0, .int .i64 0, .int .i64 0, .int .i64 0, .int .i64 0, .int .i64 0, .slice none 0 0] 62)).alloc (.cells #[.int .i64 0, .int .i64 0, .int .i64 0, .int .i64 0] 74)
    simpa using h
  · have h := (Blk.new ((((w.alloc (.cells sv 122)).alloc (.cells cs 62)).alloc (.cells #[.int .i64 0, .int .i64 0, .int .i64 0, .int .i64 0, .int .i64 0, .int .i64 0, .int .i64 0, .int .i64 0, .int .i64 0, .int .i64 0, .int .i64 0, .int .i64 0, .slice none 0 0] 62)).alloc (.cells #[.int .i64 0, .int .i64 0, .int .i64 0, .int .i64 0] 74)) #[.int .i64 0, .int .i64 0, .int .i64 0, .int .i64 0, .int .i64 0, .int .i64 0, .int .i64 0, .int .i64 0, .int .i64 0, .int .i64 0, .int .i64 0, .int .i64 0, .slice none 0 0] 62).alloc (.cells #[.int .i64 0, .int .i64 0, .int .i64 0, .int .i64 0] 74)
    simpa using h
  · have h := Blk.new (((((w.alloc (.cells sv 122)).alloc (.cells cs 62)).alloc (.cells #[.int .i64 0, .int .i64 0, .int .i64 0, .int .i64 0, .int .i64 0, .int .i64 0, .int .i64 0, .int .i64 0, .int .i64 0, .int .i64 0, .int .i64 0, .int .i64 0, .slice none 0 0] 62)).alloc (.cells #[.int .i64 0, .int .i64 0, .int .i64 0, .int .i64 0] 74)).alloc (.cells #[.int .i64 0, .int .i64 0, .int .i64 0, .int .i64 0, .int .i64 0, .int .i64 0, .int .i64 0, .int .i64 0, .int .i64 0, .int .i64 0, .int .i64 0, .int .i64 0, .slice none 0 0] 62)) #[.int .i64 0, .int .i64 0, .int .i64 0, .int .i64 0] 74
    simpa using h
abbrev putL (w : World) (g : Nat) (v0 v1 v2 v3 v4 v5 v6 v7 v8 v9 v10 v11 v12 : Value) : World := ((((((((((((w.setCell ⟨g, 0, none⟩ v0).setCell ⟨g, 1, none⟩ v1).setCell ⟨g, 2, none⟩ v2).setCell ⟨g, 3, none⟩ v3).setCell ⟨g, 4, none⟩ v4).setCell ⟨g, 5, none⟩ v5).setCell ⟨g, 6, none⟩ v6).setCell ⟨g, 7, none⟩ v7).setCell ⟨g, 8, none⟩ v8).setCell ⟨g, 9, none⟩ v9).setCell ⟨g, 10, none⟩ v10).setCell ⟨g, 11, none⟩ v11).setCell ⟨g, 12, none⟩ v12
abbrev putM (w : World) (g : Nat) (v0 v1 v2 v3 : Value) : World := (((w.setCell ⟨g, 0, none⟩ v0).setCell ⟨g, 1, none⟩ v1).setCell ⟨g, 2, none⟩ v2).setCell ⟨g, 3, none⟩ v3
theorem Blk.wrL {w : World} {g : Nat} {T : TypeId} {c0 c1 c2 c3 c4 c5 c6 c7 c8 c9 c10 c11 c12 : Value} (h : Blk w g #[c0, c1, c2, c3, c4, c5, c6, c7, c8, c9, c10, c11, c12] T) (v0 v1 v2 v3 v4 v5 v6 v7 v8 v9 v10 v11 v12 : Value) : Blk (putL w g v0 v1 v2 v3 v4 v5 v6 v7 v8 v9 v10 v11 v12) g #[v0, v1, v2, v3, v4, v5, v6, v7, v8, v9, v10, v11, v12] T := by
  have k := (((((((((((((h.set 0 v0).set 1 v1).set 2 v2).set 3 v3).set 4 v4).set 5 v5).set 6 v6).set 7 v7).set 8 v8).set 9 v9).set 10 v10).set 11 v11).set 12 v12)
  simpa using k
theorem Blk.offL {w : World} {k g : Nat} {T : TypeId} {cs : Array Value} (h : Blk w k cs T) (hg : k ≠ g) (v0 v1 v2 v3 v4 v5 v6 v7 v8 v9 v10 v11 v12 : Value) : Blk (putL w g v0 v1 v2 v3 v4 v5 v6 v7 v8 v9 v10 v11 v12) k cs T := (((((((((((((h.other hg 0 v0).other hg 1 v1).other hg 2 v2).other hg 3 v3).other hg 4 v4).other hg 5 v5).other hg 6 v6).other hg 7 v7).other hg 8 v8).other hg 9 v9).other hg 10 v10).other hg 11 v11).other hg 12 v12)
theorem below_putL {B : Nat} {w0 w : World} {g : Nat} (h : Below B w0 w) (hg : B ≤ g) (v0 v1 v2 v3 v4 v5 v6 v7 v8 v9 v10 v11 v12 : Value) : Below B w0 (putL w g v0 v1 v2 v3 v4 v5 v6 v7 v8 v9 v10 v11 v12) := (((((((((((((h.setCell (p := ⟨g, 0, none⟩) hg v0).setCell (p := ⟨g, 1, none⟩) hg v1).setCell (p := ⟨g, 2, none⟩) hg v2).setCell (p := ⟨g, 3, none⟩) hg v3).setCell (p := ⟨g, 4, none⟩) hg v4).setCell (p := ⟨g, 5, none⟩) hg v5).setCell (p := ⟨g, 6, none⟩) hg v6).setCell (p := ⟨g, 7, none⟩) hg v7).setCell (p := ⟨g, 8, none⟩) hg v8).setCell (p := ⟨g, 9, none⟩) hg v9).setCell (p := ⟨g, 10, none⟩) hg v10).setCell (p := ⟨g, 11, none⟩) hg v11).setCell (p := ⟨g, 12, none⟩) hg v12)
theorem Blk.wrM {w : World} {g : Nat} {T : TypeId} {c0 c1 c2 c3 : Value} (h : Blk w g #[c0, c1, c2, c3] T) (v0 v1 v2 v3 : Value) : Blk (putM w g v0 v1 v2 v3) g #[v0, v1, v2, v3] T := by
  have k := ((((h.set 0 v0).set 1 v1).set 2 v2).set 3 v3)
  simpa using k
theorem Blk.offM {w : World} {k g : Nat} {T : TypeId} {cs : Array Value} (h : Blk w k cs T) (hg : k ≠ g) (v0 v1 v2 v3 : Value) : Blk (putM w g v0 v1 v2 v3) k cs T := ((((h.other hg 0 v0).other hg 1 v1).other hg 2 v2).other hg 3 v3)
theorem below_putM {B : Nat} {w0 w : World} {g : Nat} (h : Below B w0 w) (hg : B ≤ g) (v0 v1 v2 v3 : Value) : Below B w0 (putM w g v0 v1 v2 v3) := ((((h.setCell (p := ⟨g, 0, none⟩) hg v0).setCell (p := ⟨g, 1, none⟩) hg v1).setCell (p := ⟨g, 2, none⟩) hg v2).setCell (p := ⟨g, 3, none⟩) hg v3)
theorem Row.off {w : World} {a : Option Addr} {n c g i : Nat} {v : Value} {l : List Int} (h : Row w (.slice a n c) l) (hg : ∀ x, a = some x → x.block ≠ g) : Row (w.setCell ⟨g, i, none⟩ v) (.slice a n c) l := by
  rcases h with ⟨a', c', h1, h2⟩ | ⟨b, off, c', h1, h2, h3, h4, h5⟩
  · exact .inl ⟨a', c', h1, h2⟩
  · have e : a = some ⟨b, off, none⟩ := by injection h1
    refine .inr ⟨b, off, c', h1, h2, h3, fun j hj => ?_, h5⟩
    have k := h4 j hj
    have hne := hg _ e
    simp only [World.cell?] at k ⊢
    rw [Go.heap_setCell_other w ⟨g, i, none⟩ b v hne]
    exact k
theorem Row.offL {w : World} {a : Option Addr} {n c g : Nat} {l : List Int} (h : Row w (.slice a n c) l) (hg : ∀ x, a = some x → x.block ≠ g) (v0 v1 v2 v3 v4 v5 v6 v7 v8 v9 v10 v11 v12 : Value) : Row (putL w g v0 v1 v2 v3 v4 v5 v6 v7 v8 v9 v10 v11 v12) (.slice a n c) l := (((((((((((((h.off (i := 0) (v := v0) hg).off (i := 1) (v := v1) hg).off (i := 2) (v := v2) hg).off (i := 3) (v := v3) hg).off (i := 4) (v := v4) hg).off (i := 5) (v := v5) hg).off (i := 6) (v := v6) hg).off (i := 7) (v := v7) hg).off (i := 8) (v := v8) hg).off (i := 9) (v := v9) hg).off (i := 10) (v := v10) hg).off (i := 11) (v := v11) hg).off (i := 12) (v := v12) hg)
theorem Row.offM {w : World} {a : Option Addr} {n c g : Nat} {l : List Int} (h : Row w (.slice a n c) l) (hg : ∀ x, a = some x → x.block ≠ g) (v0 v1 v2 v3 : Value) : Row (putM w g v0 v1 v2 v3) (.slice a n c) l := ((((h.off (i := 0) (v := v0) hg).off (i := 1) (v := v1) hg).off (i := 2) (v := v2) hg).off (i := 3) (v := v3) hg)
theorem Row.drew {w : World} {v : Value} {l : List Int} (h : Row w v l) : Row w.drew v l := h.later (fun _ _ h => h)
theorem Blk.drew {w : World} {k : Nat} {T : TypeId} {cs : Array Value} (h : Blk w k cs T) : Blk w.drew k cs T := h
set_option maxHeartbeats 8000000 in
theorem take_a (fc fd : Nat) (hfc : ∀ (args : Array Value) (w : World), (_root_.Go.callFunc fc args).run (Tri Try.prog) w = .ok (.enter fc args) w) (hfd : ∀ (args : Array Value) (w : World), (_root_.Go.callFunc fd args).run (Tri Try.prog) w = .ok (.enter fd args) w) (L : Ln) (a : Option Addr) (n c pb : Nat) (w : World) (e : Int) (he : (e != 0) = true) (HC : Hid (∀ w1, Below w.heap.size w w1 → Calls (Tri Try.prog) fc #[.agg #[.int .i64 L.id, .int .i64 L.st, .int .i64 L.be, .int .i64 L.out, .int .i64 L.rt, .int .i64 L.gr, .int .i64 L.due, .int .i64 L.inc, .int .i64 L.got, .int .i64 L.adj, .int .i64 L.wri, .int .i64 L.rcv, .slice a n c], .pointer (some ⟨pb, 0, none⟩)] w1 fun z w2 => z = .returned (.int .i64 e) ∧ Below w1.heap.size w1 w2)) : Calls (Tri Try.prog) 84 #[.agg #[.func (.func fc) #[] #[.pointer (some ⟨pb, 0, none⟩)], .func (.func fd) #[] #[.pointer (some ⟨pb, 0, none⟩)], .func (.func 83) #[] #[]], .agg #[.int .i64 L.id, .int .i64 L.st, .int .i64 L.be, .int .i64 L.out, .int .i64 L.rt, .int .i64 L.gr, .int .i64 L.due, .int .i64 L.inc, .int .i64 L.got, .int .i64 L.adj, .int .i64 L.wri, .int .i64 L.rcv, .slice a n c]] w fun z w2 => z = .returned (.tuple #[.agg #[.int .i64 0, .int .i64 0, .int .i64 0, .int .i64 0, .int .i64 0, .int .i64 0, .int .i64 0, .int .i64 0, .int .i64 0, .int .i64 0, .int .i64 0, .int .i64 0, .slice none 0 0], .agg #[.int .i64 0, .int .i64 0, .int .i64 0, .int .i64 0], .int .i64 e]) ∧ Below w.heap.size w w2 := by
  have HT := hide (TK.new w #[.func (.func fc) #[] #[.pointer (some ⟨pb, 0, none⟩)], .func (.func fd) #[] #[.pointer (some ⟨pb, 0, none⟩)], .func (.func 83) #[] #[]] #[.int .i64 L.id, .int .i64 L.st, .int .i64 L.be, .int .i64 L.out, .int .i64 L.rt, .int .i64 L.gr, .int .i64 L.due, .int .i64 L.inc, .int .i64 L.got, .int .i64 L.adj, .int .i64 L.wri, .int .i64 L.rcv, .slice a n c])
  go_enter (Tri.at (by decide) Try.func84), Try.ntmps84
  go_wp2_with fail
  refine (unhide HC _ (unhide HT).bel).mono ?_
  rintro z w1 ⟨rfl, hb⟩
  replace HT := hide ((unhide HT).keep hb)
  clear hb HC
  have x0 := (show Blk _ _ _ _ from (unhide HT).b4).at 0 _ rfl
  have x1 := (show Blk _ _ _ _ from (unhide HT).b4).at 1 _ rfl
  have x2 := (show Blk _ _ _ _ from (unhide HT).b4).at 2 _ rfl
  have x3 := (show Blk _ _ _ _ from (unhide HT).b4).at 3 _ rfl
  have x4 := (show Blk _ _ _ _ from (unhide HT).b4).at 4 _ rfl
  have x5 := (show Blk _ _ _ _ from (unhide HT).b4).at 5 _ rfl
  have x6 := (show Blk _ _ _ _ from (unhide HT).b4).at 6 _ rfl
  have x7 := (show Blk _ _ _ _ from (unhide HT).b4).at 7 _ rfl
  have x8 := (show Blk _ _ _ _ from (unhide HT).b4).at 8 _ rfl
  have x9 := (show Blk _ _ _ _ from (unhide HT).b4).at 9 _ rfl
  have x10 := (show Blk _ _ _ _ from (unhide HT).b4).at 10 _ rfl
  have x11 := (show Blk _ _ _ _ from (unhide HT).b4).at 11 _ rfl
  have x12 := (show Blk _ _ _ _ from (unhide HT).b4).at 12 _ rfl
  have y0 := (show Blk _ _ _ _ from (unhide HT).b5).at 0 _ rfl
  have y1 := (show Blk _ _ _ _ from (unhide HT).b5).at 1 _ rfl
  have y2 := (show Blk _ _ _ _ from (unhide HT).b5).at 2 _ rfl
  have y3 := (show Blk _ _ _ _ from (unhide HT).b5).at 3 _ rfl
  have p0 := (show Blk _ _ _ _ from (unhide HT).b2).at 0 _ rfl
  have p1 := (show Blk _ _ _ _ from (unhide HT).b2).at 1 _ rfl
  have p2 := (show Blk _ _ _ _ from (unhide HT).b2).at 2 _ rfl
  have p3 := (show Blk _ _ _ _ from (unhide HT).b2).at 3 _ rfl
  have p4 := (show Blk _ _ _ _ from (unhide HT).b2).at 4 _ rfl
  have p5 := (show Blk _ _ _ _ from (unhide HT).b2).at 5 _ rfl
  have p6 := (show Blk _ _ _ _ from (unhide HT).b2).at 6 _ rfl
  have p7 := (show Blk _ _ _ _ from (unhide HT).b2).at 7 _ rfl
  have p8 := (show Blk _ _ _ _ from (unhide HT).b2).at 8 _ rfl
  have p9 := (show Blk _ _ _ _ from (unhide HT).b2).at 9 _ rfl
  have p10 := (show Blk _ _ _ _ from (unhide HT).b2).at 10 _ rfl
  have p11 := (show Blk _ _ _ _ from (unhide HT).b2).at 11 _ rfl
  have p12 := (show Blk _ _ _ _ from (unhide HT).b2).at 12 _ rfl
  have q0 := (show Blk _ _ _ _ from (unhide HT).b3).at 0 _ rfl
  have q1 := (show Blk _ _ _ _ from (unhide HT).b3).at 1 _ rfl
  have q2 := (show Blk _ _ _ _ from (unhide HT).b3).at 2 _ rfl
  have q3 := (show Blk _ _ _ _ from (unhide HT).b3).at 3 _ rfl
  have u0 := (show Blk _ _ _ _ from (unhide HT).b2).fz 0
  have u1 := (show Blk _ _ _ _ from (unhide HT).b2).fz 1
  have u2 := (show Blk _ _ _ _ from (unhide HT).b2).fz 2
  have u3 := (show Blk _ _ _ _ from (unhide HT).b2).fz 3
  have u4 := (show Blk _ _ _ _ from (unhide HT).b2).fz 4
  have u5 := (show Blk _ _ _ _ from (unhide HT).b2).fz 5
  have u6 := (show Blk _ _ _ _ from (unhide HT).b2).fz 6
  have u7 := (show Blk _ _ _ _ from (unhide HT).b2).fz 7
  have u8 := (show Blk _ _ _ _ from (unhide HT).b2).fz 8
  have u9 := (show Blk _ _ _ _ from (unhide HT).b2).fz 9
  have u10 := (show Blk _ _ _ _ from (unhide HT).b2).fz 10
  have u11 := (show Blk _ _ _ _ from (unhide HT).b2).fz 11
  have u12 := (show Blk _ _ _ _ from (unhide HT).b2).fz 12
  have v0 := (show Blk _ _ _ _ from (unhide HT).b3).fz 0
  have v1 := (show Blk _ _ _ _ from (unhide HT).b3).fz 1
  have v2 := (show Blk _ _ _ _ from (unhide HT).b3).fz 2
  have v3 := (show Blk _ _ _ _ from (unhide HT).b3).fz 3
  go_wp2_with fail
  go_region
  clear x0 x1 x2 x3 x4 x5 x6 x7 x8 x9 x10 x11 x12 y0 y1 y2 y3 p0 p1 p2 p3 p4 p5 p6 p7 p8 p9 p10 p11 p12 q0 q1 q2 q3 u0 u1 u2 u3 u4 u5 u6 u7 u8 u9 u10 u11 u12 v0 v1 v2 v3
  have k2 : Blk (putM (putL w1 (w.heap.size + 1 + 1) (.int .i64 0) (.int .i64 0) (.int .i64 0) (.int .i64 0) (.int .i64 0) (.int .i64 0) (.int .i64 0) (.int .i64 0) (.int .i64 0) (.int .i64 0) (.int .i64 0) (.int .i64 0) (.slice none 0 0)) (w.heap.size + 1 + 1 + 1) (.int .i64 0) (.int .i64 0) (.int .i64 0) (.int .i64 0)).drew (w.heap.size + 1 + 1) #[.int .i64 0, .int .i64 0, .int .i64 0, .int .i64 0, .int .i64 0, .int .i64 0, .int .i64 0, .int .i64 0, .int .i64 0, .int .i64 0, .int .i64 0, .int .i64 0, .slice none 0 0] 62 := (((show Blk _ _ _ _ from (unhide HT).b2).wrL (.int .i64 0) (.int .i64 0) (.int .i64 0) (.int .i64 0) (.int .i64 0) (.int .i64 0) (.int .i64 0) (.int .i64 0) (.int .i64 0) (.int .i64 0) (.int .i64 0) (.int .i64 0) (.slice none 0 0)).offM (by omega) (.int .i64 0) (.int .i64 0) (.int .i64 0) (.int .i64 0)).drew
  have k3 : Blk (putM (putL w1 (w.heap.size + 1 + 1) (.int .i64 0) (.int .i64 0) (.int .i64 0) (.int .i64 0) (.int .i64 0) (.int .i64 0) (.int .i64 0) (.int .i64 0) (.int .i64 0) (.int .i64 0) (.int .i64 0) (.int .i64 0) (.slice none 0 0)) (w.heap.size + 1 + 1 + 1) (.int .i64 0) (.int .i64 0) (.int .i64 0) (.int .i64 0)).drew (w.heap.size + 1 + 1 + 1) #[.int .i64 0, .int .i64 0, .int .i64 0, .int .i64 0] 74 := (((show Blk _ _ _ _ from (unhide HT).b3).offL (by omega) (.int .i64 0) (.int .i64 0) (.int .i64 0) (.int .i64 0) (.int .i64 0) (.int .i64 0) (.int .i64 0) (.int .i64 0) (.int .i64 0) (.int .i64 0) (.int .i64 0) (.int .i64 0) (.slice none 0 0)).wrM (.int .i64 0) (.int .i64 0) (.int .i64 0) (.int .i64 0)).drew
  have k4 : Below w.heap.size w (putM (putL w1 (w.heap.size + 1 + 1) (.int .i64 0) (.int .i64 0) (.int .i64 0) (.int .i64 0) (.int .i64 0) (.int .i64 0) (.int .i64 0) (.int .i64 0) (.int .i64 0) (.int .i64 0) (.int .i64 0) (.int .i64 0) (.slice none 0 0)) (w.heap.size + 1 + 1 + 1) (.int .i64 0) (.int .i64 0) (.int .i64 0) (.int .i64 0)).drew := below_drew (below_putM (below_putL (unhide HT).bel (by omega) (.int .i64 0) (.int .i64 0) (.int .i64 0) (.int .i64 0) (.int .i64 0) (.int .i64 0) (.int .i64 0) (.int .i64 0) (.int .i64 0) (.int .i64 0) (.int .i64 0) (.int .i64 0) (.slice none 0 0)) (by omega) (.int .i64 0) (.int .i64 0) (.int .i64 0) (.int .i64 0))
  generalize (putM (putL w1 (w.heap.size + 1 + 1) (.int .i64 0) (.int .i64 0) (.int .i64 0) (.int .i64 0) (.int .i64 0) (.int .i64 0) (.int .i64 0) (.int .i64 0) (.int .i64 0) (.int .i64 0) (.int .i64 0) (.int .i64 0) (.slice none 0 0)) (w.heap.size + 1 + 1 + 1) (.int .i64 0) (.int .i64 0) (.int .i64 0) (.int .i64 0)).drew = W at *
  clear HT
  have p0 := k2.at 0 _ rfl
  have p1 := k2.at 1 _ rfl
  have p2 := k2.at 2 _ rfl
  have p3 := k2.at 3 _ rfl
  have p4 := k2.at 4 _ rfl
  have p5 := k2.at 5 _ rfl
  have p6 := k2.at 6 _ rfl
  have p7 := k2.at 7 _ rfl
  have p8 := k2.at 8 _ rfl
  have p9 := k2.at 9 _ rfl
  have p10 := k2.at 10 _ rfl
  have p11 := k2.at 11 _ rfl
  have p12 := k2.at 12 _ rfl
  have q0 := k3.at 0 _ rfl
  have q1 := k3.at 1 _ rfl
  have q2 := k3.at 2 _ rfl
  have q3 := k3.at 3 _ rfl
  go_wp2_with fail
  exact bodyPost_ret (v := .tuple #[.agg #[.int .i64 0, .int .i64 0, .int .i64 0, .int .i64 0, .int .i64 0, .int .i64 0, .int .i64 0, .int .i64 0, .int .i64 0, .int .i64 0, .int .i64 0, .int .i64 0, .slice none 0 0], .agg #[.int .i64 0, .int .i64 0, .int .i64 0, .int .i64 0], .int .i64 e]) (by simp [results, Try.results84, go_sem, p0, p1, p2, p3, p4, p5, p6, p7, p8, p9, p10, p11, p12, q0, q1, q2, q3]) rfl ⟨rfl, k4⟩
set_option maxHeartbeats 8000000 in
theorem take_b (fc fd : Nat) (hfc : ∀ (args : Array Value) (w : World), (_root_.Go.callFunc fc args).run (Tri Try.prog) w = .ok (.enter fc args) w) (hfd : ∀ (args : Array Value) (w : World), (_root_.Go.callFunc fd args).run (Tri Try.prog) w = .ok (.enter fd args) w) (L : Ln) (a : Option Addr) (n c pb : Nat) (w : World) (K : Ln) (a2 : Option Addr) (n2 c2 : Nat) (m0 m1 m2 m3 : Int) (HC : Hid (∀ w1, Below w.heap.size w w1 → Calls (Tri Try.prog) fc #[.agg #[.int .i64 L.id, .int .i64 L.st, .int .i64 L.be, .int .i64 L.out, .int .i64 L.rt, .int .i64 L.gr, .int .i64 L.due, .int .i64 L.inc, .int .i64 L.got, .int .i64 L.adj, .int .i64 L.wri, .int .i64 L.rcv, .slice a n c], .pointer (some ⟨pb, 0, none⟩)] w1 fun z w2 => z = .returned (.int .i64 0) ∧ Below w1.heap.size w1 w2)) (HD : Hid (∀ w1, Below w.heap.size w w1 → Calls (Tri Try.prog) fd #[.agg #[.int .i64 L.id, .int .i64 L.st, .int .i64 L.be, .int .i64 L.out, .int .i64 L.rt, .int .i64 L.gr, .int .i64 L.due, .int .i64 L.inc, .int .i64 L.got, .int .i64 L.adj, .int .i64 L.wri, .int .i64 L.rcv, .slice a n c], .pointer (some ⟨pb, 0, none⟩)] w1 fun z w2 => z = .returned (.tuple #[.agg #[.int .i64 K.id, .int .i64 K.st, .int .i64 K.be, .int .i64 K.out, .int .i64 K.rt, .int .i64 K.gr, .int .i64 K.due, .int .i64 K.inc, .int .i64 K.got, .int .i64 K.adj, .int .i64 K.wri, .int .i64 K.rcv, .slice a2 n2 c2], .agg #[.int .i64 m0, .int .i64 m1, .int .i64 m2, .int .i64 m3]]) ∧ Below w1.heap.size w1 w2)) (e : Int) (he : (e != 0) = true) (HE : Hid (∀ w1, Below w.heap.size w w1 → Calls (Tri Try.prog) 83 #[.agg #[.int .i64 K.id, .int .i64 K.st, .int .i64 K.be, .int .i64 K.out, .int .i64 K.rt, .int .i64 K.gr, .int .i64 K.due, .int .i64 K.inc, .int .i64 K.got, .int .i64 K.adj, .int .i64 K.wri, .int .i64 K.rcv, .slice a2 n2 c2]] w1 fun z w2 => z = .returned (.tuple #[.agg #[.int .i64 0, .int .i64 0, .int .i64 0, .int .i64 0, .int .i64 0, .int .i64 0, .int .i64 0, .int .i64 0, .int .i64 0, .int .i64 0, .int .i64 0, .int .i64 0, .slice none 0 0], .int .i64 e]) ∧ Below w1.heap.size w1 w2)) : Calls (Tri Try.prog) 84 #[.agg #[.func (.func fc) #[] #[.pointer (some ⟨pb, 0, none⟩)], .func (.func fd) #[] #[.pointer (some ⟨pb, 0, none⟩)], .func (.func 83) #[] #[]], .agg #[.int .i64 L.id, .int .i64 L.st, .int .i64 L.be, .int .i64 L.out, .int .i64 L.rt, .int .i64 L.gr, .int .i64 L.due, .int .i64 L.inc, .int .i64 L.got, .int .i64 L.adj, .int .i64 L.wri, .int .i64 L.rcv, .slice a n c]] w fun z w2 => z = .returned (.tuple #[.agg #[.int .i64 0, .int .i64 0, .int .i64 0, .int .i64 0, .int .i64 0, .int .i64 0, .int .i64 0, .int .i64 0, .int .i64 0, .int .i64 0, .int .i64 0, .int .i64 0, .slice none 0 0], .agg #[.int .i64 0, .int .i64 0, .int .i64 0, .int .i64 0], .int .i64 e]) ∧ Below w.heap.size w w2 := by
  have HT := hide (TK.new w #[.func (.func fc) #[] #[.pointer (some ⟨pb, 0, none⟩)], .func (.func fd) #[] #[.pointer (some ⟨pb, 0, none⟩)], .func (.func 83) #[] #[]] #[.int .i64 L.id, .int .i64 L.st, .int .i64 L.be, .int .i64 L.out, .int .i64 L.rt, .int .i64 L.gr, .int .i64 L.due, .int .i64 L.inc, .int .i64 L.got, .int .i64 L.adj, .int .i64 L.wri, .int .i64 L.rcv, .slice a n c])
  go_enter (Tri.at (by decide) Try.func84), Try.ntmps84
  go_wp2_with fail
  refine (unhide HC _ (unhide HT).bel).mono ?_
  rintro z w1 ⟨rfl, hb⟩
  replace HT := hide ((unhide HT).keep hb)
  clear hb HC
  have t0 : ((0 : Int) != 0) = false := rfl
  have x0 := (show Blk _ _ _ _ from (unhide HT).b0).at 0 _ rfl
  have x1 := (show Blk _ _ _ _ from (unhide HT).b0).at 1 _ rfl
  have x2 := (show Blk _ _ _ _ from (unhide HT).b0).at 2 _ rfl
  have y0 := (show Blk _ _ _ _ from (unhide HT).b1).at 0 _ rfl
  have y1 := (show Blk _ _ _ _ from (unhide HT).b1).at 1 _ rfl
  have y2 := (show Blk _ _ _ _ from (unhide HT).b1).at 2 _ rfl
  have y3 := (show Blk _ _ _ _ from (unhide HT).b1).at 3 _ rfl
  have y4 := (show Blk _ _ _ _ from (unhide HT).b1).at 4 _ rfl
  have y5 := (show Blk _ _ _ _ from (unhide HT).b1).at 5 _ rfl
  have y6 := (show Blk _ _ _ _ from (unhide HT).b1).at 6 _ rfl
  have y7 := (show Blk _ _ _ _ from (unhide HT).b1).at 7 _ rfl
  have y8 := (show Blk _ _ _ _ from (unhide HT).b1).at 8 _ rfl
  have y9 := (show Blk _ _ _ _ from (unhide HT).b1).at 9 _ rfl
  have y10 := (show Blk _ _ _ _ from (unhide HT).b1).at 10 _ rfl
  have y11 := (show Blk _ _ _ _ from (unhide HT).b1).at 11 _ rfl
  have y12 := (show Blk _ _ _ _ from (unhide HT).b1).at 12 _ rfl
  go_wp2_with fail
  refine (unhide HD _ (unhide HT).bel).mono ?_
  rintro z w2 ⟨rfl, hb⟩
  replace HT := hide ((unhide HT).keep hb)
  clear hb HD
  clear x0 x1 x2 y0 y1 y2 y3 y4 y5 y6 y7 y8 y9 y10 y11 y12
  have sz : w.heap.size + 1 + 1 + 1 + 1 + 1 < w2.heap.size := (show Blk _ _ _ _ from (unhide HT).b5).lt
  replace HT : Hid (TK w ((w2.alloc (.cells #[.int .i64 K.id, .int .i64 K.st, .int .i64 K.be, .int .i64 K.out, .int .i64 K.rt, .int .i64 K.gr, .int .i64 K.due, .int .i64 K.inc, .int .i64 K.got, .int .i64 K.adj, .int .i64 K.wri, .int .i64 K.rcv, .slice a2 n2 c2] 62)).alloc (.cells #[.int .i64 m0, .int .i64 m1, .int .i64 m2, .int .i64 m3] 74)) #[.func (.func fc) #[] #[.pointer (some ⟨pb, 0, none⟩)], .func (.func fd) #[] #[.pointer (some ⟨pb, 0, none⟩)], .func (.func 83) #[] #[]] #[.int .i64 L.id, .int .i64 L.st, .int .i64 L.be, .int .i64 L.out, .int .i64 L.rt, .int .i64 L.gr, .int .i64 L.due, .int .i64 L.inc, .int .i64 L.got, .int .i64 L.adj, .int .i64 L.wri, .int .i64 L.rcv, .slice a n c]) := hide ((unhide HT).keep ((below1L w2 _).alloc (by simp) _))
  have HM : Hid (Blk ((w2.alloc (.cells #[.int .i64 K.id, .int .i64 K.st, .int .i64 K.be, .int .i64 K.out, .int .i64 K.rt, .int .i64 K.gr, .int .i64 K.due, .int .i64 K.inc, .int .i64 K.got, .int .i64 K.adj, .int .i64 K.wri, .int .i64 K.rcv, .slice a2 n2 c2] 62)).alloc (.cells #[.int .i64 m0, .int .i64 m1, .int .i64 m2, .int .i64 m3] 74)) (w2.heap.size + 1) #[.int .i64 m0, .int .i64 m1, .int .i64 m2, .int .i64 m3] 74) := hide (by have h := Blk.new (w2.alloc (.cells #[.int .i64 K.id, .int .i64 K.st, .int .i64 K.be, .int .i64 K.out, .int .i64 K.rt, .int .i64 K.gr, .int .i64 K.due, .int .i64 K.inc, .int .i64 K.got, .int .i64 K.adj, .int .i64 K.wri, .int .i64 K.rcv, .slice a2 n2 c2] 62)) #[.int .i64 m0, .int .i64 m1, .int .i64 m2, .int .i64 m3] 74; simpa using h)
  have x0 := (show Blk _ _ _ _ from (unhide HT).b0).at 0 _ rfl
  have x1 := (show Blk _ _ _ _ from (unhide HT).b0).at 1 _ rfl
  have x2 := (show Blk _ _ _ _ from (unhide HT).b0).at 2 _ rfl
  go_wp2_with fail
  refine (unhide HE _ (unhide HT).bel).mono ?_
  rintro z w3 ⟨rfl, hb⟩
  have sz3 : w2.heap.size + 1 < w3.heap.size := ((unhide HM).keep hb).lt
  replace HT : Hid (TK w (w3.alloc (.cells #[.int .i64 0, .int .i64 0, .int .i64 0, .int .i64 0, .int .i64 0, .int .i64 0, .int .i64 0, .int .i64 0, .int .i64 0, .int .i64 0, .int .i64 0, .int .i64 0, .slice none 0 0] 62)) #[.func (.func fc) #[] #[.pointer (some ⟨pb, 0, none⟩)], .func (.func fd) #[] #[.pointer (some ⟨pb, 0, none⟩)], .func (.func 83) #[] #[]] #[.int .i64 L.id, .int .i64 L.st, .int .i64 L.be, .int .i64 L.out, .int .i64 L.rt, .int .i64 L.gr, .int .i64 L.due, .int .i64 L.inc, .int .i64 L.got, .int .i64 L.adj, .int .i64 L.wri, .int .i64 L.rcv, .slice a n c]) := hide (((unhide HT).keep hb).keep (below1L w3 _))
  replace HM : Hid (Blk (w3.alloc (.cells #[.int .i64 0, .int .i64 0, .int .i64 0, .int .i64 0, .int .i64 0, .int .i64 0, .int .i64 0, .int .i64 0, .int .i64 0, .int .i64 0, .int .i64 0, .int .i64 0, .slice none 0 0] 62)) (w2.heap.size + 1) #[.int .i64 m0, .int .i64 m1, .int .i64 m2, .int .i64 m3] 74) := hide (((unhide HM).keep hb).alloc _)
  clear hb HE x0 x1 x2
  have x0 := (show Blk _ _ _ _ from (unhide HT).b4).at 0 _ rfl
  have x1 := (show Blk _ _ _ _ from (unhide HT).b4).at 1 _ rfl
  have x2 := (show Blk _ _ _ _ from (unhide HT).b4).at 2 _ rfl
  have x3 := (show Blk _ _ _ _ from (unhide HT).b4).at 3 _ rfl
  have x4 := (show Blk _ _ _ _ from (unhide HT).b4).at 4 _ rfl
  have x5 := (show Blk _ _ _ _ from (unhide HT).b4).at 5 _ rfl
  have x6 := (show Blk _ _ _ _ from (unhide HT).b4).at 6 _ rfl
  have x7 := (show Blk _ _ _ _ from (unhide HT).b4).at 7 _ rfl
  have x8 := (show Blk _ _ _ _ from (unhide HT).b4).at 8 _ rfl
  have x9 := (show Blk _ _ _ _ from (unhide HT).b4).at 9 _ rfl
  have x10 := (show Blk _ _ _ _ from (unhide HT).b4).at 10 _ rfl
  have x11 := (show Blk _ _ _ _ from (unhide HT).b4).at 11 _ rfl
  have x12 := (show Blk _ _ _ _ from (unhide HT).b4).at 12 _ rfl
  have y0 := (show Blk _ _ _ _ from (unhide HT).b5).at 0 _ rfl
  have y1 := (show Blk _ _ _ _ from (unhide HT).b5).at 1 _ rfl
  have y2 := (show Blk _ _ _ _ from (unhide HT).b5).at 2 _ rfl
  have y3 := (show Blk _ _ _ _ from (unhide HT).b5).at 3 _ rfl
  have p0 := (show Blk _ _ _ _ from (unhide HT).b2).at 0 _ rfl
  have p1 := (show Blk _ _ _ _ from (unhide HT).b2).at 1 _ rfl
  have p2 := (show Blk _ _ _ _ from (unhide HT).b2).at 2 _ rfl
  have p3 := (show Blk _ _ _ _ from (unhide HT).b2).at 3 _ rfl
  have p4 := (show Blk _ _ _ _ from (unhide HT).b2).at 4 _ rfl
  have p5 := (show Blk _ _ _ _ from (unhide HT).b2).at 5 _ rfl
  have p6 := (show Blk _ _ _ _ from (unhide HT).b2).at 6 _ rfl
  have p7 := (show Blk _ _ _ _ from (unhide HT).b2).at 7 _ rfl
  have p8 := (show Blk _ _ _ _ from (unhide HT).b2).at 8 _ rfl
  have p9 := (show Blk _ _ _ _ from (unhide HT).b2).at 9 _ rfl
  have p10 := (show Blk _ _ _ _ from (unhide HT).b2).at 10 _ rfl
  have p11 := (show Blk _ _ _ _ from (unhide HT).b2).at 11 _ rfl
  have p12 := (show Blk _ _ _ _ from (unhide HT).b2).at 12 _ rfl
  have q0 := (show Blk _ _ _ _ from (unhide HT).b3).at 0 _ rfl
  have q1 := (show Blk _ _ _ _ from (unhide HT).b3).at 1 _ rfl
  have q2 := (show Blk _ _ _ _ from (unhide HT).b3).at 2 _ rfl
  have q3 := (show Blk _ _ _ _ from (unhide HT).b3).at 3 _ rfl
  have u0 := (show Blk _ _ _ _ from (unhide HT).b2).fz 0
  have u1 := (show Blk _ _ _ _ from (unhide HT).b2).fz 1
  have u2 := (show Blk _ _ _ _ from (unhide HT).b2).fz 2
  have u3 := (show Blk _ _ _ _ from (unhide HT).b2).fz 3
  have u4 := (show Blk _ _ _ _ from (unhide HT).b2).fz 4
  have u5 := (show Blk _ _ _ _ from (unhide HT).b2).fz 5
  have u6 := (show Blk _ _ _ _ from (unhide HT).b2).fz 6
  have u7 := (show Blk _ _ _ _ from (unhide HT).b2).fz 7
  have u8 := (show Blk _ _ _ _ from (unhide HT).b2).fz 8
  have u9 := (show Blk _ _ _ _ from (unhide HT).b2).fz 9
  have u10 := (show Blk _ _ _ _ from (unhide HT).b2).fz 10
  have u11 := (show Blk _ _ _ _ from (unhide HT).b2).fz 11
  have u12 := (show Blk _ _ _ _ from (unhide HT).b2).fz 12
  have v0 := (show Blk _ _ _ _ from (unhide HT).b3).fz 0
  have v1 := (show Blk _ _ _ _ from (unhide HT).b3).fz 1
  have v2 := (show Blk _ _ _ _ from (unhide HT).b3).fz 2
  have v3 := (show Blk _ _ _ _ from (unhide HT).b3).fz 3
  go_wp2_with fail
  go_region
  clear x0 x1 x2 x3 x4 x5 x6 x7 x8 x9 x10 x11 x12 y0 y1 y2 y3 p0 p1 p2 p3 p4 p5 p6 p7 p8 p9 p10 p11 p12 q0 q1 q2 q3 u0 u1 u2 u3 u4 u5 u6 u7 u8 u9 u10 u11 u12 v0 v1 v2 v3
  have k2 : Blk (putM (putL (w3.alloc (.cells #[.int .i64 0, .int .i64 0, .int .i64 0, .int .i64 0, .int .i64 0, .int .i64 0, .int .i64 0, .int .i64 0, .int .i64 0, .int .i64 0, .int .i64 0, .int .i64 0, .slice none 0 0] 62)) (w.heap.size + 1 + 1) (.int .i64 0) (.int .i64 0) (.int .i64 0) (.int .i64 0) (.int .i64 0) (.int .i64 0) (.int .i64 0) (.int .i64 0) (.int .i64 0) (.int .i64 0) (.int .i64 0) (.int .i64 0) (.slice none 0 0)) (w.heap.size + 1 + 1 + 1) (.int .i64 0) (.int .i64 0) (.int .i64 0) (.int .i64 0)).drew (w.heap.size + 1 + 1) #[.int .i64 0, .int .i64 0, .int .i64 0, .int .i64 0, .int .i64 0, .int .i64 0, .int .i64 0, .int .i64 0, .int .i64 0, .int .i64 0, .int .i64 0, .int .i64 0, .slice none 0 0] 62 := (((show Blk _ _ _ _ from (unhide HT).b2).wrL (.int .i64 0) (.int .i64 0) (.int .i64 0) (.int .i64 0) (.int .i64 0) (.int .i64 0) (.int .i64 0) (.int .i64 0) (.int .i64 0) (.int .i64 0) (.int .i64 0) (.int .i64 0) (.slice none 0 0)).offM (by omega) (.int .i64 0) (.int .i64 0) (.int .i64 0) (.int .i64 0)).drew
  have k3 : Blk (putM (putL (w3.alloc (.cells #[.int .i64 0, .int .i64 0, .int .i64 0, .int .i64 0, .int .i64 0, .int .i64 0, .int .i64 0, .int .i64 0, .int .i64 0, .int .i64 0, .int .i64 0, .int .i64 0, .slice none 0 0] 62)) (w.heap.size + 1 + 1) (.int .i64 0) (.int .i64 0) (.int .i64 0) (.int .i64 0) (.int .i64 0) (.int .i64 0) (.int .i64 0) (.int .i64 0) (.int .i64 0) (.int .i64 0) (.int .i64 0) (.int .i64 0) (.slice none 0 0)) (w.heap.size + 1 + 1 + 1) (.int .i64 0) (.int .i64 0) (.int .i64 0) (.int .i64 0)).drew (w.heap.size + 1 + 1 + 1) #[.int .i64 0, .int .i64 0, .int .i64 0, .int .i64 0] 74 := (((show Blk _ _ _ _ from (unhide HT).b3).offL (by omega) (.int .i64 0) (.int .i64 0) (.int .i64 0) (.int .i64 0) (.int .i64 0) (.int .i64 0) (.int .i64 0) (.int .i64 0) (.int .i64 0) (.int .i64 0) (.int .i64 0) (.int .i64 0) (.slice none 0 0)).wrM (.int .i64 0) (.int .i64 0) (.int .i64 0) (.int .i64 0)).drew
  have k4 : Below w.heap.size w (putM (putL (w3.alloc (.cells #[.int .i64 0, .int .i64 0, .int .i64 0, .int .i64 0, .int .i64 0, .int .i64 0, .int .i64 0, .int .i64 0, .int .i64 0, .int .i64 0, .int .i64 0, .int .i64 0, .slice none 0 0] 62)) (w.heap.size + 1 + 1) (.int .i64 0) (.int .i64 0) (.int .i64 0) (.int .i64 0) (.int .i64 0) (.int .i64 0) (.int .i64 0) (.int .i64 0) (.int .i64 0) (.int .i64 0) (.int .i64 0) (.int .i64 0) (.slice none 0 0)) (w.heap.size + 1 + 1 + 1) (.int .i64 0) (.int .i64 0) (.int .i64 0) (.int .i64 0)).drew := below_drew (below_putM (below_putL (unhide HT).bel (by omega) (.int .i64 0) (.int .i64 0) (.int .i64 0) (.int .i64 0) (.int .i64 0) (.int .i64 0) (.int .i64 0) (.int .i64 0) (.int .i64 0) (.int .i64 0) (.int .i64 0) (.int .i64 0) (.slice none 0 0)) (by omega) (.int .i64 0) (.int .i64 0) (.int .i64 0) (.int .i64 0))
  generalize (putM (putL (w3.alloc (.cells #[.int .i64 0, .int .i64 0, .int .i64 0, .int .i64 0, .int .i64 0, .int .i64 0, .int .i64 0, .int .i64 0, .int .i64 0, .int .i64 0, .int .i64 0, .int .i64 0, .slice none 0 0] 62)) (w.heap.size + 1 + 1) (.int .i64 0) (.int .i64 0) (.int .i64 0) (.int .i64 0) (.int .i64 0) (.int .i64 0) (.int .i64 0) (.int .i64 0) (.int .i64 0) (.int .i64 0) (.int .i64 0) (.int .i64 0) (.slice none 0 0)) (w.heap.size + 1 + 1 + 1) (.int .i64 0) (.int .i64 0) (.int .i64 0) (.int .i64 0)).drew = W at *
  clear HT
  have p0 := k2.at 0 _ rfl
  have p1 := k2.at 1 _ rfl
  have p2 := k2.at 2 _ rfl
  have p3 := k2.at 3 _ rfl
  have p4 := k2.at 4 _ rfl
  have p5 := k2.at 5 _ rfl
  have p6 := k2.at 6 _ rfl
  have p7 := k2.at 7 _ rfl
  have p8 := k2.at 8 _ rfl
  have p9 := k2.at 9 _ rfl
  have p10 := k2.at 10 _ rfl
  have p11 := k2.at 11 _ rfl
  have p12 := k2.at 12 _ rfl
  have q0 := k3.at 0 _ rfl
  have q1 := k3.at 1 _ rfl
  have q2 := k3.at 2 _ rfl
  have q3 := k3.at 3 _ rfl
  go_wp2_with fail
  exact bodyPost_ret (v := .tuple #[.agg #[.int .i64 0, .int .i64 0, .int .i64 0, .int .i64 0, .int .i64 0, .int .i64 0, .int .i64 0, .int .i64 0, .int .i64 0, .int .i64 0, .int .i64 0, .int .i64 0, .slice none 0 0], .agg #[.int .i64 0, .int .i64 0, .int .i64 0, .int .i64 0], .int .i64 e]) (by simp [results, Try.results84, go_sem, p0, p1, p2, p3, p4, p5, p6, p7, p8, p9, p10, p11, p12, q0, q1, q2, q3]) rfl ⟨rfl, k4⟩
set_option maxHeartbeats 8000000 in
theorem take_c (fc fd : Nat) (hfc : ∀ (args : Array Value) (w : World), (_root_.Go.callFunc fc args).run (Tri Try.prog) w = .ok (.enter fc args) w) (hfd : ∀ (args : Array Value) (w : World), (_root_.Go.callFunc fd args).run (Tri Try.prog) w = .ok (.enter fd args) w) (L : Ln) (a : Option Addr) (n c pb : Nat) (w : World) (K : Ln) (a2 : Option Addr) (n2 c2 : Nat) (m0 m1 m2 m3 : Int) (HC : Hid (∀ w1, Below w.heap.size w w1 → Calls (Tri Try.prog) fc #[.agg #[.int .i64 L.id, .int .i64 L.st, .int .i64 L.be, .int .i64 L.out, .int .i64 L.rt, .int .i64 L.gr, .int .i64 L.due, .int .i64 L.inc, .int .i64 L.got, .int .i64 L.adj, .int .i64 L.wri, .int .i64 L.rcv, .slice a n c], .pointer (some ⟨pb, 0, none⟩)] w1 fun z w2 => z = .returned (.int .i64 0) ∧ Below w1.heap.size w1 w2)) (HD : Hid (∀ w1, Below w.heap.size w w1 → Calls (Tri Try.prog) fd #[.agg #[.int .i64 L.id, .int .i64 L.st, .int .i64 L.be, .int .i64 L.out, .int .i64 L.rt, .int .i64 L.gr, .int .i64 L.due, .int .i64 L.inc, .int .i64 L.got, .int .i64 L.adj, .int .i64 L.wri, .int .i64 L.rcv, .slice a n c], .pointer (some ⟨pb, 0, none⟩)] w1 fun z w2 => z = .returned (.tuple #[.agg #[.int .i64 K.id, .int .i64 K.st, .int .i64 K.be, .int .i64 K.out, .int .i64 K.rt, .int .i64 K.gr, .int .i64 K.due, .int .i64 K.inc, .int .i64 K.got, .int .i64 K.adj, .int .i64 K.wri, .int .i64 K.rcv, .slice a2 n2 c2], .agg #[.int .i64 m0, .int .i64 m1, .int .i64 m2, .int .i64 m3]]) ∧ Below w1.heap.size w1 w2)) (n3 : Nat) (l3 : List Int) (HE : Hid (∀ w1, Below w.heap.size w w1 → Calls (Tri Try.prog) 83 #[.agg #[.int .i64 K.id, .int .i64 K.st, .int .i64 K.be, .int .i64 K.out, .int .i64 K.rt, .int .i64 K.gr, .int .i64 K.due, .int .i64 K.inc, .int .i64 K.got, .int .i64 K.adj, .int .i64 K.wri, .int .i64 K.rcv, .slice a2 n2 c2]] w1 fun z w2 => ∃ a3 c3, z = .returned (.tuple #[.agg #[.int .i64 K.id, .int .i64 K.st, .int .i64 K.be, .int .i64 K.out, .int .i64 K.rt, .int .i64 K.gr, .int .i64 K.due, .int .i64 K.inc, .int .i64 K.got, .int .i64 K.adj, .int .i64 K.wri, .int .i64 K.rcv, .slice a3 n3 c3], .int .i64 0]) ∧ Row w2 (.slice a3 n3 c3) l3 ∧ (∀ x, a3 = some x → w1.heap.size ≤ x.block) ∧ Below w1.heap.size w1 w2)) : Calls (Tri Try.prog) 84 #[.agg #[.func (.func fc) #[] #[.pointer (some ⟨pb, 0, none⟩)], .func (.func fd) #[] #[.pointer (some ⟨pb, 0, none⟩)], .func (.func 83) #[] #[]], .agg #[.int .i64 L.id, .int .i64 L.st, .int .i64 L.be, .int .i64 L.out, .int .i64 L.rt, .int .i64 L.gr, .int .i64 L.due, .int .i64 L.inc, .int .i64 L.got, .int .i64 L.adj, .int .i64 L.wri, .int .i64 L.rcv, .slice a n c]] w fun z w2 => ∃ a3 c3, z = .returned (.tuple #[.agg #[.int .i64 K.id, .int .i64 K.st, .int .i64 K.be, .int .i64 K.out, .int .i64 K.rt, .int .i64 K.gr, .int .i64 K.due, .int .i64 K.inc, .int .i64 K.got, .int .i64 K.adj, .int .i64 K.wri, .int .i64 K.rcv, .slice a3 n3 c3], .agg #[.int .i64 m0, .int .i64 m1, .int .i64 m2, .int .i64 m3], .int .i64 0]) ∧ Row w2 (.slice a3 n3 c3) l3 ∧ (∀ x, a3 = some x → w.heap.size ≤ x.block) ∧ Below w.heap.size w w2 := by
  have HT := hide (TK.new w #[.func (.func fc) #[] #[.pointer (some ⟨pb, 0, none⟩)], .func (.func fd) #[] #[.pointer (some ⟨pb, 0, none⟩)], .func (.func 83) #[] #[]] #[.int .i64 L.id, .int .i64 L.st, .int .i64 L.be, .int .i64 L.out, .int .i64 L.rt, .int .i64 L.gr, .int .i64 L.due, .int .i64 L.inc, .int .i64 L.got, .int .i64 L.adj, .int .i64 L.wri, .int .i64 L.rcv, .slice a n c])
  go_enter (Tri.at (by decide) Try.func84), Try.ntmps84
  go_wp2_with fail
  refine (unhide HC _ (unhide HT).bel).mono ?_
  rintro z w1 ⟨rfl, hb⟩
  replace HT := hide ((unhide HT).keep hb)
  clear hb HC
  have t0 : ((0 : Int) != 0) = false := rfl
  have x0 := (show Blk _ _ _ _ from (unhide HT).b0).at 0 _ rfl
  have x1 := (show Blk _ _ _ _ from (unhide HT).b0).at 1 _ rfl
  have x2 := (show Blk _ _ _ _ from (unhide HT).b0).at 2 _ rfl
  have y0 := (show Blk _ _ _ _ from (unhide HT).b1).at 0 _ rfl
  have y1 := (show Blk _ _ _ _ from (unhide HT).b1).at 1 _ rfl
  have y2 := (show Blk _ _ _ _ from (unhide HT).b1).at 2 _ rfl
  have y3 := (show Blk _ _ _ _ from (unhide HT).b1).at 3 _ rfl
  have y4 := (show Blk _ _ _ _ from (unhide HT).b1).at 4 _ rfl
  have y5 := (show Blk _ _ _ _ from (unhide HT).b1).at 5 _ rfl
  have y6 := (show Blk _ _ _ _ from (unhide HT).b1).at 6 _ rfl
  have y7 := (show Blk _ _ _ _ from (unhide HT).b1).at 7 _ rfl
  have y8 := (show Blk _ _ _ _ from (unhide HT).b1).at 8 _ rfl
  have y9 := (show Blk _ _ _ _ from (unhide HT).b1).at 9 _ rfl
  have y10 := (show Blk _ _ _ _ from (unhide HT).b1).at 10 _ rfl
  have y11 := (show Blk _ _ _ _ from (unhide HT).b1).at 11 _ rfl
  have y12 := (show Blk _ _ _ _ from (unhide HT).b1).at 12 _ rfl
  go_wp2_with fail
  refine (unhide HD _ (unhide HT).bel).mono ?_
  rintro z w2 ⟨rfl, hb⟩
  replace HT := hide ((unhide HT).keep hb)
  clear hb HD
  clear x0 x1 x2 y0 y1 y2 y3 y4 y5 y6 y7 y8 y9 y10 y11 y12
  have sz : w.heap.size + 1 + 1 + 1 + 1 + 1 < w2.heap.size := (show Blk _ _ _ _ from (unhide HT).b5).lt
  replace HT : Hid (TK w ((w2.alloc (.cells #[.int .i64 K.id, .int .i64 K.st, .int .i64 K.be, .int .i64 K.out, .int .i64 K.rt, .int .i64 K.gr, .int .i64 K.due, .int .i64 K.inc, .int .i64 K.got, .int .i64 K.adj, .int .i64 K.wri, .int .i64 K.rcv, .slice a2 n2 c2] 62)).alloc (.cells #[.int .i64 m0, .int .i64 m1, .int .i64 m2, .int .i64 m3] 74)) #[.func (.func fc) #[] #[.pointer (some ⟨pb, 0, none⟩)], .func (.func fd) #[] #[.pointer (some ⟨pb, 0, none⟩)], .func (.func 83) #[] #[]] #[.int .i64 L.id, .int .i64 L.st, .int .i64 L.be, .int .i64 L.out, .int .i64 L.rt, .int .i64 L.gr, .int .i64 L.due, .int .i64 L.inc, .int .i64 L.got, .int .i64 L.adj, .int .i64 L.wri, .int .i64 L.rcv, .slice a n c]) := hide ((unhide HT).keep ((below1L w2 _).alloc (by simp) _))
  have HM : Hid (Blk ((w2.alloc (.cells #[.int .i64 K.id, .int .i64 K.st, .int .i64 K.be, .int .i64 K.out, .int .i64 K.rt, .int .i64 K.gr, .int .i64 K.due, .int .i64 K.inc, .int .i64 K.got, .int .i64 K.adj, .int .i64 K.wri, .int .i64 K.rcv, .slice a2 n2 c2] 62)).alloc (.cells #[.int .i64 m0, .int .i64 m1, .int .i64 m2, .int .i64 m3] 74)) (w2.heap.size + 1) #[.int .i64 m0, .int .i64 m1, .int .i64 m2, .int .i64 m3] 74) := hide (by have h := Blk.new (w2.alloc (.cells #[.int .i64 K.id, .int .i64 K.st, .int .i64 K.be, .int .i64 K.out, .int .i64 K.rt, .int .i64 K.gr, .int .i64 K.due, .int .i64 K.inc, .int .i64 K.got, .int .i64 K.adj, .int .i64 K.wri, .int .i64 K.rcv, .slice a2 n2 c2] 62)) #[.int .i64 m0, .int .i64 m1, .int .i64 m2, .int .i64 m3] 74; simpa using h)
  have x0 := (show Blk _ _ _ _ from (unhide HT).b0).at 0 _ rfl
  have x1 := (show Blk _ _ _ _ from (unhide HT).b0).at 1 _ rfl
  have x2 := (show Blk _ _ _ _ from (unhide HT).b0).at 2 _ rfl
  go_wp2_with fail
  refine (unhide HE _ (unhide HT).bel).mono ?_
  rintro z w3 ⟨a3, c3, rfl, hR, hfr, hb⟩
  have HR := hide hR
  have HF : Hid (∀ x, a3 = some x → w2.heap.size + 1 + 1 ≤ x.block) := hide (by simpa using hfr)
  clear hR hfr
  have sz3 : w2.heap.size + 1 < w3.heap.size := ((unhide HM).keep hb).lt
  replace HT : Hid (TK w (w3.alloc (.cells #[.int .i64 K.id, .int .i64 K.st, .int .i64 K.be, .int .i64 K.out, .int .i64 K.rt, .int .i64 K.gr, .int .i64 K.due, .int .i64 K.inc, .int .i64 K.got, .int .i64 K.adj, .int .i64 K.wri, .int .i64 K.rcv, .slice a3 n3 c3] 62)) #[.func (.func fc) #[] #[.pointer (some ⟨pb, 0, none⟩)], .func (.func fd) #[] #[.pointer (some ⟨pb, 0, none⟩)], .func (.func 83) #[] #[]] #[.int .i64 L.id, .int .i64 L.st, .int .i64 L.be, .int .i64 L.out, .int .i64 L.rt, .int .i64 L.gr, .int .i64 L.due, .int .i64 L.inc, .int .i64 L.got, .int .i64 L.adj, .int .i64 L.wri, .int .i64 L.rcv, .slice a n c]) := hide (((unhide HT).keep hb).keep (below1L w3 _))
  replace HM : Hid (Blk (w3.alloc (.cells #[.int .i64 K.id, .int .i64 K.st, .int .i64 K.be, .int .i64 K.out, .int .i64 K.rt, .int .i64 K.gr, .int .i64 K.due, .int .i64 K.inc, .int .i64 K.got, .int .i64 K.adj, .int .i64 K.wri, .int .i64 K.rcv, .slice a3 n3 c3] 62)) (w2.heap.size + 1) #[.int .i64 m0, .int .i64 m1, .int .i64 m2, .int .i64 m3] 74) := hide (((unhide HM).keep hb).alloc _)
  clear hb HE x0 x1 x2
  have y0 := (show Blk _ _ _ _ from unhide HM).at 0 _ rfl
  have y1 := (show Blk _ _ _ _ from unhide HM).at 1 _ rfl
  have y2 := (show Blk _ _ _ _ from unhide HM).at 2 _ rfl
  have y3 := (show Blk _ _ _ _ from unhide HM).at 3 _ rfl
  have p0 := (show Blk _ _ _ _ from (unhide HT).b2).at 0 _ rfl
  have p1 := (show Blk _ _ _ _ from (unhide HT).b2).at 1 _ rfl
  have p2 := (show Blk _ _ _ _ from (unhide HT).b2).at 2 _ rfl
  have p3 := (show Blk _ _ _ _ from (unhide HT).b2).at 3 _ rfl
  have p4 := (show Blk _ _ _ _ from (unhide HT).b2).at 4 _ rfl
  have p5 := (show Blk _ _ _ _ from (unhide HT).b2).at 5 _ rfl
  have p6 := (show Blk _ _ _ _ from (unhide HT).b2).at 6 _ rfl
  have p7 := (show Blk _ _ _ _ from (unhide HT).b2).at 7 _ rfl
  have p8 := (show Blk _ _ _ _ from (unhide HT).b2).at 8 _ rfl
  have p9 := (show Blk _ _ _ _ from (unhide HT).b2).at 9 _ rfl
  have p10 := (show Blk _ _ _ _ from (unhide HT).b2).at 10 _ rfl
  have p11 := (show Blk _ _ _ _ from (unhide HT).b2).at 11 _ rfl
  have p12 := (show Blk _ _ _ _ from (unhide HT).b2).at 12 _ rfl
  have q0 := (show Blk _ _ _ _ from (unhide HT).b3).at 0 _ rfl
  have q1 := (show Blk _ _ _ _ from (unhide HT).b3).at 1 _ rfl
  have q2 := (show Blk _ _ _ _ from (unhide HT).b3).at 2 _ rfl
  have q3 := (show Blk _ _ _ _ from (unhide HT).b3).at 3 _ rfl
  have u0 := (show Blk _ _ _ _ from (unhide HT).b2).fz 0
  have u1 := (show Blk _ _ _ _ from (unhide HT).b2).fz 1
  have u2 := (show Blk _ _ _ _ from (unhide HT).b2).fz 2
  have u3 := (show Blk _ _ _ _ from (unhide HT).b2).fz 3
  have u4 := (show Blk _ _ _ _ from (unhide HT).b2).fz 4
  have u5 := (show Blk _ _ _ _ from (unhide HT).b2).fz 5
  have u6 := (show Blk _ _ _ _ from (unhide HT).b2).fz 6
  have u7 := (show Blk _ _ _ _ from (unhide HT).b2).fz 7
  have u8 := (show Blk _ _ _ _ from (unhide HT).b2).fz 8
  have u9 := (show Blk _ _ _ _ from (unhide HT).b2).fz 9
  have u10 := (show Blk _ _ _ _ from (unhide HT).b2).fz 10
  have u11 := (show Blk _ _ _ _ from (unhide HT).b2).fz 11
  have u12 := (show Blk _ _ _ _ from (unhide HT).b2).fz 12
  have v0 := (show Blk _ _ _ _ from (unhide HT).b3).fz 0
  have v1 := (show Blk _ _ _ _ from (unhide HT).b3).fz 1
  have v2 := (show Blk _ _ _ _ from (unhide HT).b3).fz 2
  have v3 := (show Blk _ _ _ _ from (unhide HT).b3).fz 3
  go_wp2_with fail
  go_region
  clear y0 y1 y2 y3 p0 p1 p2 p3 p4 p5 p6 p7 p8 p9 p10 p11 p12 q0 q1 q2 q3 u0 u1 u2 u3 u4 u5 u6 u7 u8 u9 u10 u11 u12 v0 v1 v2 v3
  have k2 : Blk (putM (putL (w3.alloc (.cells #[.int .i64 K.id, .int .i64 K.st, .int .i64 K.be, .int .i64 K.out, .int .i64 K.rt, .int .i64 K.gr, .int .i64 K.due, .int .i64 K.inc, .int .i64 K.got, .int .i64 K.adj, .int .i64 K.wri, .int .i64 K.rcv, .slice a3 n3 c3] 62)) (w.heap.size + 1 + 1) (.int .i64 K.id) (.int .i64 K.st) (.int .i64 K.be) (.int .i64 K.out) (.int .i64 K.rt) (.int .i64 K.gr) (.int .i64 K.due) (.int .i64 K.inc) (.int .i64 K.got) (.int .i64 K.adj) (.int .i64 K.wri) (.int .i64 K.rcv) (.slice a3 n3 c3)) (w.heap.size + 1 + 1 + 1) (.int .i64 m0) (.int .i64 m1) (.int .i64 m2) (.int .i64 m3)).drew (w.heap.size + 1 + 1) #[.int .i64 K.id, .int .i64 K.st, .int .i64 K.be, .int .i64 K.out, .int .i64 K.rt, .int .i64 K.gr, .int .i64 K.due, .int .i64 K.inc, .int .i64 K.got, .int .i64 K.adj, .int .i64 K.wri, .int .i64 K.rcv, .slice a3 n3 c3] 62 := (((show Blk _ _ _ _ from (unhide HT).b2).wrL (.int .i64 K.id) (.int .i64 K.st) (.int .i64 K.be) (.int .i64 K.out) (.int .i64 K.rt) (.int .i64 K.gr) (.int .i64 K.due) (.int .i64 K.inc) (.int .i64 K.got) (.int .i64 K.adj) (.int .i64 K.wri) (.int .i64 K.rcv) (.slice a3 n3 c3)).offM (by omega) (.int .i64 m0) (.int .i64 m1) (.int .i64 m2) (.int .i64 m3)).drew
  have k3 : Blk (putM (putL (w3.alloc (.cells #[.int .i64 K.id, .int .i64 K.st, .int .i64 K.be, .int .i64 K.out, .int .i64 K.rt, .int .i64 K.gr, .int .i64 K.due, .int .i64 K.inc, .int .i64 K.got, .int .i64 K.adj, .int .i64 K.wri, .int .i64 K.rcv, .slice a3 n3 c3] 62)) (w.heap.size + 1 + 1) (.int .i64 K.id) (.int .i64 K.st) (.int .i64 K.be) (.int .i64 K.out) (.int .i64 K.rt) (.int .i64 K.gr) (.int .i64 K.due) (.int .i64 K.inc) (.int .i64 K.got) (.int .i64 K.adj) (.int .i64 K.wri) (.int .i64 K.rcv) (.slice a3 n3 c3)) (w.heap.size + 1 + 1 + 1) (.int .i64 m0) (.int .i64 m1) (.int .i64 m2) (.int .i64 m3)).drew (w.heap.size + 1 + 1 + 1) #[.int .i64 m0, .int .i64 m1, .int .i64 m2, .int .i64 m3] 74 := (((show Blk _ _ _ _ from (unhide HT).b3).offL (by omega) (.int .i64 K.id) (.int .i64 K.st) (.int .i64 K.be) (.int .i64 K.out) (.int .i64 K.rt) (.int .i64 K.gr) (.int .i64 K.due) (.int .i64 K.inc) (.int .i64 K.got) (.int .i64 K.adj) (.int .i64 K.wri) (.int .i64 K.rcv) (.slice a3 n3 c3)).wrM (.int .i64 m0) (.int .i64 m1) (.int .i64 m2) (.int .i64 m3)).drew
  have k4 : Below w.heap.size w (putM (putL (w3.alloc (.cells #[.int .i64 K.id, .int .i64 K.st, .int .i64 K.be, .int .i64 K.out, .int .i64 K.rt, .int .i64 K.gr, .int .i64 K.due, .int .i64 K.inc, .int .i64 K.got, .int .i64 K.adj, .int .i64 K.wri, .int .i64 K.rcv, .slice a3 n3 c3] 62)) (w.heap.size + 1 + 1) (.int .i64 K.id) (.int .i64 K.st) (.int .i64 K.be) (.int .i64 K.out) (.int .i64 K.rt) (.int .i64 K.gr) (.int .i64 K.due) (.int .i64 K.inc) (.int .i64 K.got) (.int .i64 K.adj) (.int .i64 K.wri) (.int .i64 K.rcv) (.slice a3 n3 c3)) (w.heap.size + 1 + 1 + 1) (.int .i64 m0) (.int .i64 m1) (.int .i64 m2) (.int .i64 m3)).drew := below_drew (below_putM (below_putL (unhide HT).bel (by omega) (.int .i64 K.id) (.int .i64 K.st) (.int .i64 K.be) (.int .i64 K.out) (.int .i64 K.rt) (.int .i64 K.gr) (.int .i64 K.due) (.int .i64 K.inc) (.int .i64 K.got) (.int .i64 K.adj) (.int .i64 K.wri) (.int .i64 K.rcv) (.slice a3 n3 c3)) (by omega) (.int .i64 m0) (.int .i64 m1) (.int .i64 m2) (.int .i64 m3))
  have r1 : Row (putL (w3.alloc (.cells #[.int .i64 K.id, .int .i64 K.st, .int .i64 K.be, .int .i64 K.out, .int .i64 K.rt, .int .i64 K.gr, .int .i64 K.due, .int .i64 K.inc, .int .i64 K.got, .int .i64 K.adj, .int .i64 K.wri, .int .i64 K.rcv, .slice a3 n3 c3] 62)) (w.heap.size + 1 + 1) (.int .i64 K.id) (.int .i64 K.st) (.int .i64 K.be) (.int .i64 K.out) (.int .i64 K.rt) (.int .i64 K.gr) (.int .i64 K.due) (.int .i64 K.inc) (.int .i64 K.got) (.int .i64 K.adj) (.int .i64 K.wri) (.int .i64 K.rcv) (.slice a3 n3 c3)) (.slice a3 n3 c3) l3 := Row.offL ((unhide HR).alloc _) (fun x hx => by have := unhide HF x hx; omega) (.int .i64 K.id) (.int .i64 K.st) (.int .i64 K.be) (.int .i64 K.out) (.int .i64 K.rt) (.int .i64 K.gr) (.int .i64 K.due) (.int .i64 K.inc) (.int .i64 K.got) (.int .i64 K.adj) (.int .i64 K.wri) (.int .i64 K.rcv) (.slice a3 n3 c3)
  have r2 : Row (putM (putL (w3.alloc (.cells #[.int .i64 K.id, .int .i64 K.st, .int .i64 K.be, .int .i64 K.out, .int .i64 K.rt, .int .i64 K.gr, .int .i64 K.due, .int .i64 K.inc, .int .i64 K.got, .int .i64 K.adj, .int .i64 K.wri, .int .i64 K.rcv, .slice a3 n3 c3] 62)) (w.heap.size + 1 + 1) (.int .i64 K.id) (.int .i64 K.st) (.int .i64 K.be) (.int .i64 K.out) (.int .i64 K.rt) (.int .i64 K.gr) (.int .i64 K.due) (.int .i64 K.inc) (.int .i64 K.got) (.int .i64 K.adj) (.int .i64 K.wri) (.int .i64 K.rcv) (.slice a3 n3 c3)) (w.heap.size + 1 + 1 + 1) (.int .i64 m0) (.int .i64 m1) (.int .i64 m2) (.int .i64 m3)) (.slice a3 n3 c3) l3 := Row.offM r1 (fun x hx => by have := unhide HF x hx; omega) (.int .i64 m0) (.int .i64 m1) (.int .i64 m2) (.int .i64 m3)
  have k5 : Row (putM (putL (w3.alloc (.cells #[.int .i64 K.id, .int .i64 K.st, .int .i64 K.be, .int .i64 K.out, .int .i64 K.rt, .int .i64 K.gr, .int .i64 K.due, .int .i64 K.inc, .int .i64 K.got, .int .i64 K.adj, .int .i64 K.wri, .int .i64 K.rcv, .slice a3 n3 c3] 62)) (w.heap.size + 1 + 1) (.int .i64 K.id) (.int .i64 K.st) (.int .i64 K.be) (.int .i64 K.out) (.int .i64 K.rt) (.int .i64 K.gr) (.int .i64 K.due) (.int .i64 K.inc) (.int .i64 K.got) (.int .i64 K.adj) (.int .i64 K.wri) (.int .i64 K.rcv) (.slice a3 n3 c3)) (w.heap.size + 1 + 1 + 1) (.int .i64 m0) (.int .i64 m1) (.int .i64 m2) (.int .i64 m3)).drew (.slice a3 n3 c3) l3 := Row.drew r2
  clear r1 r2
  have k6 : ∀ x, a3 = some x → w.heap.size ≤ x.block := fun x hx => by have := unhide HF x hx; omega
  clear HR HF
  generalize (putM (putL (w3.alloc (.cells #[.int .i64 K.id, .int .i64 K.st, .int .i64 K.be, .int .i64 K.out, .int .i64 K.rt, .int .i64 K.gr, .int .i64 K.due, .int .i64 K.inc, .int .i64 K.got, .int .i64 K.adj, .int .i64 K.wri, .int .i64 K.rcv, .slice a3 n3 c3] 62)) (w.heap.size + 1 + 1) (.int .i64 K.id) (.int .i64 K.st) (.int .i64 K.be) (.int .i64 K.out) (.int .i64 K.rt) (.int .i64 K.gr) (.int .i64 K.due) (.int .i64 K.inc) (.int .i64 K.got) (.int .i64 K.adj) (.int .i64 K.wri) (.int .i64 K.rcv) (.slice a3 n3 c3)) (w.heap.size + 1 + 1 + 1) (.int .i64 m0) (.int .i64 m1) (.int .i64 m2) (.int .i64 m3)).drew = W at *
  clear HT
  have p0 := k2.at 0 _ rfl
  have p1 := k2.at 1 _ rfl
  have p2 := k2.at 2 _ rfl
  have p3 := k2.at 3 _ rfl
  have p4 := k2.at 4 _ rfl
  have p5 := k2.at 5 _ rfl
  have p6 := k2.at 6 _ rfl
  have p7 := k2.at 7 _ rfl
  have p8 := k2.at 8 _ rfl
  have p9 := k2.at 9 _ rfl
  have p10 := k2.at 10 _ rfl
  have p11 := k2.at 11 _ rfl
  have p12 := k2.at 12 _ rfl
  have q0 := k3.at 0 _ rfl
  have q1 := k3.at 1 _ rfl
  have q2 := k3.at 2 _ rfl
  have q3 := k3.at 3 _ rfl
  go_wp2_with fail
  exact bodyPost_ret (v := .tuple #[.agg #[.int .i64 K.id, .int .i64 K.st, .int .i64 K.be, .int .i64 K.out, .int .i64 K.rt, .int .i64 K.gr, .int .i64 K.due, .int .i64 K.inc, .int .i64 K.got, .int .i64 K.adj, .int .i64 K.wri, .int .i64 K.rcv, .slice a3 n3 c3], .agg #[.int .i64 m0, .int .i64 m1, .int .i64 m2, .int .i64 m3], .int .i64 0]) (by simp [results, Try.results84, go_sem, p0, p1, p2, p3, p4, p5, p6, p7, p8, p9, p10, p11, p12, q0, q1, q2, q3]) rfl ⟨a3, c3, rfl, k5, k6, k4⟩
end Go.Proofs.Ytlaaomhcilnbkaa.Mn
