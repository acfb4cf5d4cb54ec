/- WideReckons: what its walk holds. -/
import Derived.Test.YtaknjpddjofgeaaAlive
import Derived.Test.YtaknjpddjofgeaaRBack
import Derived.Deep.RegionHeld
import Derived.Deep.RegionHeld3
namespace Go.Proofs.Ytaknjpddjofgeaa.wideReckons
open Go.RowKit
set_option linter.unusedSimpArgs false
/-- Block b holds these two halves, of wide's Int. -/
def R24 (w : World) (b : Nat) (x y : Int) : Prop := w.heap[b]? = some (.cells #[.int .i64 x, .int .u64 y] 24 (0, 0))
theorem R24.c0 {w : World} {b : Nat} {x y : Int} (h : R24 w b x y) : w.cell? ⟨b, 0, none⟩ = some (.int .i64 x) := by rw [cell_of_row w b 0 _ _ _ h]; rfl
theorem R24.c1 {w : World} {b : Nat} {x y : Int} (h : R24 w b x y) : w.cell? ⟨b, 1, none⟩ = some (.int .u64 y) := by rw [cell_of_row w b 1 _ _ _ h]; rfl
theorem R24.fr {w : World} {b : Nat} {x y : Int} (h : R24 w b x y) (i : Nat) : w.frozen? ⟨b, i, none⟩ = false := frozen_of_row w b i _ _ h
theorem R24.lt {w : World} {b : Nat} {x y : Int} (h : R24 w b x y) : b < w.heap.size := (Array.getElem?_eq_some_iff.1 h).1
theorem R24.s0 {w : World} {b : Nat} {x y : Int} (h : R24 w b x y) (u : Int) : R24 (w.setCell ⟨b, 0, none⟩ (.int .i64 u)) b u y := by unfold R24; rw [Go.heap_setCell_same w b 0 _ _ _ h]; rfl
theorem R24.s1 {w : World} {b : Nat} {x y : Int} (h : R24 w b x y) (u : Int) : R24 (w.setCell ⟨b, 1, none⟩ (.int .u64 u)) b x u := by unfold R24; rw [Go.heap_setCell_same w b 1 _ _ _ h]; rfl
theorem R24.other {w : World} {b : Nat} {x y : Int} (h : R24 w b x y) {a : Addr} (ha : b ≠ a.block) (v : Value) : R24 (w.setCell a v) b x y := (heap_setCell_other w a b v ha).trans h
theorem R24.alloc {w : World} {b : Nat} {x y : Int} (h : R24 w b x y) (o : Obj) : R24 (w.alloc o) b x y := (Below.heap_alloc w o b h.lt).trans h
theorem R24.keep {w w' : World} {B b : Nat} {x y : Int} (h : R24 w b x y) (hb : Below B w w') (hB : b < B) : R24 w' b x y := (hb.block b hB).trans h
theorem R24.new (w : World) (x y : Int) : R24 (w.alloc (.cells #[.int .i64 x, .int .u64 y] 24)) w.heap.size x y := heap_alloc_new w _
theorem two24 (w : World) (p q r s : Int) : R24 ((w.alloc (.cells #[.int .i64 p, .int .u64 q] 24)).alloc (.cells #[.int .i64 r, .int .u64 s] 24)) w.heap.size p q ∧ R24 ((w.alloc (.cells #[.int .i64 p, .int .u64 q] 24)).alloc (.cells #[.int .i64 r, .int .u64 s] 24)) (w.heap.size + 1) r s ∧ Below w.heap.size w ((w.alloc (.cells #[.int .i64 p, .int .u64 q] 24)).alloc (.cells #[.int .i64 r, .int .u64 s] 24)) := by
  have b := R24.new (w.alloc (.cells #[.int .i64 p, .int .u64 q] 24)) r s
  rw [show (w.alloc (.cells #[.int .i64 p, .int .u64 q] 24)).heap.size = w.heap.size + 1 by simp] at b
  exact ⟨(R24.new w p q).alloc (.cells #[.int .i64 r, .int .u64 s] 24), b, ((Below.refl w.heap.size w).alloc (Nat.le_refl _) _).alloc (by simp) _⟩
structure LS (w W : World) (a3 a4 a7 a8 : Nat) (p q r s : Int) : Prop where
  ra : R24 W a3 p q
  rb : R24 W a4 r s
  rp : R28 W a7 p q
  rq : R28 W a8 r s
  below : Below w.heap.size w W
theorem LS.keep {w W w2 : World} {a3 a4 a7 a8 : Nat} {p q r s : Int} (t : LS w W a3 a4 a7 a8 p q r s) (hb : Below W.heap.size W w2) : LS w w2 a3 a4 a7 a8 p q r s :=
  ⟨t.ra.keep hb t.ra.lt, t.rb.keep hb t.rb.lt, t.rp.keep hb t.rp.lt, t.rq.keep hb t.rq.lt, below_via t.below hb⟩
theorem LS.alloc {w W : World} {a3 a4 a7 a8 : Nat} {p q r s : Int} (t : LS w W a3 a4 a7 a8 p q r s) (o : Obj) : LS w (W.alloc o) a3 a4 a7 a8 p q r s := t.keep ((Below.refl _ _).alloc (Nat.le_refl _) o)
structure L9 (w W : World) (a3 a4 a7 a8 a9 a11 a13 a15 : Nat) (p q r s u1 u2 v1 v2 : Int) : Prop where
  l : LS w W a3 a4 a7 a8 p q r s
  r9 : R24 W a9 u1 u2
  r11 : R28 W a11 u1 u2
  r13 : R24 W a13 v1 v2
  r15 : R28 W a15 v1 v2
theorem L9.keep {w W w2 : World} {a3 a4 a7 a8 a9 a11 a13 a15 : Nat} {p q r s u1 u2 v1 v2 : Int} (t : L9 w W a3 a4 a7 a8 a9 a11 a13 a15 p q r s u1 u2 v1 v2) (hb : Below W.heap.size W w2) : L9 w w2 a3 a4 a7 a8 a9 a11 a13 a15 p q r s u1 u2 v1 v2 :=
  ⟨t.l.keep hb, t.r9.keep hb t.r9.lt, t.r11.keep hb t.r11.lt, t.r13.keep hb t.r13.lt, t.r15.keep hb t.r15.lt⟩
def I9 (w : World) (a3 a4 a7 a8 a9 a11 a13 a15 : Nat) (p q r s u1 u2 v1 v2 : Int) (W : World) : Prop := W.cell? ⟨a3, 0, none⟩ = some (.int .i64 p) ∧ W.cell? ⟨a3, 1, none⟩ = some (.int .u64 q) ∧ W.cell? ⟨a4, 0, none⟩ = some (.int .i64 r) ∧ W.cell? ⟨a4, 1, none⟩ = some (.int .u64 s) ∧ W.cell? ⟨a7, 0, none⟩ = some (.int .i64 p) ∧ W.cell? ⟨a7, 1, none⟩ = some (.int .u64 q) ∧ W.cell? ⟨a8, 0, none⟩ = some (.int .i64 r) ∧ W.cell? ⟨a8, 1, none⟩ = some (.int .u64 s) ∧ W.cell? ⟨a9, 0, none⟩ = some (.int .i64 u1) ∧ W.cell? ⟨a9, 1, none⟩ = some (.int .u64 u2) ∧ W.cell? ⟨a11, 0, none⟩ = some (.int .i64 u1) ∧ W.cell? ⟨a11, 1, none⟩ = some (.int .u64 u2) ∧ W.cell? ⟨a13, 0, none⟩ = some (.int .i64 v1) ∧ W.cell? ⟨a13, 1, none⟩ = some (.int .u64 v2) ∧ W.cell? ⟨a15, 0, none⟩ = some (.int .i64 v1) ∧ W.cell? ⟨a15, 1, none⟩ = some (.int .u64 v2) ∧ Hid (L9 w W a3 a4 a7 a8 a9 a11 a13 a15 p q r s u1 u2 v1 v2)
theorem I9.of {w W : World} {a3 a4 a7 a8 a9 a11 a13 a15 : Nat} {p q r s u1 u2 v1 v2 : Int} (t : L9 w W a3 a4 a7 a8 a9 a11 a13 a15 p q r s u1 u2 v1 v2) : I9 w a3 a4 a7 a8 a9 a11 a13 a15 p q r s u1 u2 v1 v2 W :=
  ⟨t.l.ra.c0, t.l.ra.c1, t.l.rb.c0, t.l.rb.c1, t.l.rp.c0, t.l.rp.c1, t.l.rq.c0, t.l.rq.c1, t.r9.c0, t.r9.c1, t.r11.c0, t.r11.c1, t.r13.c0, t.r13.c1, t.r15.c0, t.r15.c1, hide t⟩
theorem I9.get {w W : World} {a3 a4 a7 a8 a9 a11 a13 a15 : Nat} {p q r s u1 u2 v1 v2 : Int} (t : I9 w a3 a4 a7 a8 a9 a11 a13 a15 p q r s u1 u2 v1 v2 W) : L9 w W a3 a4 a7 a8 a9 a11 a13 a15 p q r s u1 u2 v1 v2 := unhide t.2.2.2.2.2.2.2.2.2.2.2.2.2.2.2.2
theorem I9.keep {w W V : World} {a3 a4 a7 a8 a9 a11 a13 a15 : Nat} {p q r s u1 u2 v1 v2 : Int} (t : I9 w a3 a4 a7 a8 a9 a11 a13 a15 p q r s u1 u2 v1 v2 W) (hb : Below W.heap.size W V) : I9 w a3 a4 a7 a8 a9 a11 a13 a15 p q r s u1 u2 v1 v2 V := .of (t.get.keep hb)
theorem I9.drew {w W : World} {a3 a4 a7 a8 a9 a11 a13 a15 : Nat} {p q r s u1 u2 v1 v2 : Int} (t : I9 w a3 a4 a7 a8 a9 a11 a13 a15 p q r s u1 u2 v1 v2 W) : I9 w a3 a4 a7 a8 a9 a11 a13 a15 p q r s u1 u2 v1 v2 W.drew := t.keep (below_drew (Below.refl _ _))
/-- Both numbers, and nothing old has turned. -/
structure LB (w W : World) (a3 a4 : Nat) (p q r s : Int) : Prop where
  ra : R24 W a3 p q
  rb : R24 W a4 r s
  below : Below w.heap.size w W
theorem LB.keep {w W w2 : World} {a3 a4 : Nat} {p q r s : Int} (t : LB w W a3 a4 p q r s) (hb : Below W.heap.size W w2) : LB w w2 a3 a4 p q r s := ⟨t.ra.keep hb t.ra.lt, t.rb.keep hb t.rb.lt, below_via t.below hb⟩
theorem LB.set {w W : World} {a3 a4 : Nat} {p q r s : Int} (t : LB w W a3 a4 p q r s) {a : Addr} (h3 : a3 ≠ a.block) (h4 : a4 ≠ a.block) (hw : w.heap.size ≤ a.block) (v : Value) : LB w (W.setCell a v) a3 a4 p q r s := ⟨t.ra.other h3 v, t.rb.other h4 v, t.below.setCell hw v⟩
def Good (p q r s x y : Int) (w : World) : Prop := Calls Try.prog 3 #[.agg #[.int .i64 p, .int .u64 q, .int .i64 r, .int .u64 s, .int .i64 x, .int .i64 y]] w fun e w' => e = .returned (.bool true) ∧ Below w.heap.size w w'
end Go.Proofs.Ytaknjpddjofgeaa.wideReckons
