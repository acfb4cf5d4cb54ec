/- What Step, Pay, Write and Recover ask, and what Pay does. -/
import Derived.Test.YtlaaomhcilnbkaaZLSw
set_option linter.unusedVariables false
set_option linter.unusedSimpArgs false
set_option linter.unusedSectionVars false
namespace Go.Proofs.Ytlaaomhcilnbkaa.Mn
open Go.RowKit
attribute [local simp] Tri.typeInfo Tri.sizeOf Tri.underlying Tri.runUnderlying Tri.isAgg Tri.zeroValue Tri.depth Tri.stoodInHeld Tri.eqGuardType Tri.call16 Tri.call22 Tri.call28 Tri.call29 Tri.call33 Tri.call38 Tri.call39 Tri.call42 Tri.call45 Tri.call48 Tri.call52 Tri.call54 Tri.call62 Tri.call63 Tri.call65 Tri.call66 Tri.call68 Tri.call69 Tri.call70 Tri.call71 Tri.call78 Tri.call79 Tri.call80 Tri.call81 Tri.call82 Tri.call83 Tri.call84 Tri.call85 Tri.call86 Tri.call89 Tri.call101 Tri.call102 Tri.call103 Tri.call104 Tri.call105 Tri.call107 Tri.call113 Tri.call123 Tri.call124 Tri.call125 Tri.call126 Tri.call127 Tri.call136 Tri.call138 Tri.call139 Tri.call140 Tri.call141 Tri.call142 Tri.call143 Tri.call144 Tri.call154 Tri.call155 Tri.call165 Tri.call167 Tri.call184
def chk1 (L : Ln) (l : List Int) (p : Int) : Int := if asksE L l 1 p 0 = 0 then (if l.length = 0 then 12 else 0) else asksE L l 1 p 0
theorem chk_78a (L : Ln) (a : Option Addr) (n c pb : Nat) (l : List Int) (p E : Int) (w : World) (hR : Row w (.slice a n c) l) (hp : w.cell? ⟨pb, 0, none⟩ = some (.int .i64 p)) (hE : asksE L l 1 p 0 = E) (t0 : (E != 0) = true) : Calls (Tri Try.prog) 78 #[.agg #[.int .i64 L.id, .int .i64 L.st, .int .i64 L.be, .int .i64 L.out, .int .i64 L.rt, .int .i64 L.gr, .int .i64 L.due, .int .i64 L.inc, .int .i64 L.got, .int .i64 L.adj, .int .i64 L.wri, .int .i64 L.rcv, .slice a n c], .pointer (some ⟨pb, 0, none⟩)] w fun z w' => z = .returned (.int .i64 E) ∧ Below w.heap.size w w' := by
  have lt := lt_of_cell hp
  have n0 : ¬ pb = w.heap.size := by omega
  have HB := hide (below1L w (.cells #[.int .i64 L.id, .int .i64 L.st, .int .i64 L.be, .int .i64 L.out, .int .i64 L.rt, .int .i64 L.gr, .int .i64 L.due, .int .i64 L.inc, .int .i64 L.got, .int .i64 L.adj, .int .i64 L.wri, .int .i64 L.rcv, .slice a n c] 62))
  have HL := hide (LB.new w 62 L (.slice a n c))
  have HA := hide (asks_any L a n c l 1 p 0 _ (hR.alloc (.cells #[.int .i64 L.id, .int .i64 L.st, .int .i64 L.be, .int .i64 L.out, .int .i64 L.rt, .int .i64 L.gr, .int .i64 L.due, .int .i64 L.inc, .int .i64 L.got, .int .i64 L.adj, .int .i64 L.wri, .int .i64 L.rcv, .slice a n c] 62)))
  rw [hE] at HA
  clear hR hE
  go_enter (Tri.at (by decide) Try.func78), Try.ntmps78
  go_wp2_with fail
  refine (unhide HA).mono ?_
  rintro z w1 ⟨rfl, hb⟩
  replace HB := hide (below_via (unhide HB) hb)
  replace HL := hide ((unhide HL).keep hb)
  have c12 := (unhide HL).c12
  clear hb HA
  go_wp2_with fail
  go_ret
  exact ⟨rfl, unhide HB⟩
theorem chk_78b (L : Ln) (a : Option Addr) (n c pb : Nat) (l : List Int) (p E : Int) (w : World) (hR : Row w (.slice a n c) l) (hp : w.cell? ⟨pb, 0, none⟩ = some (.int .i64 p)) (hE : asksE L l 1 p 0 = E) (t0 : (E != 0) = false) (t1 : ((n : Int) == 0) = true) : Calls (Tri Try.prog) 78 #[.agg #[.int .i64 L.id, .int .i64 L.st, .int .i64 L.be, .int .i64 L.out, .int .i64 L.rt, .int .i64 L.gr, .int .i64 L.due, .int .i64 L.inc, .int .i64 L.got, .int .i64 L.adj, .int .i64 L.wri, .int .i64 L.rcv, .slice a n c], .pointer (some ⟨pb, 0, none⟩)] w fun z w' => z = .returned (.int .i64 12) ∧ Below w.heap.size w w' := by
  have lt := lt_of_cell hp
  have n0 : ¬ pb = w.heap.size := by omega
  have HB := hide (below1L w (.cells #[.int .i64 L.id, .int .i64 L.st, .int .i64 L.be, .int .i64 L.out, .int .i64 L.rt, .int .i64 L.gr, .int .i64 L.due, .int .i64 L.inc, .int .i64 L.got, .int .i64 L.adj, .int .i64 L.wri, .int .i64 L.rcv, .slice a n c] 62))
  have HL := hide (LB.new w 62 L (.slice a n c))
  have HA := hide (asks_any L a n c l 1 p 0 _ (hR.alloc (.cells #[.int .i64 L.id, .int .i64 L.st, .int .i64 L.be, .int .i64 L.out, .int .i64 L.rt, .int .i64 L.gr, .int .i64 L.due, .int .i64 L.inc, .int .i64 L.got, .int .i64 L.adj, .int .i64 L.wri, .int .i64 L.rcv, .slice a n c] 62)))
  rw [hE] at HA
  clear hR hE
  go_enter (Tri.at (by decide) Try.func78), Try.ntmps78
  go_wp2_with fail
  refine (unhide HA).mono ?_
  rintro z w1 ⟨rfl, hb⟩
  replace HB := hide (below_via (unhide HB) hb)
  replace HL := hide ((unhide HL).keep hb)
  have c12 := (unhide HL).c12
  clear hb HA
  go_wp2_with fail
  go_ret
  exact ⟨rfl, unhide HB⟩
theorem chk_78c (L : Ln) (a : Option Addr) (n c pb : Nat) (l : List Int) (p E : Int) (w : World) (hR : Row w (.slice a n c) l) (hp : w.cell? ⟨pb, 0, none⟩ = some (.int .i64 p)) (hE : asksE L l 1 p 0 = E) (t0 : (E != 0) = false) (t1 : ((n : Int) == 0) = false) : Calls (Tri Try.prog) 78 #[.agg #[.int .i64 L.id, .int .i64 L.st, .int .i64 L.be, .int .i64 L.out, .int .i64 L.rt, .int .i64 L.gr, .int .i64 L.due, .int .i64 L.inc, .int .i64 L.got, .int .i64 L.adj, .int .i64 L.wri, .int .i64 L.rcv, .slice a n c], .pointer (some ⟨pb, 0, none⟩)] w fun z w' => z = .returned (.int .i64 0) ∧ Below w.heap.size w w' := by
  have lt := lt_of_cell hp
  have n0 : ¬ pb = w.heap.size := by omega
  have HB := hide (below1L w (.cells #[.int .i64 L.id, .int .i64 L.st, .int .i64 L.be, .int .i64 L.out, .int .i64 L.rt, .int .i64 L.gr, .int .i64 L.due, .int .i64 L.inc, .int .i64 L.got, .int .i64 L.adj, .int .i64 L.wri, .int .i64 L.rcv, .slice a n c] 62))
  have HL := hide (LB.new w 62 L (.slice a n c))
  have HA := hide (asks_any L a n c l 1 p 0 _ (hR.alloc (.cells #[.int .i64 L.id, .int .i64 L.st, .int .i64 L.be, .int .i64 L.out, .int .i64 L.rt, .int .i64 L.gr, .int .i64 L.due, .int .i64 L.inc, .int .i64 L.got, .int .i64 L.adj, .int .i64 L.wri, .int .i64 L.rcv, .slice a n c] 62)))
  rw [hE] at HA
  clear hR hE
  go_enter (Tri.at (by decide) Try.func78), Try.ntmps78
  go_wp2_with fail
  refine (unhide HA).mono ?_
  rintro z w1 ⟨rfl, hb⟩
  replace HB := hide (below_via (unhide HB) hb)
  replace HL := hide ((unhide HL).keep hb)
  have c12 := (unhide HL).c12
  clear hb HA
  go_wp2_with fail
  go_ret
  exact ⟨rfl, unhide HB⟩
theorem chk_78 (L : Ln) (a : Option Addr) (n c pb : Nat) (l : List Int) (p : Int) (w : World) (hR : Row w (.slice a n c) l) (hp : w.cell? ⟨pb, 0, none⟩ = some (.int .i64 p)) : Calls (Tri Try.prog) 78 #[.agg #[.int .i64 L.id, .int .i64 L.st, .int .i64 L.be, .int .i64 L.out, .int .i64 L.rt, .int .i64 L.gr, .int .i64 L.due, .int .i64 L.inc, .int .i64 L.got, .int .i64 L.adj, .int .i64 L.wri, .int .i64 L.rcv, .slice a n c], .pointer (some ⟨pb, 0, none⟩)] w fun z w' => z = .returned (.int .i64 (chk1 L l p)) ∧ Below w.heap.size w w' := by
  have hn : n = l.length := by
    obtain ⟨a', c', e⟩ := row_slice hR
    injection e
  unfold chk1
  by_cases h0 : asksE L l 1 p 0 = 0
  · rw [if_pos h0]
    by_cases h1 : l.length = 0
    · rw [if_pos h1]
      exact chk_78b L a n c pb l p _ w hR hp rfl (by rw [h0]; rfl) (by rw [hn, h1]; rfl)
    · rw [if_neg h1]
      exact chk_78c L a n c pb l p _ w hR hp rfl (by rw [h0]; rfl) (by rw [hn]; simpa using h1)
  · rw [if_neg h0]
    exact chk_78a L a n c pb l p _ w hR hp rfl (by simpa using h0)
structure DK (w wr : World) (cs : Array Value) : Prop where
  bel : Below w.heap.size w wr
  b0 : Blk wr w.heap.size cs 62
  b1 : Blk wr (w.heap.size + 1) #[.int .i64 0, .int .i64 0, .int .i64 0, .int .i64 0, .int .i64 0, .int .i64 0, .int .i64 0, .int .i64 0, .int .i64 0, .int .i64 0, .int .i64 0, .int .i64 0, .slice none 0 0] 62
  b2 : Blk wr (w.heap.size + 1 + 1) #[.int .i64 0, .int .i64 0, .int .i64 0, .int .i64 0] 74
theorem DK.keep {w wr wr2 : World} {cs : Array Value} (h : DK w wr cs) (hb : Below wr.heap.size wr wr2) : DK w wr2 cs := ⟨below_via h.bel hb, h.b0.keep hb, h.b1.keep hb, h.b2.keep hb⟩
theorem DK.new (w : World) (cs : Array Value) : DK w (((w.alloc (.cells cs 62)).alloc (.cells #[.int .i64 0, .int .i64 0, .int .i64 0, .int .i64 0, .int .i64 0, .int .i64 0, .int .i64 0, .int .i64 0, .int .i64 0, .int .i64 0, .int .i64 0, .int .i64 0, .slice none 0 0] 62)).alloc (.cells #[.int .i64 0, .int .i64 0, .int .i64 0, .int .i64 0] 74)) cs := by
  refine ⟨((below1L w _).alloc (by simp) _).alloc (by simp; omega) _, ((Blk.new w cs 62).alloc _).alloc _, ?_, ?_⟩
  · have h := (Blk.new (w.alloc (.cells cs 62)) #[.int .i64 0, .int .i64 0, .int .i64 0, .int .i64 0, .int .i64 0, .int .i64 0, .int .i64 0, .int .i64 0, .int .i64 0, .int .i64 0, .int .i64 0, .int .i64 0, .slice none 0 0] 62).alloc (.cells #[.int .i64 0, .int .i64 0, .int .i64 0, .int .i64 0] 74)
    simpa using h
  · have h := Blk.new ((w.alloc (.cells cs 62)).alloc (.cells #[.int .i64 0, .int .i64 0, .int .i64 0, .int .i64 0, .int .i64 0, .int .i64 0, .int .i64 0, .int .i64 0, .int .i64 0, .int .i64 0, .int .i64 0, .int .i64 0, .slice none 0 0] 62)) #[.int .i64 0, .int .i64 0, .int .i64 0, .int .i64 0] 74
    simpa using h
end Go.Proofs.Ytlaaomhcilnbkaa.Mn
