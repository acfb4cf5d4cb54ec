/- A step of a loan that is let through. -/
import Derived.Test.YtlaaomhcilnbkaaZLTk
set_option linter.unusedVariables false
set_option linter.unusedSimpArgs false
set_option linter.unusedSectionVars false
namespace Go.Proofs.Ytlaaomhcilnbkaa.Mn
open Go.RowKit
attribute [local simp] Tri.typeInfo Tri.sizeOf Tri.underlying Tri.runUnderlying Tri.isAgg Tri.zeroValue Tri.depth Tri.stoodInHeld Tri.eqGuardType Tri.call16 Tri.call22 Tri.call28 Tri.call29 Tri.call33 Tri.call38 Tri.call39 Tri.call42 Tri.call45 Tri.call48 Tri.call52 Tri.call54 Tri.call62 Tri.call63 Tri.call65 Tri.call66 Tri.call68 Tri.call69 Tri.call70 Tri.call71 Tri.call78 Tri.call79 Tri.call80 Tri.call81 Tri.call82 Tri.call83 Tri.call84 Tri.call85 Tri.call86 Tri.call89 Tri.call101 Tri.call102 Tri.call103 Tri.call104 Tri.call105 Tri.call107 Tri.call113 Tri.call123 Tri.call124 Tri.call125 Tri.call126 Tri.call127 Tri.call136 Tri.call138 Tri.call139 Tri.call140 Tri.call141 Tri.call142 Tri.call143 Tri.call144 Tri.call154 Tri.call155 Tri.call165 Tri.call167 Tri.call184
set_option maxHeartbeats 8000000 in
theorem take_g (fc fd : Nat) (hfc : ∀ (args : Array Value) (w : World), (_root_.Go.callFunc fc args).run (Tri Try.prog) w = .ok (.enter fc args) w) (hfd : ∀ (args : Array Value) (w : World), (_root_.Go.callFunc fd args).run (Tri Try.prog) w = .ok (.enter fd args) w) (L : Ln) (a : Option Addr) (n c pb : Nat) (w : World) (K : Ln) (a2 : Option Addr) (n2 c2 : Nat) (m0 m1 m2 m3 : Int) (HC : Hid (∀ w1, Below w.heap.size w w1 → Calls (Tri Try.prog) fc #[.agg #[.int .i64 L.id, .int .i64 L.st, .int .i64 L.be, .int .i64 L.out, .int .i64 L.rt, .int .i64 L.gr, .int .i64 L.due, .int .i64 L.inc, .int .i64 L.got, .int .i64 L.adj, .int .i64 L.wri, .int .i64 L.rcv, .slice a n c], .pointer (some ⟨pb, 0, none⟩)] w1 fun z w2 => z = .returned (.int .i64 0) ∧ Below w1.heap.size w1 w2)) (HD : Hid (∀ w1, Below w.heap.size w w1 → Calls (Tri Try.prog) fd #[.agg #[.int .i64 L.id, .int .i64 L.st, .int .i64 L.be, .int .i64 L.out, .int .i64 L.rt, .int .i64 L.gr, .int .i64 L.due, .int .i64 L.inc, .int .i64 L.got, .int .i64 L.adj, .int .i64 L.wri, .int .i64 L.rcv, .slice a n c], .pointer (some ⟨pb, 0, none⟩)] w1 fun z w2 => z = .returned (.tuple #[.agg #[.int .i64 K.id, .int .i64 K.st, .int .i64 K.be, .int .i64 K.out, .int .i64 K.rt, .int .i64 K.gr, .int .i64 K.due, .int .i64 K.inc, .int .i64 K.got, .int .i64 K.adj, .int .i64 K.wri, .int .i64 K.rcv, .slice a2 n2 c2], .agg #[.int .i64 m0, .int .i64 m1, .int .i64 m2, .int .i64 m3]]) ∧ Below w1.heap.size w1 w2)) (n3 : Nat) (l3 : List Int) (G : Option Addr → Nat → Prop) (HE : Hid (∀ w1, Below w.heap.size w w1 → Calls (Tri Try.prog) 83 #[.agg #[.int .i64 K.id, .int .i64 K.st, .int .i64 K.be, .int .i64 K.out, .int .i64 K.rt, .int .i64 K.gr, .int .i64 K.due, .int .i64 K.inc, .int .i64 K.got, .int .i64 K.adj, .int .i64 K.wri, .int .i64 K.rcv, .slice a2 n2 c2]] w1 fun z w2 => ∃ a3 c3, z = .returned (.tuple #[.agg #[.int .i64 K.id, .int .i64 K.st, .int .i64 K.be, .int .i64 K.out, .int .i64 K.rt, .int .i64 K.gr, .int .i64 K.due, .int .i64 K.inc, .int .i64 K.got, .int .i64 K.adj, .int .i64 K.wri, .int .i64 K.rcv, .slice a3 n3 c3], .int .i64 0]) ∧ Row w2 (.slice a3 n3 c3) l3 ∧ G a3 c3 ∧ (∀ x, a3 = some x → w1.heap.size ≤ x.block) ∧ Below w1.heap.size w1 w2)) : Calls (Tri Try.prog) 84 #[.agg #[.func (.func fc) #[] #[.pointer (some ⟨pb, 0, none⟩)], .func (.func fd) #[] #[.pointer (some ⟨pb, 0, none⟩)], .func (.func 83) #[] #[]], .agg #[.int .i64 L.id, .int .i64 L.st, .int .i64 L.be, .int .i64 L.out, .int .i64 L.rt, .int .i64 L.gr, .int .i64 L.due, .int .i64 L.inc, .int .i64 L.got, .int .i64 L.adj, .int .i64 L.wri, .int .i64 L.rcv, .slice a n c]] w fun z w2 => ∃ a3 c3, z = .returned (.tuple #[.agg #[.int .i64 K.id, .int .i64 K.st, .int .i64 K.be, .int .i64 K.out, .int .i64 K.rt, .int .i64 K.gr, .int .i64 K.due, .int .i64 K.inc, .int .i64 K.got, .int .i64 K.adj, .int .i64 K.wri, .int .i64 K.rcv, .slice a3 n3 c3], .agg #[.int .i64 m0, .int .i64 m1, .int .i64 m2, .int .i64 m3], .int .i64 0]) ∧ Row w2 (.slice a3 n3 c3) l3 ∧ G a3 c3 ∧ (∀ x, a3 = some x → w.heap.size ≤ x.block) ∧ Below w.heap.size w w2 := by
  have HT := hide (TK.new w #[.func (.func fc) #[] #[.pointer (some ⟨pb, 0, none⟩)], .func (.func fd) #[] #[.pointer (some ⟨pb, 0, none⟩)], .func (.func 83) #[] #[]] #[.int .i64 L.id, .int .i64 L.st, .int .i64 L.be, .int .i64 L.out, .int .i64 L.rt, .int .i64 L.gr, .int .i64 L.due, .int .i64 L.inc, .int .i64 L.got, .int .i64 L.adj, .int .i64 L.wri, .int .i64 L.rcv, .slice a n c])
  go_enter (Tri.at (by decide) Try.func84), Try.ntmps84
  go_wp2_with fail
  refine (unhide HC _ (unhide HT).bel).mono ?_
  rintro z w1 ⟨rfl, hb⟩
  replace HT := hide ((unhide HT).keep hb)
  clear hb HC
  have t0 : ((0 : Int) != 0) = false := rfl
  have x0 := (show Blk _ _ _ _ from (unhide HT).b0).at 0 _ rfl
  have x1 := (show Blk _ _ _ _ from (unhide HT).b0).at 1 _ rfl
  have x2 := (show Blk _ _ _ _ from (unhide HT).b0).at 2 _ rfl
  have y0 := (show Blk _ _ _ _ from (unhide HT).b1).at 0 _ rfl
  have y1 := (show Blk _ _ _ _ from (unhide HT).b1).at 1 _ rfl
  have y2 := (show Blk _ _ _ _ from (unhide HT).b1).at 2 _ rfl
  have y3 := (show Blk _ _ _ _ from (unhide HT).b1).at 3 _ rfl
  have y4 := (show Blk _ _ _ _ from (unhide HT).b1).at 4 _ rfl
  have y5 := (show Blk _ _ _ _ from (unhide HT).b1).at 5 _ rfl
  have y6 := (show Blk _ _ _ _ from (unhide HT).b1).at 6 _ rfl
  have y7 := (show Blk _ _ _ _ from (unhide HT).b1).at 7 _ rfl
  have y8 := (show Blk _ _ _ _ from (unhide HT).b1).at 8 _ rfl
  have y9 := (show Blk _ _ _ _ from (unhide HT).b1).at 9 _ rfl
  have y10 := (show Blk _ _ _ _ from (unhide HT).b1).at 10 _ rfl
  have y11 := (show Blk _ _ _ _ from (unhide HT).b1).at 11 _ rfl
  have y12 := (show Blk _ _ _ _ from (unhide HT).b1).at 12 _ rfl
  go_wp2_with fail
  refine (unhide HD _ (unhide HT).bel).mono ?_
  rintro z w2 ⟨rfl, hb⟩
  replace HT := hide ((unhide HT).keep hb)
  clear hb HD
  clear x0 x1 x2 y0 y1 y2 y3 y4 y5 y6 y7 y8 y9 y10 y11 y12
  have sz : w.heap.size + 1 + 1 + 1 + 1 + 1 < w2.heap.size := (show Blk _ _ _ _ from (unhide HT).b5).lt
  replace HT : Hid (TK w ((w2.alloc (.cells #[.int .i64 K.id, .int .i64 K.st, .int .i64 K.be, .int .i64 K.out, .int .i64 K.rt, .int .i64 K.gr, .int .i64 K.due, .int .i64 K.inc, .int .i64 K.got, .int .i64 K.adj, .int .i64 K.wri, .int .i64 K.rcv, .slice a2 n2 c2] 62)).alloc (.cells #[.int .i64 m0, .int .i64 m1, .int .i64 m2, .int .i64 m3] 74)) #[.func (.func fc) #[] #[.pointer (some ⟨pb, 0, none⟩)], .func (.func fd) #[] #[.pointer (some ⟨pb, 0, none⟩)], .func (.func 83) #[] #[]] #[.int .i64 L.id, .int .i64 L.st, .int .i64 L.be, .int .i64 L.out, .int .i64 L.rt, .int .i64 L.gr, .int .i64 L.due, .int .i64 L.inc, .int .i64 L.got, .int .i64 L.adj, .int .i64 L.wri, .int .i64 L.rcv, .slice a n c]) := hide ((unhide HT).keep ((below1L w2 _).alloc (by simp) _))
  have HM : Hid (Blk ((w2.alloc (.cells #[.int .i64 K.id, .int .i64 K.st, .int .i64 K.be, .int .i64 K.out, .int .i64 K.rt, .int .i64 K.gr, .int .i64 K.due, .int .i64 K.inc, .int .i64 K.got, .int .i64 K.adj, .int .i64 K.wri, .int .i64 K.rcv, .slice a2 n2 c2] 62)).alloc (.cells #[.int .i64 m0, .int .i64 m1, .int .i64 m2, .int .i64 m3] 74)) (w2.heap.size + 1) #[.int .i64 m0, .int .i64 m1, .int .i64 m2, .int .i64 m3] 74) := hide (by have h := Blk.new (w2.alloc (.cells #[.int .i64 K.id, .int .i64 K.st, .int .i64 K.be, .int .i64 K.out, .int .i64 K.rt, .int .i64 K.gr, .int .i64 K.due, .int .i64 K.inc, .int .i64 K.got, .int .i64 K.adj, .int .i64 K.wri, .int .i64 K.rcv, .slice a2 n2 c2] 62)) #[.int .i64 m0, .int .i64 m1, .int .i64 m2, .int .i64 m3] 74; simpa using h)
  have x0 := (show Blk _ _ _ _ from (unhide HT).b0).at 0 _ rfl
  have x1 := (show Blk _ _ _ _ from (unhide HT).b0).at 1 _ rfl
  have x2 := (show Blk _ _ _ _ from (unhide HT).b0).at 2 _ rfl
  go_wp2_with fail
  refine (unhide HE _ (unhide HT).bel).mono ?_
  rintro z w3 ⟨a3, c3, rfl, hR, hG, hfr, hb⟩
  have HR := hide hR
  have HF : Hid (∀ x, a3 = some x → w2.heap.size + 1 + 1 ≤ x.block) := hide (by simpa using hfr)
  clear hR hfr
  have sz3 : w2.heap.size + 1 < w3.heap.size := ((unhide HM).keep hb).lt
  replace HT : Hid (TK w (w3.alloc (.cells #[.int .i64 K.id, .int .i64 K.st, .int .i64 K.be, .int .i64 K.out, .int .i64 K.rt, .int .i64 K.gr, .int .i64 K.due, .int .i64 K.inc, .int .i64 K.got, .int .i64 K.adj, .int .i64 K.wri, .int .i64 K.rcv, .slice a3 n3 c3] 62)) #[.func (.func fc) #[] #[.pointer (some ⟨pb, 0, none⟩)], .func (.func fd) #[] #[.pointer (some ⟨pb, 0, none⟩)], .func (.func 83) #[] #[]] #[.int .i64 L.id, .int .i64 L.st, .int .i64 L.be, .int .i64 L.out, .int .i64 L.rt, .int .i64 L.gr, .int .i64 L.due, .int .i64 L.inc, .int .i64 L.got, .int .i64 L.adj, .int .i64 L.wri, .int .i64 L.rcv, .slice a n c]) := hide (((unhide HT).keep hb).keep (below1L w3 _))
  replace HM : Hid (Blk (w3.alloc (.cells #[.int .i64 K.id, .int .i64 K.st, .int .i64 K.be, .int .i64 K.out, .int .i64 K.rt, .int .i64 K.gr, .int .i64 K.due, .int .i64 K.inc, .int .i64 K.got, .int .i64 K.adj, .int .i64 K.wri, .int .i64 K.rcv, .slice a3 n3 c3] 62)) (w2.heap.size + 1) #[.int .i64 m0, .int .i64 m1, .int .i64 m2, .int .i64 m3] 74) := hide (((unhide HM).keep hb).alloc _)
  clear hb HE x0 x1 x2
  have y0 := (show Blk _ _ _ _ from unhide HM).at 0 _ rfl
  have y1 := (show Blk _ _ _ _ from unhide HM).at 1 _ rfl
  have y2 := (show Blk _ _ _ _ from unhide HM).at 2 _ rfl
  have y3 := (show Blk _ _ _ _ from unhide HM).at 3 _ rfl
  have p0 := (show Blk _ _ _ _ from (unhide HT).b2).at 0 _ rfl
  have p1 := (show Blk _ _ _ _ from (unhide HT).b2).at 1 _ rfl
  have p2 := (show Blk _ _ _ _ from (unhide HT).b2).at 2 _ rfl
  have p3 := (show Blk _ _ _ _ from (unhide HT).b2).at 3 _ rfl
  have p4 := (show Blk _ _ _ _ from (unhide HT).b2).at 4 _ rfl
  have p5 := (show Blk _ _ _ _ from (unhide HT).b2).at 5 _ rfl
  have p6 := (show Blk _ _ _ _ from (unhide HT).b2).at 6 _ rfl
  have p7 := (show Blk _ _ _ _ from (unhide HT).b2).at 7 _ rfl
  have p8 := (show Blk _ _ _ _ from (unhide HT).b2).at 8 _ rfl
  have p9 := (show Blk _ _ _ _ from (unhide HT).b2).at 9 _ rfl
  have p10 := (show Blk _ _ _ _ from (unhide HT).b2).at 10 _ rfl
  have p11 := (show Blk _ _ _ _ from (unhide HT).b2).at 11 _ rfl
  have p12 := (show Blk _ _ _ _ from (unhide HT).b2).at 12 _ rfl
  have q0 := (show Blk _ _ _ _ from (unhide HT).b3).at 0 _ rfl
  have q1 := (show Blk _ _ _ _ from (unhide HT).b3).at 1 _ rfl
  have q2 := (show Blk _ _ _ _ from (unhide HT).b3).at 2 _ rfl
  have q3 := (show Blk _ _ _ _ from (unhide HT).b3).at 3 _ rfl
  have u0 := (show Blk _ _ _ _ from (unhide HT).b2).fz 0
  have u1 := (show Blk _ _ _ _ from (unhide HT).b2).fz 1
  have u2 := (show Blk _ _ _ _ from (unhide HT).b2).fz 2
  have u3 := (show Blk _ _ _ _ from (unhide HT).b2).fz 3
  have u4 := (show Blk _ _ _ _ from (unhide HT).b2).fz 4
  have u5 := (show Blk _ _ _ _ from (unhide HT).b2).fz 5
  have u6 := (show Blk _ _ _ _ from (unhide HT).b2).fz 6
  have u7 := (show Blk _ _ _ _ from (unhide HT).b2).fz 7
  have u8 := (show Blk _ _ _ _ from (unhide HT).b2).fz 8
  have u9 := (show Blk _ _ _ _ from (unhide HT).b2).fz 9
  have u10 := (show Blk _ _ _ _ from (unhide HT).b2).fz 10
  have u11 := (show Blk _ _ _ _ from (unhide HT).b2).fz 11
  have u12 := (show Blk _ _ _ _ from (unhide HT).b2).fz 12
  have v0 := (show Blk _ _ _ _ from (unhide HT).b3).fz 0
  have v1 := (show Blk _ _ _ _ from (unhide HT).b3).fz 1
  have v2 := (show Blk _ _ _ _ from (unhide HT).b3).fz 2
  have v3 := (show Blk _ _ _ _ from (unhide HT).b3).fz 3
  go_wp2_with fail
  go_region
  clear y0 y1 y2 y3 p0 p1 p2 p3 p4 p5 p6 p7 p8 p9 p10 p11 p12 q0 q1 q2 q3 u0 u1 u2 u3 u4 u5 u6 u7 u8 u9 u10 u11 u12 v0 v1 v2 v3
  have k2 : Blk (putM (putL (w3.alloc (.cells #[.int .i64 K.id, .int .i64 K.st, .int .i64 K.be, .int .i64 K.out, .int .i64 K.rt, .int .i64 K.gr, .int .i64 K.due, .int .i64 K.inc, .int .i64 K.got, .int .i64 K.adj, .int .i64 K.wri, .int .i64 K.rcv, .slice a3 n3 c3] 62)) (w.heap.size + 1 + 1) (.int .i64 K.id) (.int .i64 K.st) (.int .i64 K.be) (.int .i64 K.out) (.int .i64 K.rt) (.int .i64 K.gr) (.int .i64 K.due) (.int .i64 K.inc) (.int .i64 K.got) (.int .i64 K.adj) (.int .i64 K.wri) (.int .i64 K.rcv) (.slice a3 n3 c3)) (w.heap.size + 1 + 1 + 1) (.int .i64 m0) (.int .i64 m1) (.int .i64 m2) (.int .i64 m3)).drew (w.heap.size + 1 + 1) #[.int .i64 K.id, .int .i64 K.st, .int .i64 K.be, .int .i64 K.out, .int .i64 K.rt, .int .i64 K.gr, .int .i64 K.due, .int .i64 K.inc, .int .i64 K.got, .int .i64 K.adj, .int .i64 K.wri, .int .i64 K.rcv, .slice a3 n3 c3] 62 := (((show Blk _ _ _ _ from (unhide HT).b2).wrL (.int .i64 K.id) (.int .i64 K.st) (.int .i64 K.be) (.int .i64 K.out) (.int .i64 K.rt) (.int .i64 K.gr) (.int .i64 K.due) (.int .i64 K.inc) (.int .i64 K.got) (.int .i64 K.adj) (.int .i64 K.wri) (.int .i64 K.rcv) (.slice a3 n3 c3)).offM (by omega) (.int .i64 m0) (.int .i64 m1) (.int .i64 m2) (.int .i64 m3)).drew
  have k3 : Blk (putM (putL (w3.alloc (.cells #[.int .i64 K.id, .int .i64 K.st, .int .i64 K.be, .int .i64 K.out, .int .i64 K.rt, .int .i64 K.gr, .int .i64 K.due, .int .i64 K.inc, .int .i64 K.got, .int .i64 K.adj, .int .i64 K.wri, .int .i64 K.rcv, .slice a3 n3 c3] 62)) (w.heap.size + 1 + 1) (.int .i64 K.id) (.int .i64 K.st) (.int .i64 K.be) (.int .i64 K.out) (.int .i64 K.rt) (.int .i64 K.gr) (.int .i64 K.due) (.int .i64 K.inc) (.int .i64 K.got) (.int .i64 K.adj) (.int .i64 K.wri) (.int .i64 K.rcv) (.slice a3 n3 c3)) (w.heap.size + 1 + 1 + 1) (.int .i64 m0) (.int .i64 m1) (.int .i64 m2) (.int .i64 m3)).drew (w.heap.size + 1 + 1 + 1) #[.int .i64 m0, .int .i64 m1, .int .i64 m2, .int .i64 m3] 74 := (((show Blk _ _ _ _ from (unhide HT).b3).offL (by omega) (.int .i64 K.id) (.int .i64 K.st) (.int .i64 K.be) (.int .i64 K.out) (.int .i64 K.rt) (.int .i64 K.gr) (.int .i64 K.due) (.int .i64 K.inc) (.int .i64 K.got) (.int .i64 K.adj) (.int .i64 K.wri) (.int .i64 K.rcv) (.slice a3 n3 c3)).wrM (.int .i64 m0) (.int .i64 m1) (.int .i64 m2) (.int .i64 m3)).drew
  have k4 : Below w.heap.size w (putM (putL (w3.alloc (.cells #[.int .i64 K.id, .int .i64 K.st, .int .i64 K.be, .int .i64 K.out, .int .i64 K.rt, .int .i64 K.gr, .int .i64 K.due, .int .i64 K.inc, .int .i64 K.got, .int .i64 K.adj, .int .i64 K.wri, .int .i64 K.rcv, .slice a3 n3 c3] 62)) (w.heap.size + 1 + 1) (.int .i64 K.id) (.int .i64 K.st) (.int .i64 K.be) (.int .i64 K.out) (.int .i64 K.rt) (.int .i64 K.gr) (.int .i64 K.due) (.int .i64 K.inc) (.int .i64 K.got) (.int .i64 K.adj) (.int .i64 K.wri) (.int .i64 K.rcv) (.slice a3 n3 c3)) (w.heap.size + 1 + 1 + 1) (.int .i64 m0) (.int .i64 m1) (.int .i64 m2) (.int .i64 m3)).drew := below_drew (below_putM (below_putL (unhide HT).bel (by omega) (.int .i64 K.id) (.int .i64 K.st) (.int .i64 K.be) (.int .i64 K.out) (.int .i64 K.rt) (.int .i64 K.gr) (.int .i64 K.due) (.int .i64 K.inc) (.int .i64 K.got) (.int .i64 K.adj) (.int .i64 K.wri) (.int .i64 K.rcv) (.slice a3 n3 c3)) (by omega) (.int .i64 m0) (.int .i64 m1) (.int .i64 m2) (.int .i64 m3))
  have r1 : Row (putL (w3.alloc (.cells #[.int .i64 K.id, .int .i64 K.st, .int .i64 K.be, .int .i64 K.out, .int .i64 K.rt, .int .i64 K.gr, .int .i64 K.due, .int .i64 K.inc, .int .i64 K.got, .int .i64 K.adj, .int .i64 K.wri, .int .i64 K.rcv, .slice a3 n3 c3] 62)) (w.heap.size + 1 + 1) (.int .i64 K.id) (.int .i64 K.st) (.int .i64 K.be) (.int .i64 K.out) (.int .i64 K.rt) (.int .i64 K.gr) (.int .i64 K.due) (.int .i64 K.inc) (.int .i64 K.got) (.int .i64 K.adj) (.int .i64 K.wri) (.int .i64 K.rcv) (.slice a3 n3 c3)) (.slice a3 n3 c3) l3 := Row.offL ((unhide HR).alloc _) (fun x hx => by have := unhide HF x hx; omega) (.int .i64 K.id) (.int .i64 K.st) (.int .i64 K.be) (.int .i64 K.out) (.int .i64 K.rt) (.int .i64 K.gr) (.int .i64 K.due) (.int .i64 K.inc) (.int .i64 K.got) (.int .i64 K.adj) (.int .i64 K.wri) (.int .i64 K.rcv) (.slice a3 n3 c3)
  have r2 : Row (putM (putL (w3.alloc (.cells #[.int .i64 K.id, .int .i64 K.st, .int .i64 K.be, .int .i64 K.out, .int .i64 K.rt, .int .i64 K.gr, .int .i64 K.due, .int .i64 K.inc, .int .i64 K.got, .int .i64 K.adj, .int .i64 K.wri, .int .i64 K.rcv, .slice a3 n3 c3] 62)) (w.heap.size + 1 + 1) (.int .i64 K.id) (.int .i64 K.st) (.int .i64 K.be) (.int .i64 K.out) (.int .i64 K.rt) (.int .i64 K.gr) (.int .i64 K.due) (.int .i64 K.inc) (.int .i64 K.got) (.int .i64 K.adj) (.int .i64 K.wri) (.int .i64 K.rcv) (.slice a3 n3 c3)) (w.heap.size + 1 + 1 + 1) (.int .i64 m0) (.int .i64 m1) (.int .i64 m2) (.int .i64 m3)) (.slice a3 n3 c3) l3 := Row.offM r1 (fun x hx => by have := unhide HF x hx; omega) (.int .i64 m0) (.int .i64 m1) (.int .i64 m2) (.int .i64 m3)
  have k5 : Row (putM (putL (w3.alloc (.cells #[.int .i64 K.id, .int .i64 K.st, .int .i64 K.be, .int .i64 K.out, .int .i64 K.rt, .int .i64 K.gr, .int .i64 K.due, .int .i64 K.inc, .int .i64 K.got, .int .i64 K.adj, .int .i64 K.wri, .int .i64 K.rcv, .slice a3 n3 c3] 62)) (w.heap.size + 1 + 1) (.int .i64 K.id) (.int .i64 K.st) (.int .i64 K.be) (.int .i64 K.out) (.int .i64 K.rt) (.int .i64 K.gr) (.int .i64 K.due) (.int .i64 K.inc) (.int .i64 K.got) (.int .i64 K.adj) (.int .i64 K.wri) (.int .i64 K.rcv) (.slice a3 n3 c3)) (w.heap.size + 1 + 1 + 1) (.int .i64 m0) (.int .i64 m1) (.int .i64 m2) (.int .i64 m3)).drew (.slice a3 n3 c3) l3 := Row.drew r2
  clear r1 r2
  have k6 : ∀ x, a3 = some x → w.heap.size ≤ x.block := fun x hx => by have := unhide HF x hx; omega
  clear HR HF
  generalize (putM (putL (w3.alloc (.cells #[.int .i64 K.id, .int .i64 K.st, .int .i64 K.be, .int .i64 K.out, .int .i64 K.rt, .int .i64 K.gr, .int .i64 K.due, .int .i64 K.inc, .int .i64 K.got, .int .i64 K.adj, .int .i64 K.wri, .int .i64 K.rcv, .slice a3 n3 c3] 62)) (w.heap.size + 1 + 1) (.int .i64 K.id) (.int .i64 K.st) (.int .i64 K.be) (.int .i64 K.out) (.int .i64 K.rt) (.int .i64 K.gr) (.int .i64 K.due) (.int .i64 K.inc) (.int .i64 K.got) (.int .i64 K.adj) (.int .i64 K.wri) (.int .i64 K.rcv) (.slice a3 n3 c3)) (w.heap.size + 1 + 1 + 1) (.int .i64 m0) (.int .i64 m1) (.int .i64 m2) (.int .i64 m3)).drew = W at *
  clear HT
  have p0 := k2.at 0 _ rfl
  have p1 := k2.at 1 _ rfl
  have p2 := k2.at 2 _ rfl
  have p3 := k2.at 3 _ rfl
  have p4 := k2.at 4 _ rfl
  have p5 := k2.at 5 _ rfl
  have p6 := k2.at 6 _ rfl
  have p7 := k2.at 7 _ rfl
  have p8 := k2.at 8 _ rfl
  have p9 := k2.at 9 _ rfl
  have p10 := k2.at 10 _ rfl
  have p11 := k2.at 11 _ rfl
  have p12 := k2.at 12 _ rfl
  have q0 := k3.at 0 _ rfl
  have q1 := k3.at 1 _ rfl
  have q2 := k3.at 2 _ rfl
  have q3 := k3.at 3 _ rfl
  go_wp2_with fail
  exact bodyPost_ret (v := .tuple #[.agg #[.int .i64 K.id, .int .i64 K.st, .int .i64 K.be, .int .i64 K.out, .int .i64 K.rt, .int .i64 K.gr, .int .i64 K.due, .int .i64 K.inc, .int .i64 K.got, .int .i64 K.adj, .int .i64 K.wri, .int .i64 K.rcv, .slice a3 n3 c3], .agg #[.int .i64 m0, .int .i64 m1, .int .i64 m2, .int .i64 m3], .int .i64 0]) (by simp [results, Try.results84, go_sem, p0, p1, p2, p3, p4, p5, p6, p7, p8, p9, p10, p11, p12, q0, q1, q2, q3]) rfl ⟨a3, c3, rfl, k5, hG, k6, k4⟩
end Go.Proofs.Ytlaaomhcilnbkaa.Mn
