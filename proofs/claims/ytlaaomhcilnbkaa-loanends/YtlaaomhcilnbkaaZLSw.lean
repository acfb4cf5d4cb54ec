/- What a step comes to. -/
import Derived.Test.YtlaaomhcilnbkaaZLSv
set_option linter.unusedVariables false
set_option linter.unusedSimpArgs false
set_option linter.unusedSectionVars false
namespace Go.Proofs.Ytlaaomhcilnbkaa.Mn
open Go.RowKit
attribute [local simp] Tri.typeInfo Tri.sizeOf Tri.underlying Tri.runUnderlying Tri.isAgg Tri.zeroValue Tri.depth Tri.stoodInHeld Tri.eqGuardType Tri.call16 Tri.call22 Tri.call28 Tri.call29 Tri.call33 Tri.call38 Tri.call39 Tri.call42 Tri.call45 Tri.call48 Tri.call52 Tri.call54 Tri.call62 Tri.call63 Tri.call65 Tri.call66 Tri.call68 Tri.call69 Tri.call70 Tri.call71 Tri.call78 Tri.call79 Tri.call80 Tri.call81 Tri.call82 Tri.call83 Tri.call84 Tri.call85 Tri.call86 Tri.call89 Tri.call101 Tri.call102 Tri.call103 Tri.call104 Tri.call105 Tri.call107 Tri.call113 Tri.call123 Tri.call124 Tri.call125 Tri.call126 Tri.call127 Tri.call136 Tri.call138 Tri.call139 Tri.call140 Tri.call141 Tri.call142 Tri.call143 Tri.call144 Tri.call154 Tri.call155 Tri.call165 Tri.call167 Tri.call184
set_option maxHeartbeats 2000000 in
theorem settle_a (L : Ln) (a : Option Addr) (n c : Nat) (l : List Int) (w : World) (hR : Row w (.slice a n c) l) (g : decide (L.gr < 0) = true) : Calls (Tri Try.prog) 83 #[.agg #[.int .i64 L.id, .int .i64 L.st, .int .i64 L.be, .int .i64 L.out, .int .i64 L.rt, .int .i64 L.gr, .int .i64 L.due, .int .i64 L.inc, .int .i64 L.got, .int .i64 L.adj, .int .i64 L.wri, .int .i64 L.rcv, .slice a n c]] w fun z w' => z = .returned (.tuple #[.agg #[.int .i64 0, .int .i64 0, .int .i64 0, .int .i64 0, .int .i64 0, .int .i64 0, .int .i64 0, .int .i64 0, .int .i64 0, .int .i64 0, .int .i64 0, .int .i64 0, .slice none 0 0], .int .i64 2]) ∧ Below w.heap.size w w' := by
  go_enter (Tri.at (by decide) Try.func83), Try.ntmps83
  go_wp2_with fail
  exact bodyPost_ret (v := .tuple #[.agg #[.int .i64 0, .int .i64 0, .int .i64 0, .int .i64 0, .int .i64 0, .int .i64 0, .int .i64 0, .int .i64 0, .int .i64 0, .int .i64 0, .int .i64 0, .int .i64 0, .slice none 0 0], .int .i64 2]) (by simp [results, Try.results83, go_sem]) rfl ⟨rfl, (below1L w _).alloc (by simp) _⟩
set_option maxHeartbeats 2000000 in
theorem settle_b (L : Ln) (a : Option Addr) (n c : Nat) (l : List Int) (w : World) (hR : Row w (.slice a n c) l) (g : decide (L.gr < 0) = false) (t0 : rightB L l = false) : Calls (Tri Try.prog) 83 #[.agg #[.int .i64 L.id, .int .i64 L.st, .int .i64 L.be, .int .i64 L.out, .int .i64 L.rt, .int .i64 L.gr, .int .i64 L.due, .int .i64 L.inc, .int .i64 L.got, .int .i64 L.adj, .int .i64 L.wri, .int .i64 L.rcv, .slice a n c]] w fun z w' => z = .returned (.tuple #[.agg #[.int .i64 0, .int .i64 0, .int .i64 0, .int .i64 0, .int .i64 0, .int .i64 0, .int .i64 0, .int .i64 0, .int .i64 0, .int .i64 0, .int .i64 0, .int .i64 0, .slice none 0 0], .int .i64 3]) ∧ Below w.heap.size w w' := by
  have HR : Hid (Row ((w.alloc (.cells #[.int .i64 L.id, .int .i64 L.st, .int .i64 L.be, .int .i64 L.out, .int .i64 L.rt, .int .i64 L.gr, .int .i64 L.due, .int .i64 L.inc, .int .i64 L.got, .int .i64 L.adj, .int .i64 L.wri, .int .i64 L.rcv, .slice a n c] 62)).alloc (.cells #[.int .i64 0, .int .i64 0, .int .i64 0, .int .i64 0, .int .i64 0, .int .i64 0, .int .i64 0, .int .i64 0, .int .i64 0, .int .i64 0, .int .i64 0, .int .i64 0, .slice none 0 0] 62)) (.slice a n c) l) := hide ((hR.alloc _).alloc _)
  have HL : Hid (LB ((w.alloc (.cells #[.int .i64 L.id, .int .i64 L.st, .int .i64 L.be, .int .i64 L.out, .int .i64 L.rt, .int .i64 L.gr, .int .i64 L.due, .int .i64 L.inc, .int .i64 L.got, .int .i64 L.adj, .int .i64 L.wri, .int .i64 L.rcv, .slice a n c] 62)).alloc (.cells #[.int .i64 0, .int .i64 0, .int .i64 0, .int .i64 0, .int .i64 0, .int .i64 0, .int .i64 0, .int .i64 0, .int .i64 0, .int .i64 0, .int .i64 0, .int .i64 0, .slice none 0 0] 62)) w.heap.size 62 L (.slice a n c)) := hide ((LB.new w 62 L (.slice a n c)).alloc _)
  have HZ : Hid (Blk ((w.alloc (.cells #[.int .i64 L.id, .int .i64 L.st, .int .i64 L.be, .int .i64 L.out, .int .i64 L.rt, .int .i64 L.gr, .int .i64 L.due, .int .i64 L.inc, .int .i64 L.got, .int .i64 L.adj, .int .i64 L.wri, .int .i64 L.rcv, .slice a n c] 62)).alloc (.cells #[.int .i64 0, .int .i64 0, .int .i64 0, .int .i64 0, .int .i64 0, .int .i64 0, .int .i64 0, .int .i64 0, .int .i64 0, .int .i64 0, .int .i64 0, .int .i64 0, .slice none 0 0] 62)) (w.heap.size + 1) #[.int .i64 0, .int .i64 0, .int .i64 0, .int .i64 0, .int .i64 0, .int .i64 0, .int .i64 0, .int .i64 0, .int .i64 0, .int .i64 0, .int .i64 0, .int .i64 0, .slice none 0 0] 62) := hide (by have h := Blk.new (w.alloc (.cells #[.int .i64 L.id, .int .i64 L.st, .int .i64 L.be, .int .i64 L.out, .int .i64 L.rt, .int .i64 L.gr, .int .i64 L.due, .int .i64 L.inc, .int .i64 L.got, .int .i64 L.adj, .int .i64 L.wri, .int .i64 L.rcv, .slice a n c] 62)) #[.int .i64 0, .int .i64 0, .int .i64 0, .int .i64 0, .int .i64 0, .int .i64 0, .int .i64 0, .int .i64 0, .int .i64 0, .int .i64 0, .int .i64 0, .int .i64 0, .slice none 0 0] 62; simpa using h)
  have HB : Hid (Below w.heap.size w ((w.alloc (.cells #[.int .i64 L.id, .int .i64 L.st, .int .i64 L.be, .int .i64 L.out, .int .i64 L.rt, .int .i64 L.gr, .int .i64 L.due, .int .i64 L.inc, .int .i64 L.got, .int .i64 L.adj, .int .i64 L.wri, .int .i64 L.rcv, .slice a n c] 62)).alloc (.cells #[.int .i64 0, .int .i64 0, .int .i64 0, .int .i64 0, .int .i64 0, .int .i64 0, .int .i64 0, .int .i64 0, .int .i64 0, .int .i64 0, .int .i64 0, .int .i64 0, .slice none 0 0] 62))) := hide ((below1L w _).alloc (by simp) _)
  have H0 : Hid (∀ w1, Row w1 (.slice a n c) l → Tells 33 w1 #[.agg #[.int .i64 L.id, .int .i64 L.st, .int .i64 L.be, .int .i64 L.out, .int .i64 L.rt, .int .i64 L.gr, .int .i64 L.due, .int .i64 L.inc, .int .i64 L.got, .int .i64 L.adj, .int .i64 L.wri, .int .i64 L.rcv, .slice a n c]] false) := hide (fun w1 h => t0 ▸ right_any L a n c l w1 h)
  unfold Tells at H0
  clear hR t0
  go_enter (Tri.at (by decide) Try.func83), Try.ntmps83
  go_wp2_with fail
  refine (unhide H0 _ (unhide HR)).mono ?_
  rintro z w1 ⟨rfl, hb⟩
  replace HB := hide (below_via (unhide HB) hb)
  replace HL := hide ((unhide HL).keep hb)
  replace HZ := hide ((unhide HZ).keep hb)
  replace HR := hide ((unhide HR).below hb (Nat.le_refl _))
  clear hb H0
  have z0 := (unhide HZ).at 0 (.int .i64 0) rfl
  have f0 := (unhide HZ).fz 0
  have z1 := (unhide HZ).at 1 (.int .i64 0) rfl
  have f1 := (unhide HZ).fz 1
  have z2 := (unhide HZ).at 2 (.int .i64 0) rfl
  have f2 := (unhide HZ).fz 2
  have z3 := (unhide HZ).at 3 (.int .i64 0) rfl
  have f3 := (unhide HZ).fz 3
  have z4 := (unhide HZ).at 4 (.int .i64 0) rfl
  have f4 := (unhide HZ).fz 4
  have z5 := (unhide HZ).at 5 (.int .i64 0) rfl
  have f5 := (unhide HZ).fz 5
  have z6 := (unhide HZ).at 6 (.int .i64 0) rfl
  have f6 := (unhide HZ).fz 6
  have z7 := (unhide HZ).at 7 (.int .i64 0) rfl
  have f7 := (unhide HZ).fz 7
  have z8 := (unhide HZ).at 8 (.int .i64 0) rfl
  have f8 := (unhide HZ).fz 8
  have z9 := (unhide HZ).at 9 (.int .i64 0) rfl
  have f9 := (unhide HZ).fz 9
  have z10 := (unhide HZ).at 10 (.int .i64 0) rfl
  have f10 := (unhide HZ).fz 10
  have z11 := (unhide HZ).at 11 (.int .i64 0) rfl
  have f11 := (unhide HZ).fz 11
  have z12 := (unhide HZ).at 12 (.slice none 0 0) rfl
  have f12 := (unhide HZ).fz 12
  go_wp2_with fail
  clear z0 f0 z1 f1 z2 f2 z3 f3 z4 f4 z5 f5 z6 f6 z7 f7 z8 f8 z9 f9 z10 f10 z11 f11 z12 f12
  have k2 : Blk ((((((((((((((((((((((((((w1).setCell ⟨w.heap.size + 1, 0, none⟩ (.int .i64 0))).setCell ⟨w.heap.size + 1, 1, none⟩ (.int .i64 0))).setCell ⟨w.heap.size + 1, 2, none⟩ (.int .i64 0))).setCell ⟨w.heap.size + 1, 3, none⟩ (.int .i64 0))).setCell ⟨w.heap.size + 1, 4, none⟩ (.int .i64 0))).setCell ⟨w.heap.size + 1, 5, none⟩ (.int .i64 0))).setCell ⟨w.heap.size + 1, 6, none⟩ (.int .i64 0))).setCell ⟨w.heap.size + 1, 7, none⟩ (.int .i64 0))).setCell ⟨w.heap.size + 1, 8, none⟩ (.int .i64 0))).setCell ⟨w.heap.size + 1, 9, none⟩ (.int .i64 0))).setCell ⟨w.heap.size + 1, 10, none⟩ (.int .i64 0))).setCell ⟨w.heap.size + 1, 11, none⟩ (.int .i64 0))).setCell ⟨w.heap.size + 1, 12, none⟩ (.slice none 0 0)) (w.heap.size + 1) #[.int .i64 0, .int .i64 0, .int .i64 0, .int .i64 0, .int .i64 0, .int .i64 0, .int .i64 0, .int .i64 0, .int .i64 0, .int .i64 0, .int .i64 0, .int .i64 0, .slice none 0 0] 62 := (unhide HZ).wrL (.int .i64 0) (.int .i64 0) (.int .i64 0) (.int .i64 0) (.int .i64 0) (.int .i64 0) (.int .i64 0) (.int .i64 0) (.int .i64 0) (.int .i64 0) (.int .i64 0) (.int .i64 0) (.slice none 0 0)
  have k4 : Below w.heap.size w ((((((((((((((((((((((((((w1).setCell ⟨w.heap.size + 1, 0, none⟩ (.int .i64 0))).setCell ⟨w.heap.size + 1, 1, none⟩ (.int .i64 0))).setCell ⟨w.heap.size + 1, 2, none⟩ (.int .i64 0))).setCell ⟨w.heap.size + 1, 3, none⟩ (.int .i64 0))).setCell ⟨w.heap.size + 1, 4, none⟩ (.int .i64 0))).setCell ⟨w.heap.size + 1, 5, none⟩ (.int .i64 0))).setCell ⟨w.heap.size + 1, 6, none⟩ (.int .i64 0))).setCell ⟨w.heap.size + 1, 7, none⟩ (.int .i64 0))).setCell ⟨w.heap.size + 1, 8, none⟩ (.int .i64 0))).setCell ⟨w.heap.size + 1, 9, none⟩ (.int .i64 0))).setCell ⟨w.heap.size + 1, 10, none⟩ (.int .i64 0))).setCell ⟨w.heap.size + 1, 11, none⟩ (.int .i64 0))).setCell ⟨w.heap.size + 1, 12, none⟩ (.slice none 0 0)) := below_putL (unhide HB) (by omega) (.int .i64 0) (.int .i64 0) (.int .i64 0) (.int .i64 0) (.int .i64 0) (.int .i64 0) (.int .i64 0) (.int .i64 0) (.int .i64 0) (.int .i64 0) (.int .i64 0) (.int .i64 0) (.slice none 0 0)
  generalize (((((((((((((((((((((((((w1).setCell ⟨w.heap.size + 1, 0, none⟩ (.int .i64 0))).setCell ⟨w.heap.size + 1, 1, none⟩ (.int .i64 0))).setCell ⟨w.heap.size + 1, 2, none⟩ (.int .i64 0))).setCell ⟨w.heap.size + 1, 3, none⟩ (.int .i64 0))).setCell ⟨w.heap.size + 1, 4, none⟩ (.int .i64 0))).setCell ⟨w.heap.size + 1, 5, none⟩ (.int .i64 0))).setCell ⟨w.heap.size + 1, 6, none⟩ (.int .i64 0))).setCell ⟨w.heap.size + 1, 7, none⟩ (.int .i64 0))).setCell ⟨w.heap.size + 1, 8, none⟩ (.int .i64 0))).setCell ⟨w.heap.size + 1, 9, none⟩ (.int .i64 0))).setCell ⟨w.heap.size + 1, 10, none⟩ (.int .i64 0))).setCell ⟨w.heap.size + 1, 11, none⟩ (.int .i64 0))).setCell ⟨w.heap.size + 1, 12, none⟩ (.slice none 0 0) = W at *
  have p0 := k2.at 0 (.int .i64 0) rfl
  have p1 := k2.at 1 (.int .i64 0) rfl
  have p2 := k2.at 2 (.int .i64 0) rfl
  have p3 := k2.at 3 (.int .i64 0) rfl
  have p4 := k2.at 4 (.int .i64 0) rfl
  have p5 := k2.at 5 (.int .i64 0) rfl
  have p6 := k2.at 6 (.int .i64 0) rfl
  have p7 := k2.at 7 (.int .i64 0) rfl
  have p8 := k2.at 8 (.int .i64 0) rfl
  have p9 := k2.at 9 (.int .i64 0) rfl
  have p10 := k2.at 10 (.int .i64 0) rfl
  have p11 := k2.at 11 (.int .i64 0) rfl
  have p12 := k2.at 12 (.slice none 0 0) rfl
  exact bodyPost_ret (v := .tuple #[.agg #[.int .i64 0, .int .i64 0, .int .i64 0, .int .i64 0, .int .i64 0, .int .i64 0, .int .i64 0, .int .i64 0, .int .i64 0, .int .i64 0, .int .i64 0, .int .i64 0, .slice none 0 0], .int .i64 3]) (by simp [results, Try.results83, go_sem, p0, p1, p2, p3, p4, p5, p6, p7, p8, p9, p10, p11, p12]) rfl ⟨rfl, k4⟩
set_option maxHeartbeats 2000000 in
theorem settle_c (L : Ln) (a : Option Addr) (n c : Nat) (l : List Int) (w : World) (hR : Row w (.slice a n c) l) (hS : Sl a n c) (hl : l.length ≤ 1000000) (g : decide (L.gr < 0) = false) (t0 : rightB L l = true) : Calls (Tri Try.prog) 83 #[.agg #[.int .i64 L.id, .int .i64 L.st, .int .i64 L.be, .int .i64 L.out, .int .i64 L.rt, .int .i64 L.gr, .int .i64 L.due, .int .i64 L.inc, .int .i64 L.got, .int .i64 L.adj, .int .i64 L.wri, .int .i64 L.rcv, .slice a n c]] w fun z w' => ∃ a' c', z = .returned (.tuple #[.agg #[.int .i64 L.id, .int .i64 L.st, .int .i64 L.be, .int .i64 L.out, .int .i64 L.rt, .int .i64 L.gr, .int .i64 L.due, .int .i64 L.inc, .int .i64 L.got, .int .i64 L.adj, .int .i64 L.wri, .int .i64 L.rcv, .slice a' l.length c'], .int .i64 0]) ∧ Row w' (.slice a' l.length c') l ∧ Sl a' l.length c' ∧ (∀ x, a' = some x → w.heap.size ≤ x.block) ∧ Below w.heap.size w w' := by
  have HR : Hid (Row ((w.alloc (.cells #[.int .i64 L.id, .int .i64 L.st, .int .i64 L.be, .int .i64 L.out, .int .i64 L.rt, .int .i64 L.gr, .int .i64 L.due, .int .i64 L.inc, .int .i64 L.got, .int .i64 L.adj, .int .i64 L.wri, .int .i64 L.rcv, .slice a n c] 62)).alloc (.cells #[.int .i64 0, .int .i64 0, .int .i64 0, .int .i64 0, .int .i64 0, .int .i64 0, .int .i64 0, .int .i64 0, .int .i64 0, .int .i64 0, .int .i64 0, .int .i64 0, .slice none 0 0] 62)) (.slice a n c) l) := hide ((hR.alloc _).alloc _)
  have HL : Hid (LB ((w.alloc (.cells #[.int .i64 L.id, .int .i64 L.st, .int .i64 L.be, .int .i64 L.out, .int .i64 L.rt, .int .i64 L.gr, .int .i64 L.due, .int .i64 L.inc, .int .i64 L.got, .int .i64 L.adj, .int .i64 L.wri, .int .i64 L.rcv, .slice a n c] 62)).alloc (.cells #[.int .i64 0, .int .i64 0, .int .i64 0, .int .i64 0, .int .i64 0, .int .i64 0, .int .i64 0, .int .i64 0, .int .i64 0, .int .i64 0, .int .i64 0, .int .i64 0, .slice none 0 0] 62)) w.heap.size 62 L (.slice a n c)) := hide ((LB.new w 62 L (.slice a n c)).alloc _)
  have HZ : Hid (Blk ((w.alloc (.cells #[.int .i64 L.id, .int .i64 L.st, .int .i64 L.be, .int .i64 L.out, .int .i64 L.rt, .int .i64 L.gr, .int .i64 L.due, .int .i64 L.inc, .int .i64 L.got, .int .i64 L.adj, .int .i64 L.wri, .int .i64 L.rcv, .slice a n c] 62)).alloc (.cells #[.int .i64 0, .int .i64 0, .int .i64 0, .int .i64 0, .int .i64 0, .int .i64 0, .int .i64 0, .int .i64 0, .int .i64 0, .int .i64 0, .int .i64 0, .int .i64 0, .slice none 0 0] 62)) (w.heap.size + 1) #[.int .i64 0, .int .i64 0, .int .i64 0, .int .i64 0, .int .i64 0, .int .i64 0, .int .i64 0, .int .i64 0, .int .i64 0, .int .i64 0, .int .i64 0, .int .i64 0, .slice none 0 0] 62) := hide (by have h := Blk.new (w.alloc (.cells #[.int .i64 L.id, .int .i64 L.st, .int .i64 L.be, .int .i64 L.out, .int .i64 L.rt, .int .i64 L.gr, .int .i64 L.due, .int .i64 L.inc, .int .i64 L.got, .int .i64 L.adj, .int .i64 L.wri, .int .i64 L.rcv, .slice a n c] 62)) #[.int .i64 0, .int .i64 0, .int .i64 0, .int .i64 0, .int .i64 0, .int .i64 0, .int .i64 0, .int .i64 0, .int .i64 0, .int .i64 0, .int .i64 0, .int .i64 0, .slice none 0 0] 62; simpa using h)
  have HB : Hid (Below w.heap.size w ((w.alloc (.cells #[.int .i64 L.id, .int .i64 L.st, .int .i64 L.be, .int .i64 L.out, .int .i64 L.rt, .int .i64 L.gr, .int .i64 L.due, .int .i64 L.inc, .int .i64 L.got, .int .i64 L.adj, .int .i64 L.wri, .int .i64 L.rcv, .slice a n c] 62)).alloc (.cells #[.int .i64 0, .int .i64 0, .int .i64 0, .int .i64 0, .int .i64 0, .int .i64 0, .int .i64 0, .int .i64 0, .int .i64 0, .int .i64 0, .int .i64 0, .int .i64 0, .slice none 0 0] 62))) := hide ((below1L w _).alloc (by simp) _)
  have HS := hide hS
  have HN := hide hl
  clear hS hl
  have H0 : Hid (∀ w1, Row w1 (.slice a n c) l → Tells 33 w1 #[.agg #[.int .i64 L.id, .int .i64 L.st, .int .i64 L.be, .int .i64 L.out, .int .i64 L.rt, .int .i64 L.gr, .int .i64 L.due, .int .i64 L.inc, .int .i64 L.got, .int .i64 L.adj, .int .i64 L.wri, .int .i64 L.rcv, .slice a n c]] true) := hide (fun w1 h => t0 ▸ right_any L a n c l w1 h)
  unfold Tells at H0
  clear hR t0
  go_enter (Tri.at (by decide) Try.func83), Try.ntmps83
  go_wp2_with fail
  refine (unhide H0 _ (unhide HR)).mono ?_
  rintro z w1 ⟨rfl, hb⟩
  replace HB := hide (below_via (unhide HB) hb)
  replace HL := hide ((unhide HL).keep hb)
  replace HZ := hide ((unhide HZ).keep hb)
  replace HR := hide ((unhide HR).below hb (Nat.le_refl _))
  clear hb H0
  have c12 := (unhide HL).c12
  go_wp2_with fail
  refine (copied_any (unhide HR) (unhide HS) (unhide HN)).mono ?_
  rintro z w2 ⟨a', c', rfl, hr, hs, hf, hb⟩
  replace HB := hide (below_via (unhide HB) hb)
  have HF : Hid (∀ x, a' = some x → w.heap.size + 1 < x.block) := hide (fun x hx => Nat.lt_of_lt_of_le (unhide HZ).lt (hf x hx))
  replace HL := hide ((unhide HL).keep hb)
  replace HZ := hide ((unhide HZ).keep hb)
  replace HR := hide hr
  replace HS := hide hs
  clear hb hr hs hf c12
  have c0 := (unhide HL).c0
  have c1 := (unhide HL).c1
  have c2 := (unhide HL).c2
  have c3 := (unhide HL).c3
  have c4 := (unhide HL).c4
  have c5 := (unhide HL).c5
  have c6 := (unhide HL).c6
  have c7 := (unhide HL).c7
  have c8 := (unhide HL).c8
  have c9 := (unhide HL).c9
  have c10 := (unhide HL).c10
  have c11 := (unhide HL).c11
  have c12 := (unhide HL).c12
  have cf := frozen_of_row w2 w.heap.size 12 _ _ (unhide HL)
  have z0 := (unhide HZ).at 0 (.int .i64 0) rfl
  have f0 := (unhide HZ).fz 0
  have z1 := (unhide HZ).at 1 (.int .i64 0) rfl
  have f1 := (unhide HZ).fz 1
  have z2 := (unhide HZ).at 2 (.int .i64 0) rfl
  have f2 := (unhide HZ).fz 2
  have z3 := (unhide HZ).at 3 (.int .i64 0) rfl
  have f3 := (unhide HZ).fz 3
  have z4 := (unhide HZ).at 4 (.int .i64 0) rfl
  have f4 := (unhide HZ).fz 4
  have z5 := (unhide HZ).at 5 (.int .i64 0) rfl
  have f5 := (unhide HZ).fz 5
  have z6 := (unhide HZ).at 6 (.int .i64 0) rfl
  have f6 := (unhide HZ).fz 6
  have z7 := (unhide HZ).at 7 (.int .i64 0) rfl
  have f7 := (unhide HZ).fz 7
  have z8 := (unhide HZ).at 8 (.int .i64 0) rfl
  have f8 := (unhide HZ).fz 8
  have z9 := (unhide HZ).at 9 (.int .i64 0) rfl
  have f9 := (unhide HZ).fz 9
  have z10 := (unhide HZ).at 10 (.int .i64 0) rfl
  have f10 := (unhide HZ).fz 10
  have z11 := (unhide HZ).at 11 (.int .i64 0) rfl
  have f11 := (unhide HZ).fz 11
  have z12 := (unhide HZ).at 12 (.slice none 0 0) rfl
  have f12 := (unhide HZ).fz 12
  have ne1 : ¬ w.heap.size = w.heap.size + 1 := by omega
  have ne2 : ¬ w.heap.size + 1 = w.heap.size := by omega
  go_wp2_with fail
  clear z0 f0 c0 z1 f1 c1 z2 f2 c2 z3 f3 c3 z4 f4 c4 z5 f5 c5 z6 f6 c6 z7 f7 c7 z8 f8 c8 z9 f9 c9 z10 f10 c10 z11 f11 c11 z12 f12 c12 cf
  have k2 : Blk ((((((((((((((((((((((((((w2.setCell ⟨w.heap.size, 12, none⟩ (.slice a' l.length c')).setCell ⟨w.heap.size + 1, 0, none⟩ (.int .i64 L.id))).setCell ⟨w.heap.size + 1, 1, none⟩ (.int .i64 L.st))).setCell ⟨w.heap.size + 1, 2, none⟩ (.int .i64 L.be))).setCell ⟨w.heap.size + 1, 3, none⟩ (.int .i64 L.out))).setCell ⟨w.heap.size + 1, 4, none⟩ (.int .i64 L.rt))).setCell ⟨w.heap.size + 1, 5, none⟩ (.int .i64 L.gr))).setCell ⟨w.heap.size + 1, 6, none⟩ (.int .i64 L.due))).setCell ⟨w.heap.size + 1, 7, none⟩ (.int .i64 L.inc))).setCell ⟨w.heap.size + 1, 8, none⟩ (.int .i64 L.got))).setCell ⟨w.heap.size + 1, 9, none⟩ (.int .i64 L.adj))).setCell ⟨w.heap.size + 1, 10, none⟩ (.int .i64 L.wri))).setCell ⟨w.heap.size + 1, 11, none⟩ (.int .i64 L.rcv))).setCell ⟨w.heap.size + 1, 12, none⟩ (.slice a' l.length c')) (w.heap.size + 1) #[.int .i64 L.id, .int .i64 L.st, .int .i64 L.be, .int .i64 L.out, .int .i64 L.rt, .int .i64 L.gr, .int .i64 L.due, .int .i64 L.inc, .int .i64 L.got, .int .i64 L.adj, .int .i64 L.wri, .int .i64 L.rcv, .slice a' l.length c'] 62 := ((unhide HZ).other (by omega) 12 _).wrL (.int .i64 L.id) (.int .i64 L.st) (.int .i64 L.be) (.int .i64 L.out) (.int .i64 L.rt) (.int .i64 L.gr) (.int .i64 L.due) (.int .i64 L.inc) (.int .i64 L.got) (.int .i64 L.adj) (.int .i64 L.wri) (.int .i64 L.rcv) (.slice a' l.length c')
  have k4 : Below w.heap.size w ((((((((((((((((((((((((((w2.setCell ⟨w.heap.size, 12, none⟩ (.slice a' l.length c')).setCell ⟨w.heap.size + 1, 0, none⟩ (.int .i64 L.id))).setCell ⟨w.heap.size + 1, 1, none⟩ (.int .i64 L.st))).setCell ⟨w.heap.size + 1, 2, none⟩ (.int .i64 L.be))).setCell ⟨w.heap.size + 1, 3, none⟩ (.int .i64 L.out))).setCell ⟨w.heap.size + 1, 4, none⟩ (.int .i64 L.rt))).setCell ⟨w.heap.size + 1, 5, none⟩ (.int .i64 L.gr))).setCell ⟨w.heap.size + 1, 6, none⟩ (.int .i64 L.due))).setCell ⟨w.heap.size + 1, 7, none⟩ (.int .i64 L.inc))).setCell ⟨w.heap.size + 1, 8, none⟩ (.int .i64 L.got))).setCell ⟨w.heap.size + 1, 9, none⟩ (.int .i64 L.adj))).setCell ⟨w.heap.size + 1, 10, none⟩ (.int .i64 L.wri))).setCell ⟨w.heap.size + 1, 11, none⟩ (.int .i64 L.rcv))).setCell ⟨w.heap.size + 1, 12, none⟩ (.slice a' l.length c')) := below_putL ((unhide HB).setCell (by simp) _) (by omega) (.int .i64 L.id) (.int .i64 L.st) (.int .i64 L.be) (.int .i64 L.out) (.int .i64 L.rt) (.int .i64 L.gr) (.int .i64 L.due) (.int .i64 L.inc) (.int .i64 L.got) (.int .i64 L.adj) (.int .i64 L.wri) (.int .i64 L.rcv) (.slice a' l.length c')
  have k5 : Row ((((((((((((((((((((((((((w2.setCell ⟨w.heap.size, 12, none⟩ (.slice a' l.length c')).setCell ⟨w.heap.size + 1, 0, none⟩ (.int .i64 L.id))).setCell ⟨w.heap.size + 1, 1, none⟩ (.int .i64 L.st))).setCell ⟨w.heap.size + 1, 2, none⟩ (.int .i64 L.be))).setCell ⟨w.heap.size + 1, 3, none⟩ (.int .i64 L.out))).setCell ⟨w.heap.size + 1, 4, none⟩ (.int .i64 L.rt))).setCell ⟨w.heap.size + 1, 5, none⟩ (.int .i64 L.gr))).setCell ⟨w.heap.size + 1, 6, none⟩ (.int .i64 L.due))).setCell ⟨w.heap.size + 1, 7, none⟩ (.int .i64 L.inc))).setCell ⟨w.heap.size + 1, 8, none⟩ (.int .i64 L.got))).setCell ⟨w.heap.size + 1, 9, none⟩ (.int .i64 L.adj))).setCell ⟨w.heap.size + 1, 10, none⟩ (.int .i64 L.wri))).setCell ⟨w.heap.size + 1, 11, none⟩ (.int .i64 L.rcv))).setCell ⟨w.heap.size + 1, 12, none⟩ (.slice a' l.length c')) (.slice a' l.length c') l := Row.offL ((unhide HR).off (fun x hx => by have := unhide HF x hx; omega)) (fun x hx => by have := unhide HF x hx; omega) (.int .i64 L.id) (.int .i64 L.st) (.int .i64 L.be) (.int .i64 L.out) (.int .i64 L.rt) (.int .i64 L.gr) (.int .i64 L.due) (.int .i64 L.inc) (.int .i64 L.got) (.int .i64 L.adj) (.int .i64 L.wri) (.int .i64 L.rcv) (.slice a' l.length c')
  have k6 : ∀ x, a' = some x → w.heap.size ≤ x.block := fun x hx => by have := unhide HF x hx; omega
  have k7 := unhide HS
  generalize (((((((((((((((((((((((((w2.setCell ⟨w.heap.size, 12, none⟩ (.slice a' l.length c')).setCell ⟨w.heap.size + 1, 0, none⟩ (.int .i64 L.id))).setCell ⟨w.heap.size + 1, 1, none⟩ (.int .i64 L.st))).setCell ⟨w.heap.size + 1, 2, none⟩ (.int .i64 L.be))).setCell ⟨w.heap.size + 1, 3, none⟩ (.int .i64 L.out))).setCell ⟨w.heap.size + 1, 4, none⟩ (.int .i64 L.rt))).setCell ⟨w.heap.size + 1, 5, none⟩ (.int .i64 L.gr))).setCell ⟨w.heap.size + 1, 6, none⟩ (.int .i64 L.due))).setCell ⟨w.heap.size + 1, 7, none⟩ (.int .i64 L.inc))).setCell ⟨w.heap.size + 1, 8, none⟩ (.int .i64 L.got))).setCell ⟨w.heap.size + 1, 9, none⟩ (.int .i64 L.adj))).setCell ⟨w.heap.size + 1, 10, none⟩ (.int .i64 L.wri))).setCell ⟨w.heap.size + 1, 11, none⟩ (.int .i64 L.rcv))).setCell ⟨w.heap.size + 1, 12, none⟩ (.slice a' l.length c') = W at *
  have p0 := k2.at 0 (.int .i64 L.id) rfl
  have p1 := k2.at 1 (.int .i64 L.st) rfl
  have p2 := k2.at 2 (.int .i64 L.be) rfl
  have p3 := k2.at 3 (.int .i64 L.out) rfl
  have p4 := k2.at 4 (.int .i64 L.rt) rfl
  have p5 := k2.at 5 (.int .i64 L.gr) rfl
  have p6 := k2.at 6 (.int .i64 L.due) rfl
  have p7 := k2.at 7 (.int .i64 L.inc) rfl
  have p8 := k2.at 8 (.int .i64 L.got) rfl
  have p9 := k2.at 9 (.int .i64 L.adj) rfl
  have p10 := k2.at 10 (.int .i64 L.wri) rfl
  have p11 := k2.at 11 (.int .i64 L.rcv) rfl
  have p12 := k2.at 12 (.slice a' l.length c') rfl
  exact bodyPost_ret (v := .tuple #[.agg #[.int .i64 L.id, .int .i64 L.st, .int .i64 L.be, .int .i64 L.out, .int .i64 L.rt, .int .i64 L.gr, .int .i64 L.due, .int .i64 L.inc, .int .i64 L.got, .int .i64 L.adj, .int .i64 L.wri, .int .i64 L.rcv, .slice a' l.length c'], .int .i64 0]) (by simp [results, Try.results83, go_sem, p0, p1, p2, p3, p4, p5, p6, p7, p8, p9, p10, p11, p12]) rfl ⟨a', c', rfl, k5, k7, k6, k4⟩
end Go.Proofs.Ytlaaomhcilnbkaa.Mn
