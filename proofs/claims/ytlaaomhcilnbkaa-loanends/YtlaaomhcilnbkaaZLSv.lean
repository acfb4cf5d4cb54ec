/- Interest; what a step asks ahead. -/
import Derived.Test.YtlaaomhcilnbkaaZLSu
import Derived.Test.YtlaaomhcilnbkaaZLTk
set_option linter.unusedVariables false
set_option linter.unusedSimpArgs false
set_option linter.unusedSectionVars false
namespace Go.Proofs.Ytlaaomhcilnbkaa.Mn
open Go.RowKit
attribute [local simp] Tri.typeInfo Tri.sizeOf Tri.underlying Tri.runUnderlying Tri.isAgg Tri.zeroValue Tri.depth Tri.stoodInHeld Tri.eqGuardType Tri.call16 Tri.call22 Tri.call28 Tri.call29 Tri.call33 Tri.call38 Tri.call39 Tri.call42 Tri.call45 Tri.call48 Tri.call52 Tri.call54 Tri.call62 Tri.call63 Tri.call65 Tri.call66 Tri.call68 Tri.call69 Tri.call70 Tri.call71 Tri.call78 Tri.call79 Tri.call80 Tri.call81 Tri.call82 Tri.call83 Tri.call84 Tri.call85 Tri.call86 Tri.call89 Tri.call101 Tri.call102 Tri.call103 Tri.call104 Tri.call105 Tri.call107 Tri.call113 Tri.call123 Tri.call124 Tri.call125 Tri.call126 Tri.call127 Tri.call136 Tri.call138 Tri.call139 Tri.call140 Tri.call141 Tri.call142 Tri.call143 Tri.call144 Tri.call154 Tri.call155 Tri.call165 Tri.call167 Tri.call184
theorem qI_small {x r : Int} (h : May r) (h0 : 0 ≤ x) : -x ≤ qI x r ∧ qI x r ≤ 10 * x := by
  unfold qI
  obtain ⟨h1, h2⟩ := h
  have k1 : x * (-990000000000) ≤ x * r := Int.mul_le_mul_of_nonneg_left h1 h0
  have k2 : x * r ≤ x * 10000000000000 := Int.mul_le_mul_of_nonneg_left h2 h0
  exact ⟨near_ge (by omega) (by omega), near_le (by omega) (by omega)⟩
theorem interest_is {x r : Int} (h : May r) (h0 : 0 ≤ x) (h1 : x ≤ 1125899906842624) : Ans 63 x r (qI x r) 0 := by
  have k := qI_small h h0
  exact in_ok (interest_ok ⟨by omega, by omega⟩ h) ⟨by omega, by omega⟩
theorem inter_any (L : Ln) (a : Option Addr) (n c : Nat) (w : World) (h : May L.rt) (h0 : 0 ≤ L.gr) (h1 : L.gr ≤ 1125899906842624) : Calls (Tri Try.prog) 82 #[.agg #[.int .i64 L.id, .int .i64 L.st, .int .i64 L.be, .int .i64 L.out, .int .i64 L.rt, .int .i64 L.gr, .int .i64 L.due, .int .i64 L.inc, .int .i64 L.got, .int .i64 L.adj, .int .i64 L.wri, .int .i64 L.rcv, .slice a n c]] w fun z w' => z = .returned (.int .i64 (qI L.gr L.rt)) ∧ Below w.heap.size w w' := by
  have H := hide (interest_is h h0 h1)
  unfold Ans at H
  have HB := hide (below1L w (.cells #[.int .i64 L.id, .int .i64 L.st, .int .i64 L.be, .int .i64 L.out, .int .i64 L.rt, .int .i64 L.gr, .int .i64 L.due, .int .i64 L.inc, .int .i64 L.got, .int .i64 L.adj, .int .i64 L.wri, .int .i64 L.rcv, .slice a n c] 62))
  clear h h0 h1
  go_enter (Tri.at (by decide) Try.func82), Try.ntmps82
  go_wp2_with fail
  refine (unhide H _).mono ?_
  rintro z w1 ⟨rfl, hb⟩
  replace HB := hide (below_via (unhide HB) hb)
  clear hb
  go_wp2_with fail
  go_ret
  exact ⟨rfl, unhide HB⟩
def asksE (L : Ln) (l : List Int) (k p lo : Int) : Int := if rightB L l && inB lo p 10000000000000 then (if L.st = k then 0 else 12) else 2
theorem asks_a (L : Ln) (a : Option Addr) (n c : Nat) (l : List Int) (k p lo : Int) (w : World) (hR : Row w (.slice a n c) l) (t0 : rightB L l = false) : Calls (Tri Try.prog) 79 #[.agg #[.int .i64 L.id, .int .i64 L.st, .int .i64 L.be, .int .i64 L.out, .int .i64 L.rt, .int .i64 L.gr, .int .i64 L.due, .int .i64 L.inc, .int .i64 L.got, .int .i64 L.adj, .int .i64 L.wri, .int .i64 L.rcv, .slice a n c], .int .i64 k, .int .i64 p, .int .i64 lo] w fun z w' => z = .returned (.int .i64 2) ∧ Below w.heap.size w w' := by
  have HR := hide (hR.alloc (.cells #[.int .i64 L.id, .int .i64 L.st, .int .i64 L.be, .int .i64 L.out, .int .i64 L.rt, .int .i64 L.gr, .int .i64 L.due, .int .i64 L.inc, .int .i64 L.got, .int .i64 L.adj, .int .i64 L.wri, .int .i64 L.rcv, .slice a n c] 62))
  have HL := hide (LB.new w 62 L (.slice a n c))
  have HB := hide (below1L w (.cells #[.int .i64 L.id, .int .i64 L.st, .int .i64 L.be, .int .i64 L.out, .int .i64 L.rt, .int .i64 L.gr, .int .i64 L.due, .int .i64 L.inc, .int .i64 L.got, .int .i64 L.adj, .int .i64 L.wri, .int .i64 L.rcv, .slice a n c] 62))
  have H0 : Hid (∀ w1, Row w1 (.slice a n c) l → Tells 33 w1 #[.agg #[.int .i64 L.id, .int .i64 L.st, .int .i64 L.be, .int .i64 L.out, .int .i64 L.rt, .int .i64 L.gr, .int .i64 L.due, .int .i64 L.inc, .int .i64 L.got, .int .i64 L.adj, .int .i64 L.wri, .int .i64 L.rcv, .slice a n c]] false) := hide (fun w1 h => t0 ▸ right_any L a n c l w1 h)
  unfold Tells at H0
  clear hR t0
  go_enter (Tri.at (by decide) Try.func79), Try.ntmps79
  go_wp2_with fail
  refine (unhide H0 _ (unhide HR)).mono ?_
  rintro z w1 ⟨rfl, hb⟩
  replace HB := hide (below_via (unhide HB) hb)
  replace HL := hide ((unhide HL).keep hb)
  clear hb HR H0
  have c1 := (unhide HL).c1
  go_wp2_with fail
  go_ret
  exact ⟨rfl, unhide HB⟩
theorem asks_b (L : Ln) (a : Option Addr) (n c : Nat) (l : List Int) (k p lo : Int) (w : World) (hR : Row w (.slice a n c) l) (t0 : rightB L l = true) (t1 : inB lo p 10000000000000 = false) : Calls (Tri Try.prog) 79 #[.agg #[.int .i64 L.id, .int .i64 L.st, .int .i64 L.be, .int .i64 L.out, .int .i64 L.rt, .int .i64 L.gr, .int .i64 L.due, .int .i64 L.inc, .int .i64 L.got, .int .i64 L.adj, .int .i64 L.wri, .int .i64 L.rcv, .slice a n c], .int .i64 k, .int .i64 p, .int .i64 lo] w fun z w' => z = .returned (.int .i64 2) ∧ Below w.heap.size w w' := by
  have HR := hide (hR.alloc (.cells #[.int .i64 L.id, .int .i64 L.st, .int .i64 L.be, .int .i64 L.out, .int .i64 L.rt, .int .i64 L.gr, .int .i64 L.due, .int .i64 L.inc, .int .i64 L.got, .int .i64 L.adj, .int .i64 L.wri, .int .i64 L.rcv, .slice a n c] 62))
  have HL := hide (LB.new w 62 L (.slice a n c))
  have HB := hide (below1L w (.cells #[.int .i64 L.id, .int .i64 L.st, .int .i64 L.be, .int .i64 L.out, .int .i64 L.rt, .int .i64 L.gr, .int .i64 L.due, .int .i64 L.inc, .int .i64 L.got, .int .i64 L.adj, .int .i64 L.wri, .int .i64 L.rcv, .slice a n c] 62))
  have H0 : Hid (∀ w1, Row w1 (.slice a n c) l → Tells 33 w1 #[.agg #[.int .i64 L.id, .int .i64 L.st, .int .i64 L.be, .int .i64 L.out, .int .i64 L.rt, .int .i64 L.gr, .int .i64 L.due, .int .i64 L.inc, .int .i64 L.got, .int .i64 L.adj, .int .i64 L.wri, .int .i64 L.rcv, .slice a n c]] true) := hide (fun w1 h => t0 ▸ right_any L a n c l w1 h)
  unfold Tells at H0
  have H1 := hide (within_is t1)
  clear hR t0 t1
  go_enter (Tri.at (by decide) Try.func79), Try.ntmps79
  go_wp2_with fail
  refine (unhide H0 _ (unhide HR)).mono ?_
  rintro z w1 ⟨rfl, hb⟩
  replace HB := hide (below_via (unhide HB) hb)
  replace HL := hide ((unhide HL).keep hb)
  clear hb HR H0
  have c1 := (unhide HL).c1
  go_wp2_with fail
  refine (unhide H1 _).mono ?_
  rintro z w2 ⟨rfl, rfl⟩
  go_wp2_with fail
  go_ret
  exact ⟨rfl, unhide HB⟩
theorem asks_c (L : Ln) (a : Option Addr) (n c : Nat) (l : List Int) (k p lo : Int) (w : World) (hR : Row w (.slice a n c) l) (t0 : rightB L l = true) (t1 : inB lo p 10000000000000 = true) (t2 : (L.st != k) = true) : Calls (Tri Try.prog) 79 #[.agg #[.int .i64 L.id, .int .i64 L.st, .int .i64 L.be, .int .i64 L.out, .int .i64 L.rt, .int .i64 L.gr, .int .i64 L.due, .int .i64 L.inc, .int .i64 L.got, .int .i64 L.adj, .int .i64 L.wri, .int .i64 L.rcv, .slice a n c], .int .i64 k, .int .i64 p, .int .i64 lo] w fun z w' => z = .returned (.int .i64 12) ∧ Below w.heap.size w w' := by
  have HR := hide (hR.alloc (.cells #[.int .i64 L.id, .int .i64 L.st, .int .i64 L.be, .int .i64 L.out, .int .i64 L.rt, .int .i64 L.gr, .int .i64 L.due, .int .i64 L.inc, .int .i64 L.got, .int .i64 L.adj, .int .i64 L.wri, .int .i64 L.rcv, .slice a n c] 62))
  have HL := hide (LB.new w 62 L (.slice a n c))
  have HB := hide (below1L w (.cells #[.int .i64 L.id, .int .i64 L.st, .int .i64 L.be, .int .i64 L.out, .int .i64 L.rt, .int .i64 L.gr, .int .i64 L.due, .int .i64 L.inc, .int .i64 L.got, .int .i64 L.adj, .int .i64 L.wri, .int .i64 L.rcv, .slice a n c] 62))
  have H0 : Hid (∀ w1, Row w1 (.slice a n c) l → Tells 33 w1 #[.agg #[.int .i64 L.id, .int .i64 L.st, .int .i64 L.be, .int .i64 L.out, .int .i64 L.rt, .int .i64 L.gr, .int .i64 L.due, .int .i64 L.inc, .int .i64 L.got, .int .i64 L.adj, .int .i64 L.wri, .int .i64 L.rcv, .slice a n c]] true) := hide (fun w1 h => t0 ▸ right_any L a n c l w1 h)
  unfold Tells at H0
  have H1 := hide (within_is t1)
  clear hR t0 t1
  go_enter (Tri.at (by decide) Try.func79), Try.ntmps79
  go_wp2_with fail
  refine (unhide H0 _ (unhide HR)).mono ?_
  rintro z w1 ⟨rfl, hb⟩
  replace HB := hide (below_via (unhide HB) hb)
  replace HL := hide ((unhide HL).keep hb)
  clear hb HR H0
  have c1 := (unhide HL).c1
  go_wp2_with fail
  refine (unhide H1 _).mono ?_
  rintro z w2 ⟨rfl, rfl⟩
  go_wp2_with fail
  go_ret
  exact ⟨rfl, unhide HB⟩
theorem asks_d (L : Ln) (a : Option Addr) (n c : Nat) (l : List Int) (k p lo : Int) (w : World) (hR : Row w (.slice a n c) l) (t0 : rightB L l = true) (t1 : inB lo p 10000000000000 = true) (t2 : (L.st != k) = false) : Calls (Tri Try.prog) 79 #[.agg #[.int .i64 L.id, .int .i64 L.st, .int .i64 L.be, .int .i64 L.out, .int .i64 L.rt, .int .i64 L.gr, .int .i64 L.due, .int .i64 L.inc, .int .i64 L.got, .int .i64 L.adj, .int .i64 L.wri, .int .i64 L.rcv, .slice a n c], .int .i64 k, .int .i64 p, .int .i64 lo] w fun z w' => z = .returned (.int .i64 0) ∧ Below w.heap.size w w' := by
  have HR := hide (hR.alloc (.cells #[.int .i64 L.id, .int .i64 L.st, .int .i64 L.be, .int .i64 L.out, .int .i64 L.rt, .int .i64 L.gr, .int .i64 L.due, .int .i64 L.inc, .int .i64 L.got, .int .i64 L.adj, .int .i64 L.wri, .int .i64 L.rcv, .slice a n c] 62))
  have HL := hide (LB.new w 62 L (.slice a n c))
  have HB := hide (below1L w (.cells #[.int .i64 L.id, .int .i64 L.st, .int .i64 L.be, .int .i64 L.out, .int .i64 L.rt, .int .i64 L.gr, .int .i64 L.due, .int .i64 L.inc, .int .i64 L.got, .int .i64 L.adj, .int .i64 L.wri, .int .i64 L.rcv, .slice a n c] 62))
  have H0 : Hid (∀ w1, Row w1 (.slice a n c) l → Tells 33 w1 #[.agg #[.int .i64 L.id, .int .i64 L.st, .int .i64 L.be, .int .i64 L.out, .int .i64 L.rt, .int .i64 L.gr, .int .i64 L.due, .int .i64 L.inc, .int .i64 L.got, .int .i64 L.adj, .int .i64 L.wri, .int .i64 L.rcv, .slice a n c]] true) := hide (fun w1 h => t0 ▸ right_any L a n c l w1 h)
  unfold Tells at H0
  have H1 := hide (within_is t1)
  clear hR t0 t1
  go_enter (Tri.at (by decide) Try.func79), Try.ntmps79
  go_wp2_with fail
  refine (unhide H0 _ (unhide HR)).mono ?_
  rintro z w1 ⟨rfl, hb⟩
  replace HB := hide (below_via (unhide HB) hb)
  replace HL := hide ((unhide HL).keep hb)
  clear hb HR H0
  have c1 := (unhide HL).c1
  go_wp2_with fail
  refine (unhide H1 _).mono ?_
  rintro z w2 ⟨rfl, rfl⟩
  go_wp2_with fail
  go_ret
  exact ⟨rfl, unhide HB⟩
theorem asks_any (L : Ln) (a : Option Addr) (n c : Nat) (l : List Int) (k p lo : Int) (w : World) (hR : Row w (.slice a n c) l) : Calls (Tri Try.prog) 79 #[.agg #[.int .i64 L.id, .int .i64 L.st, .int .i64 L.be, .int .i64 L.out, .int .i64 L.rt, .int .i64 L.gr, .int .i64 L.due, .int .i64 L.inc, .int .i64 L.got, .int .i64 L.adj, .int .i64 L.wri, .int .i64 L.rcv, .slice a n c], .int .i64 k, .int .i64 p, .int .i64 lo] w fun z w' => z = .returned (.int .i64 (asksE L l k p lo)) ∧ Below w.heap.size w w' := by
  unfold asksE
  by_cases t0 : rightB L l = true
  case neg =>
    replace t0 := Bool.eq_false_iff.2 t0
    rw [t0, Bool.false_and]
    exact asks_a L a n c l k p lo w hR t0
  rw [t0, Bool.true_and]
  by_cases t1 : inB lo p 10000000000000 = true
  case neg =>
    replace t1 := Bool.eq_false_iff.2 t1
    rw [t1]
    exact asks_b L a n c l k p lo w hR t0 t1
  rw [t1]
  by_cases t2 : L.st = k
  · rw [if_pos rfl, if_pos t2]
    exact asks_d L a n c l k p lo w hR t0 t1 (by simpa using t2)
  · rw [if_pos rfl, if_neg t2]
    exact asks_c L a n c l k p lo w hR t0 t1 (by simpa using t2)
end Go.Proofs.Ytlaaomhcilnbkaa.Mn
