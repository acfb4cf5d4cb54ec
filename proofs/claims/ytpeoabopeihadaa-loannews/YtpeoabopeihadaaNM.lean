/- What is paid, received. -/
import Derived.Test.YtpeoabopeihadaaNL
set_option linter.unusedVariables false
set_option linter.unusedSimpArgs false
set_option linter.unusedSectionVars false
set_option maxHeartbeats 2000000
namespace Go.Proofs.Ytpeoabopeihadaa.Mn
open Go.RowKit
attribute [local simp] Tri.typeInfo Tri.sizeOf Tri.underlying Tri.runUnderlying Tri.isAgg Tri.zeroValue Tri.depth Tri.stoodInHeld Tri.eqGuardType Tri.call15 Tri.call16 Tri.call26 Tri.call27 Tri.call28 Tri.call29 Tri.call30 Tri.call31 Tri.call46 Tri.call49 Tri.call50 Tri.call51 Tri.call52 Tri.call53 Tri.call54 Tri.call65 Tri.call66 Tri.call68 Tri.call69 Tri.call70 Tri.call71 Tri.call72 Tri.call73 Tri.call74 Tri.call75 Tri.call82 Tri.call84 Tri.call85 Tri.call86 Tri.call95 Tri.call101 Tri.call106 Tri.call107 Tri.call116 Tri.call117 Tri.call118 Tri.call119 Tri.call120 Tri.call122 Tri.call123 Tri.call124 Tri.call125 Tri.call126 Tri.call135 Tri.call137 Tri.call143 Tri.call144 Tri.call145 Tri.call146 Tri.call147 Tri.call149 Tri.call150 Tri.call151 Tri.call152 Tri.call156 Tri.call157 Tri.call159 Tri.call160 Tri.call161 Tri.call162 Tri.call163 Tri.call164 Tri.call165 Tri.call166 Tri.call167 Tri.call175 Tri.call176 Tri.call178 Tri.call179 Tri.call180 Tri.call181 Tri.call182 Tri.call183 Tri.call186 Tri.call187 Tri.call188 Tri.call205
theorem recv_z (L : Ln) (a : Option Addr) (n c : Nat) (paid earned : Int) (w : World) (bgr1 : -4503599627370496 ≤ L.gr) (bgr2 : L.gr ≤ 4503599627370496) (bdue1 : -4503599627370496 ≤ L.due) (bdue2 : L.due ≤ 4503599627370496) (binc1 : -4503599627370496 ≤ L.inc) (binc2 : L.inc ≤ 4503599627370496) (bgot1 : -4503599627370496 ≤ L.got) (bgot2 : L.got ≤ 4503599627370496) (p1 : 0 ≤ paid) (p2 : paid ≤ 10000000000000) (e1 : -1152921504606846976 ≤ earned) (e2 : earned ≤ 1152921504606846976) (d0 : ((n : Int) == 0) = false) (d1 : decide (L.due - paid ≤ 0) = true) : Calls (Tri Try.prog) 101 #[.agg (lnA L (.slice a n c)), .int .i64 paid, .int .i64 earned] w fun z w' => z = .returned (.tuple #[.agg (lnB L.id L.st 0 L.out L.rt (L.gr + (earned - paid)) (L.due - paid) (L.inc + earned) (L.got + paid) L.adj L.wri L.rcv (.slice a n c)), .agg #[.int .i64 earned, .int .i64 paid, .int .i64 0, .int .i64 0]]) ∧ Below w.heap.size w w' := by
 go_enter (Tri.at (by decide) Try.func101), Try.ntmps101
 go_wp2_with fail
 refine bodyPost_ret (v := .tuple #[.agg (lnB L.id L.st 0 L.out L.rt (L.gr + (earned - paid)) (L.due - paid) (L.inc + earned) (L.got + paid) L.adj L.wri L.rcv (.slice a n c)), .agg #[.int .i64 earned, .int .i64 paid, .int .i64 0, .int .i64 0]]) (by simp [results, Try.results101, go_sem]) rfl ⟨rfl, ?_⟩
 exact ((below1L w _).alloc (by simp) _).alloc (by simp; omega) _
theorem recv_k (L : Ln) (a : Option Addr) (n c : Nat) (paid earned : Int) (w : World) (bgr1 : -4503599627370496 ≤ L.gr) (bgr2 : L.gr ≤ 4503599627370496) (bdue1 : -4503599627370496 ≤ L.due) (bdue2 : L.due ≤ 4503599627370496) (binc1 : -4503599627370496 ≤ L.inc) (binc2 : L.inc ≤ 4503599627370496) (bgot1 : -4503599627370496 ≤ L.got) (bgot2 : L.got ≤ 4503599627370496) (p1 : 0 ≤ paid) (p2 : paid ≤ 10000000000000) (e1 : -1152921504606846976 ≤ earned) (e2 : earned ≤ 1152921504606846976) (d0 : ((n : Int) == 0) = false) (d1 : decide (L.due - paid ≤ 0) = false) : Calls (Tri Try.prog) 101 #[.agg (lnA L (.slice a n c)), .int .i64 paid, .int .i64 earned] w fun z w' => z = .returned (.tuple #[.agg (lnB L.id L.st L.be L.out L.rt (L.gr + (earned - paid)) (L.due - paid) (L.inc + earned) (L.got + paid) L.adj L.wri L.rcv (.slice a n c)), .agg #[.int .i64 earned, .int .i64 paid, .int .i64 0, .int .i64 0]]) ∧ Below w.heap.size w w' := by
 go_enter (Tri.at (by decide) Try.func101), Try.ntmps101
 go_wp2_with fail
 refine bodyPost_ret (v := .tuple #[.agg (lnB L.id L.st L.be L.out L.rt (L.gr + (earned - paid)) (L.due - paid) (L.inc + earned) (L.got + paid) L.adj L.wri L.rcv (.slice a n c)), .agg #[.int .i64 earned, .int .i64 paid, .int .i64 0, .int .i64 0]]) (by simp [results, Try.results101, go_sem]) rfl ⟨rfl, ?_⟩
 exact ((below1L w _).alloc (by simp) _).alloc (by simp; omega) _
theorem recv_l (L : Ln) (a : Option Addr) (n c : Nat) (paid earned : Int) (w : World) (bgr1 : -4503599627370496 ≤ L.gr) (bgr2 : L.gr ≤ 4503599627370496) (bdue1 : -4503599627370496 ≤ L.due) (bdue2 : L.due ≤ 4503599627370496) (binc1 : -4503599627370496 ≤ L.inc) (binc2 : L.inc ≤ 4503599627370496) (bgot1 : -4503599627370496 ≤ L.got) (bgot2 : L.got ≤ 4503599627370496) (p1 : 0 ≤ paid) (p2 : paid ≤ 10000000000000) (e1 : -1152921504606846976 ≤ earned) (e2 : earned ≤ 1152921504606846976) (d0 : ((n : Int) == 0) = true) (d1 : decide (L.due - paid ≤ 0) = false) : Calls (Tri Try.prog) 101 #[.agg (lnA L (.slice a n c)), .int .i64 paid, .int .i64 earned] w fun z w' => z = .returned (.tuple #[.agg (lnB L.id L.st L.be L.out L.rt (L.gr + (earned - paid)) (L.due - paid) (L.inc + earned) (L.got + paid) L.adj L.wri L.rcv (.slice a n c)), .agg #[.int .i64 earned, .int .i64 paid, .int .i64 0, .int .i64 0]]) ∧ Below w.heap.size w w' := by
 go_enter (Tri.at (by decide) Try.func101), Try.ntmps101
 go_wp2_with fail
 refine bodyPost_ret (v := .tuple #[.agg (lnB L.id L.st L.be L.out L.rt (L.gr + (earned - paid)) (L.due - paid) (L.inc + earned) (L.got + paid) L.adj L.wri L.rcv (.slice a n c)), .agg #[.int .i64 earned, .int .i64 paid, .int .i64 0, .int .i64 0]]) (by simp [results, Try.results101, go_sem]) rfl ⟨rfl, ?_⟩
 exact ((below1L w _).alloc (by simp) _).alloc (by simp; omega) _
theorem recv_p (L : Ln) (a : Option Addr) (n c : Nat) (paid earned : Int) (w : World) (bgr1 : -4503599627370496 ≤ L.gr) (bgr2 : L.gr ≤ 4503599627370496) (bdue1 : -4503599627370496 ≤ L.due) (bdue2 : L.due ≤ 4503599627370496) (binc1 : -4503599627370496 ≤ L.inc) (binc2 : L.inc ≤ 4503599627370496) (bgot1 : -4503599627370496 ≤ L.got) (bgot2 : L.got ≤ 4503599627370496) (p1 : 0 ≤ paid) (p2 : paid ≤ 10000000000000) (e1 : -1152921504606846976 ≤ earned) (e2 : earned ≤ 1152921504606846976) (d0 : ((n : Int) == 0) = true) (d1 : decide (L.due - paid ≤ 0) = true) : Calls (Tri Try.prog) 101 #[.agg (lnA L (.slice a n c)), .int .i64 paid, .int .i64 earned] w fun z w' => z = .returned (.tuple #[.agg (lnB L.id 2 0 L.out L.rt (L.gr + (paid - L.gr - paid)) 0 (L.inc + (paid - L.gr)) (L.got + paid) L.adj L.wri L.rcv (.slice none 0 0)), .agg #[.int .i64 (paid - L.gr), .int .i64 paid, .int .i64 0, .int .i64 0]]) ∧ Below w.heap.size w w' := by
 have HE : Hid (∀ w, Calls (Tri Try.prog) 84 #[.agg (lnB L.id L.st L.be L.out L.rt L.gr (L.due - paid) L.inc L.got L.adj L.wri L.rcv (.slice a n c)), .int .i64 2] w fun z w1 => z = .returned (.agg (lnB L.id 2 0 L.out L.rt L.gr 0 L.inc L.got L.adj L.wri L.rcv (.slice none 0 0))) ∧ w1 = (w.alloc (.cells (lnB L.id 2 0 L.out L.rt L.gr 0 L.inc L.got L.adj L.wri L.rcv (.slice none 0 0)) 53)).alloc (.cells (lnB L.id 2 0 L.out L.rt L.gr 0 L.inc L.got L.adj L.wri L.rcv (.slice none 0 0)) 53)) := hide (fun w => ended_any { L with due := L.due - paid } (.slice a n c) 2 w)
 go_enter (Tri.at (by decide) Try.func101), Try.ntmps101
 go_wp2_with fail
 refine (uh HE _).mono ?_
 rintro z w1 ⟨rfl, rfl⟩
 go_wp2_with fail
 refine bodyPost_ret (v := .tuple #[.agg (lnB L.id 2 0 L.out L.rt (L.gr + (paid - L.gr - paid)) 0 (L.inc + (paid - L.gr)) (L.got + paid) L.adj L.wri L.rcv (.slice none 0 0)), .agg #[.int .i64 (paid - L.gr), .int .i64 paid, .int .i64 0, .int .i64 0]]) (by simp [results, Try.results101, go_sem]) rfl ⟨rfl, ?_⟩
 exact ((((below1L w _).alloc (by simp) _).alloc (by simp; omega) _).alloc (by simp; omega) _).alloc (by simp; omega) _
theorem qI_small {x r : Int} (h : May r) (h0 : 0 ≤ x) : -x ≤ qI x r ∧ qI x r ≤ 10 * x := by
 unfold qI
 obtain ⟨h1, h2⟩ := h
 have k1 : x * (-990000000000) ≤ x * r := Int.mul_le_mul_of_nonneg_left h1 h0
 have k2 : x * r ≤ x * 10000000000000 := Int.mul_le_mul_of_nonneg_left h2 h0
 exact ⟨near_ge (by omega) (by omega), near_le (by omega) (by omega)⟩
theorem interest_is {x r : Int} (h : May r) (h0 : 0 ≤ x) (h1 : x ≤ 1125899906842624) : Ans 66 x r (qI x r) 0 := by
 have k := qI_small h h0
 exact in_ok (interest_ok ⟨by omega, by omega⟩ h) ⟨by omega, by omega⟩
theorem inter_any (L : Ln) (a : Option Addr) (n c : Nat) (w : World) (h : May L.rt) (h0 : 0 ≤ L.gr) (h1 : L.gr ≤ 1125899906842624) : Calls (Tri Try.prog) 125 #[.agg (lnA L (.slice a n c))] w fun z w' => z = .returned (.int .i64 (qI L.gr L.rt)) ∧ Below w.heap.size w w' := by
 have H := hide (interest_is h h0 h1)
 unfold Ans at H
 have HB := hide (below1L w (.cells (lnA L (.slice a n c)) 53))
 clear h h0 h1
 go_enter (Tri.at (by decide) Try.func125), Try.ntmps125
 go_wp2_with fail
 refine (uh H _).mono ?_
 rintro z w1 ⟨rfl, hb⟩
 replace HB := hide (below_via (uh HB) hb)
 clear hb
 go_wp2_with fail
 go_ret
 exact ⟨rfl, uh HB⟩
def asksE (L : Ln) (l : List Int) (k p lo : Int) : Int := if rightB L l && inB lo p 10000000000000 then (if L.st = k then 0 else 12) else 2
theorem asks_a (L : Ln) (a : Option Addr) (n c : Nat) (l : List Int) (k p lo : Int) (w : World) (hR : Row w (.slice a n c) l) (t0 : rightB L l = false) : Calls (Tri Try.prog) 82 #[.agg (lnA L (.slice a n c)), .int .i64 k, .int .i64 p, .int .i64 lo] w fun z w' => z = .returned (.int .i64 2) ∧ Below w.heap.size w w' := by
 have HR := hide (hR.alloc (.cells (lnA L (.slice a n c)) 53))
 have HL := hide (LB.new w 53 L (.slice a n c))
 have HB := hide (below1L w (.cells (lnA L (.slice a n c)) 53))
 have H0 : Hid (∀ w1, Row w1 (.slice a n c) l → Tells 31 w1 #[.agg (lnA L (.slice a n c))] false) := hide (fun w1 h => t0 ▸ right_any L a n c l w1 h)
 unfold Tells at H0
 clear hR t0
 go_enter (Tri.at (by decide) Try.func82), Try.ntmps82
 go_wp2_with fail
 refine (uh H0 _ (uh HR)).mono ?_
 rintro z w1 ⟨rfl, hb⟩
 replace HB := hide (below_via (uh HB) hb)
 replace HL := hide ((uh HL).keep hb)
 clear hb HR H0
 have c1 := (uh HL).c1
 go_wp2_with fail
 go_ret
 exact ⟨rfl, uh HB⟩
theorem asks_b (L : Ln) (a : Option Addr) (n c : Nat) (l : List Int) (k p lo : Int) (w : World) (hR : Row w (.slice a n c) l) (t0 : rightB L l = true) (t1 : inB lo p 10000000000000 = false) : Calls (Tri Try.prog) 82 #[.agg (lnA L (.slice a n c)), .int .i64 k, .int .i64 p, .int .i64 lo] w fun z w' => z = .returned (.int .i64 2) ∧ Below w.heap.size w w' := by
 have HR := hide (hR.alloc (.cells (lnA L (.slice a n c)) 53))
 have HL := hide (LB.new w 53 L (.slice a n c))
 have HB := hide (below1L w (.cells (lnA L (.slice a n c)) 53))
 have H0 : Hid (∀ w1, Row w1 (.slice a n c) l → Tells 31 w1 #[.agg (lnA L (.slice a n c))] true) := hide (fun w1 h => t0 ▸ right_any L a n c l w1 h)
 unfold Tells at H0
 have H1 := hide (within_is t1)
 clear hR t0 t1
 go_enter (Tri.at (by decide) Try.func82), Try.ntmps82
 go_wp2_with fail
 refine (uh H0 _ (uh HR)).mono ?_
 rintro z w1 ⟨rfl, hb⟩
 replace HB := hide (below_via (uh HB) hb)
 replace HL := hide ((uh HL).keep hb)
 clear hb HR H0
 have c1 := (uh HL).c1
 go_wp2_with fail
 refine (uh H1 _).mono ?_
 rintro z w2 ⟨rfl, rfl⟩
 go_wp2_with fail
 go_ret
 exact ⟨rfl, uh HB⟩
theorem asks_c (L : Ln) (a : Option Addr) (n c : Nat) (l : List Int) (k p lo : Int) (w : World) (hR : Row w (.slice a n c) l) (t0 : rightB L l = true) (t1 : inB lo p 10000000000000 = true) (t2 : (L.st != k) = true) : Calls (Tri Try.prog) 82 #[.agg (lnA L (.slice a n c)), .int .i64 k, .int .i64 p, .int .i64 lo] w fun z w' => z = .returned (.int .i64 12) ∧ Below w.heap.size w w' := by
 have HR := hide (hR.alloc (.cells (lnA L (.slice a n c)) 53))
 have HL := hide (LB.new w 53 L (.slice a n c))
 have HB := hide (below1L w (.cells (lnA L (.slice a n c)) 53))
 have H0 : Hid (∀ w1, Row w1 (.slice a n c) l → Tells 31 w1 #[.agg (lnA L (.slice a n c))] true) := hide (fun w1 h => t0 ▸ right_any L a n c l w1 h)
 unfold Tells at H0
 have H1 := hide (within_is t1)
 clear hR t0 t1
 go_enter (Tri.at (by decide) Try.func82), Try.ntmps82
 go_wp2_with fail
 refine (uh H0 _ (uh HR)).mono ?_
 rintro z w1 ⟨rfl, hb⟩
 replace HB := hide (below_via (uh HB) hb)
 replace HL := hide ((uh HL).keep hb)
 clear hb HR H0
 have c1 := (uh HL).c1
 go_wp2_with fail
 refine (uh H1 _).mono ?_
 rintro z w2 ⟨rfl, rfl⟩
 go_wp2_with fail
 go_ret
 exact ⟨rfl, uh HB⟩
theorem asks_d (L : Ln) (a : Option Addr) (n c : Nat) (l : List Int) (k p lo : Int) (w : World) (hR : Row w (.slice a n c) l) (t0 : rightB L l = true) (t1 : inB lo p 10000000000000 = true) (t2 : (L.st != k) = false) : Calls (Tri Try.prog) 82 #[.agg (lnA L (.slice a n c)), .int .i64 k, .int .i64 p, .int .i64 lo] w fun z w' => z = .returned (.int .i64 0) ∧ Below w.heap.size w w' := by
 have HR := hide (hR.alloc (.cells (lnA L (.slice a n c)) 53))
 have HL := hide (LB.new w 53 L (.slice a n c))
 have HB := hide (below1L w (.cells (lnA L (.slice a n c)) 53))
 have H0 : Hid (∀ w1, Row w1 (.slice a n c) l → Tells 31 w1 #[.agg (lnA L (.slice a n c))] true) := hide (fun w1 h => t0 ▸ right_any L a n c l w1 h)
 unfold Tells at H0
 have H1 := hide (within_is t1)
 clear hR t0 t1
 go_enter (Tri.at (by decide) Try.func82), Try.ntmps82
 go_wp2_with fail
 refine (uh H0 _ (uh HR)).mono ?_
 rintro z w1 ⟨rfl, hb⟩
 replace HB := hide (below_via (uh HB) hb)
 replace HL := hide ((uh HL).keep hb)
 clear hb HR H0
 have c1 := (uh HL).c1
 go_wp2_with fail
 refine (uh H1 _).mono ?_
 rintro z w2 ⟨rfl, rfl⟩
 go_wp2_with fail
 go_ret
 exact ⟨rfl, uh HB⟩
theorem asks_any (L : Ln) (a : Option Addr) (n c : Nat) (l : List Int) (k p lo : Int) (w : World) (hR : Row w (.slice a n c) l) : Calls (Tri Try.prog) 82 #[.agg (lnA L (.slice a n c)), .int .i64 k, .int .i64 p, .int .i64 lo] w fun z w' => z = .returned (.int .i64 (asksE L l k p lo)) ∧ Below w.heap.size w w' := by
 unfold asksE
 by_cases t0 : rightB L l = true
 case neg =>
  replace t0 := Bool.eq_false_iff.2 t0
  rw [t0, Bool.false_and]
  exact asks_a L a n c l k p lo w hR t0
 rw [t0, Bool.true_and]
 by_cases t1 : inB lo p 10000000000000 = true
 case neg =>
  replace t1 := Bool.eq_false_iff.2 t1
  rw [t1]
  exact asks_b L a n c l k p lo w hR t0 t1
 rw [t1]
 by_cases t2 : L.st = k
 ·rw [if_pos rfl, if_pos t2]
  exact asks_d L a n c l k p lo w hR t0 t1 (by simpa using t2)
 ·rw [if_pos rfl, if_neg t2]
  exact asks_c L a n c l k p lo w hR t0 t1 (by simpa using t2)
theorem settle_a (L : Ln) (a : Option Addr) (n c : Nat) (l : List Int) (w : World) (hR : Row w (.slice a n c) l) (g : decide (L.gr < 0) = true) : Calls (Tri Try.prog) 85 #[.agg (lnA L (.slice a n c))] w fun z w' => z = .returned (.tuple #[.agg lnZ, .int .i64 2]) ∧ Below w.heap.size w w' := by
 go_enter (Tri.at (by decide) Try.func85), Try.ntmps85
 go_wp2_with fail
 exact bodyPost_ret (v := .tuple #[.agg lnZ, .int .i64 2]) (by simp [results, Try.results85, go_sem]) rfl ⟨rfl, (below1L w _).alloc (by simp) _⟩
theorem settle_b (L : Ln) (a : Option Addr) (n c : Nat) (l : List Int) (w : World) (hR : Row w (.slice a n c) l) (g : decide (L.gr < 0) = false) (t0 : rightB L l = false) : Calls (Tri Try.prog) 85 #[.agg (lnA L (.slice a n c))] w fun z w' => z = .returned (.tuple #[.agg lnZ, .int .i64 3]) ∧ Below w.heap.size w w' := by
 have HR : Hid (Row ((w.alloc (.cells (lnA L (.slice a n c)) 53)).alloc (.cells lnZ 53)) (.slice a n c) l) := hide ((hR.alloc _).alloc _)
 have HL : Hid (LB ((w.alloc (.cells (lnA L (.slice a n c)) 53)).alloc (.cells lnZ 53)) w.heap.size 53 L (.slice a n c)) := hide ((LB.new w 53 L (.slice a n c)).alloc _)
 have HZ : Hid (Blk ((w.alloc (.cells (lnA L (.slice a n c)) 53)).alloc (.cells lnZ 53)) (w.heap.size + 1) lnZ 53) := hide (by have h := Blk.new (w.alloc (.cells (lnA L (.slice a n c)) 53)) lnZ 53; simpa using h)
 have HB : Hid (Below w.heap.size w ((w.alloc (.cells (lnA L (.slice a n c)) 53)).alloc (.cells lnZ 53))) := hide ((below1L w _).alloc (by simp) _)
 have H0 : Hid (∀ w1, Row w1 (.slice a n c) l → Tells 31 w1 #[.agg (lnA L (.slice a n c))] false) := hide (fun w1 h => t0 ▸ right_any L a n c l w1 h)
 unfold Tells at H0
 clear hR t0
 go_enter (Tri.at (by decide) Try.func85), Try.ntmps85
 go_wp2_with fail
 refine (uh H0 _ (uh HR)).mono ?_
 rintro z w1 ⟨rfl, hb⟩
 replace HB := hide (below_via (uh HB) hb)
 replace HL := hide ((uh HL).keep hb)
 replace HZ := hide ((uh HZ).keep hb)
 replace HR := hide ((uh HR).below hb (Nat.le_refl _))
 clear hb H0
 have z0 := (uh HZ).at 0 (.int .i64 0) rfl
 have f0 := (uh HZ).fz 0
 have z1 := (uh HZ).at 1 (.int .i64 0) rfl
 have f1 := (uh HZ).fz 1
 have z2 := (uh HZ).at 2 (.int .i64 0) rfl
 have f2 := (uh HZ).fz 2
 have z3 := (uh HZ).at 3 (.int .i64 0) rfl
 have f3 := (uh HZ).fz 3
 have z4 := (uh HZ).at 4 (.int .i64 0) rfl
 have f4 := (uh HZ).fz 4
 have z5 := (uh HZ).at 5 (.int .i64 0) rfl
 have f5 := (uh HZ).fz 5
 have z6 := (uh HZ).at 6 (.int .i64 0) rfl
 have f6 := (uh HZ).fz 6
 have z7 := (uh HZ).at 7 (.int .i64 0) rfl
 have f7 := (uh HZ).fz 7
 have z8 := (uh HZ).at 8 (.int .i64 0) rfl
 have f8 := (uh HZ).fz 8
 have z9 := (uh HZ).at 9 (.int .i64 0) rfl
 have f9 := (uh HZ).fz 9
 have z10 := (uh HZ).at 10 (.int .i64 0) rfl
 have f10 := (uh HZ).fz 10
 have z11 := (uh HZ).at 11 (.int .i64 0) rfl
 have f11 := (uh HZ).fz 11
 have z12 := (uh HZ).at 12 (.slice none 0 0) rfl
 have f12 := (uh HZ).fz 12
 go_wp2_with fail
 clear z0 f0 z1 f1 z2 f2 z3 f3 z4 f4 z5 f5 z6 f6 z7 f7 z8 f8 z9 f9 z10 f10 z11 f11 z12 f12
 have k2 : Blk ((((((((((((((((((((((((((w1).setCell ⟨w.heap.size + 1, 0, none⟩ (.int .i64 0))).setCell ⟨w.heap.size + 1, 1, none⟩ (.int .i64 0))).setCell ⟨w.heap.size + 1, 2, none⟩ (.int .i64 0))).setCell ⟨w.heap.size + 1, 3, none⟩ (.int .i64 0))).setCell ⟨w.heap.size + 1, 4, none⟩ (.int .i64 0))).setCell ⟨w.heap.size + 1, 5, none⟩ (.int .i64 0))).setCell ⟨w.heap.size + 1, 6, none⟩ (.int .i64 0))).setCell ⟨w.heap.size + 1, 7, none⟩ (.int .i64 0))).setCell ⟨w.heap.size + 1, 8, none⟩ (.int .i64 0))).setCell ⟨w.heap.size + 1, 9, none⟩ (.int .i64 0))).setCell ⟨w.heap.size + 1, 10, none⟩ (.int .i64 0))).setCell ⟨w.heap.size + 1, 11, none⟩ (.int .i64 0))).setCell ⟨w.heap.size + 1, 12, none⟩ (.slice none 0 0)) (w.heap.size + 1) lnZ 53 := (uh HZ).wrL (.int .i64 0) (.int .i64 0) (.int .i64 0) (.int .i64 0) (.int .i64 0) (.int .i64 0) (.int .i64 0) (.int .i64 0) (.int .i64 0) (.int .i64 0) (.int .i64 0) (.int .i64 0) (.slice none 0 0)
 have k4 : Below w.heap.size w ((((((((((((((((((((((((((w1).setCell ⟨w.heap.size + 1, 0, none⟩ (.int .i64 0))).setCell ⟨w.heap.size + 1, 1, none⟩ (.int .i64 0))).setCell ⟨w.heap.size + 1, 2, none⟩ (.int .i64 0))).setCell ⟨w.heap.size + 1, 3, none⟩ (.int .i64 0))).setCell ⟨w.heap.size + 1, 4, none⟩ (.int .i64 0))).setCell ⟨w.heap.size + 1, 5, none⟩ (.int .i64 0))).setCell ⟨w.heap.size + 1, 6, none⟩ (.int .i64 0))).setCell ⟨w.heap.size + 1, 7, none⟩ (.int .i64 0))).setCell ⟨w.heap.size + 1, 8, none⟩ (.int .i64 0))).setCell ⟨w.heap.size + 1, 9, none⟩ (.int .i64 0))).setCell ⟨w.heap.size + 1, 10, none⟩ (.int .i64 0))).setCell ⟨w.heap.size + 1, 11, none⟩ (.int .i64 0))).setCell ⟨w.heap.size + 1, 12, none⟩ (.slice none 0 0)) := below_putL (uh HB) (by omega) (.int .i64 0) (.int .i64 0) (.int .i64 0) (.int .i64 0) (.int .i64 0) (.int .i64 0) (.int .i64 0) (.int .i64 0) (.int .i64 0) (.int .i64 0) (.int .i64 0) (.int .i64 0) (.slice none 0 0)
 generalize (((((((((((((((((((((((((w1).setCell ⟨w.heap.size + 1, 0, none⟩ (.int .i64 0))).setCell ⟨w.heap.size + 1, 1, none⟩ (.int .i64 0))).setCell ⟨w.heap.size + 1, 2, none⟩ (.int .i64 0))).setCell ⟨w.heap.size + 1, 3, none⟩ (.int .i64 0))).setCell ⟨w.heap.size + 1, 4, none⟩ (.int .i64 0))).setCell ⟨w.heap.size + 1, 5, none⟩ (.int .i64 0))).setCell ⟨w.heap.size + 1, 6, none⟩ (.int .i64 0))).setCell ⟨w.heap.size + 1, 7, none⟩ (.int .i64 0))).setCell ⟨w.heap.size + 1, 8, none⟩ (.int .i64 0))).setCell ⟨w.heap.size + 1, 9, none⟩ (.int .i64 0))).setCell ⟨w.heap.size + 1, 10, none⟩ (.int .i64 0))).setCell ⟨w.heap.size + 1, 11, none⟩ (.int .i64 0))).setCell ⟨w.heap.size + 1, 12, none⟩ (.slice none 0 0) = W at *
 have p0 := k2.at 0 (.int .i64 0) rfl
 have p1 := k2.at 1 (.int .i64 0) rfl
 have p2 := k2.at 2 (.int .i64 0) rfl
 have p3 := k2.at 3 (.int .i64 0) rfl
 have p4 := k2.at 4 (.int .i64 0) rfl
 have p5 := k2.at 5 (.int .i64 0) rfl
 have p6 := k2.at 6 (.int .i64 0) rfl
 have p7 := k2.at 7 (.int .i64 0) rfl
 have p8 := k2.at 8 (.int .i64 0) rfl
 have p9 := k2.at 9 (.int .i64 0) rfl
 have p10 := k2.at 10 (.int .i64 0) rfl
 have p11 := k2.at 11 (.int .i64 0) rfl
 have p12 := k2.at 12 (.slice none 0 0) rfl
 exact bodyPost_ret (v := .tuple #[.agg lnZ, .int .i64 3]) (by simp [results, Try.results85, go_sem, p0, p1, p2, p3, p4, p5, p6, p7, p8, p9, p10, p11, p12]) rfl ⟨rfl, k4⟩
theorem settle_c (L : Ln) (a : Option Addr) (n c : Nat) (l : List Int) (w : World) (hR : Row w (.slice a n c) l) (hS : Sl a n c) (hl : l.length ≤ 17592186044000) (g : decide (L.gr < 0) = false) (t0 : rightB L l = true) : Calls (Tri Try.prog) 85 #[.agg (lnA L (.slice a n c))] w fun z w' => ∃ a' c', z = .returned (.tuple #[.agg (lnA L (.slice a' l.length c')), .int .i64 0]) ∧ Row w' (.slice a' l.length c') l ∧ Sl a' l.length c' ∧ (∀ x, a' = some x → w.heap.size ≤ x.block) ∧ Below w.heap.size w w' := by
 have HR : Hid (Row ((w.alloc (.cells (lnA L (.slice a n c)) 53)).alloc (.cells lnZ 53)) (.slice a n c) l) := hide ((hR.alloc _).alloc _)
 have HL : Hid (LB ((w.alloc (.cells (lnA L (.slice a n c)) 53)).alloc (.cells lnZ 53)) w.heap.size 53 L (.slice a n c)) := hide ((LB.new w 53 L (.slice a n c)).alloc _)
 have HZ : Hid (Blk ((w.alloc (.cells (lnA L (.slice a n c)) 53)).alloc (.cells lnZ 53)) (w.heap.size + 1) lnZ 53) := hide (by have h := Blk.new (w.alloc (.cells (lnA L (.slice a n c)) 53)) lnZ 53; simpa using h)
 have HB : Hid (Below w.heap.size w ((w.alloc (.cells (lnA L (.slice a n c)) 53)).alloc (.cells lnZ 53))) := hide ((below1L w _).alloc (by simp) _)
 have HS := hide hS
 have HN := hide hl
 clear hS hl
 have H0 : Hid (∀ w1, Row w1 (.slice a n c) l → Tells 31 w1 #[.agg (lnA L (.slice a n c))] true) := hide (fun w1 h => t0 ▸ right_any L a n c l w1 h)
 unfold Tells at H0
 clear hR t0
 go_enter (Tri.at (by decide) Try.func85), Try.ntmps85
 go_wp2_with fail
 refine (uh H0 _ (uh HR)).mono ?_
 rintro z w1 ⟨rfl, hb⟩
 replace HB := hide (below_via (uh HB) hb)
 replace HL := hide ((uh HL).keep hb)
 replace HZ := hide ((uh HZ).keep hb)
 replace HR := hide ((uh HR).below hb (Nat.le_refl _))
 clear hb H0
 have c12 := (uh HL).c12
 go_wp2_with fail
 refine (copied_any (uh HR) (uh HS) (uh HN)).mono ?_
 rintro z w2 ⟨a', c', rfl, hr, hs, hf, hb⟩
 replace HB := hide (below_via (uh HB) hb)
 have HF : Hid (∀ x, a' = some x → w.heap.size + 1 < x.block) := hide (fun x hx => Nat.lt_of_lt_of_le (uh HZ).lt (hf x hx))
 replace HL := hide ((uh HL).keep hb)
 replace HZ := hide ((uh HZ).keep hb)
 replace HR := hide hr
 replace HS := hide hs
 clear hb hr hs hf c12
 have c0 := (uh HL).c0
 have c1 := (uh HL).c1
 have c2 := (uh HL).c2
 have c3 := (uh HL).c3
 have c4 := (uh HL).c4
 have c5 := (uh HL).c5
 have c6 := (uh HL).c6
 have c7 := (uh HL).c7
 have c8 := (uh HL).c8
 have c9 := (uh HL).c9
 have c10 := (uh HL).c10
 have c11 := (uh HL).c11
 have c12 := (uh HL).c12
 have cf := frozen_of_row w2 w.heap.size 12 _ _ (uh HL)
 have z0 := (uh HZ).at 0 (.int .i64 0) rfl
 have f0 := (uh HZ).fz 0
 have z1 := (uh HZ).at 1 (.int .i64 0) rfl
 have f1 := (uh HZ).fz 1
 have z2 := (uh HZ).at 2 (.int .i64 0) rfl
 have f2 := (uh HZ).fz 2
 have z3 := (uh HZ).at 3 (.int .i64 0) rfl
 have f3 := (uh HZ).fz 3
 have z4 := (uh HZ).at 4 (.int .i64 0) rfl
 have f4 := (uh HZ).fz 4
 have z5 := (uh HZ).at 5 (.int .i64 0) rfl
 have f5 := (uh HZ).fz 5
 have z6 := (uh HZ).at 6 (.int .i64 0) rfl
 have f6 := (uh HZ).fz 6
 have z7 := (uh HZ).at 7 (.int .i64 0) rfl
 have f7 := (uh HZ).fz 7
 have z8 := (uh HZ).at 8 (.int .i64 0) rfl
 have f8 := (uh HZ).fz 8
 have z9 := (uh HZ).at 9 (.int .i64 0) rfl
 have f9 := (uh HZ).fz 9
 have z10 := (uh HZ).at 10 (.int .i64 0) rfl
 have f10 := (uh HZ).fz 10
 have z11 := (uh HZ).at 11 (.int .i64 0) rfl
 have f11 := (uh HZ).fz 11
 have z12 := (uh HZ).at 12 (.slice none 0 0) rfl
 have f12 := (uh HZ).fz 12
 have ne1 : ¬ w.heap.size = w.heap.size + 1 := by omega
 have ne2 : ¬ w.heap.size + 1 = w.heap.size := by omega
 go_wp2_with fail
 clear z0 f0 c0 z1 f1 c1 z2 f2 c2 z3 f3 c3 z4 f4 c4 z5 f5 c5 z6 f6 c6 z7 f7 c7 z8 f8 c8 z9 f9 c9 z10 f10 c10 z11 f11 c11 z12 f12 c12 cf
 have k2 : Blk ((((((((((((((((((((((((((w2.setCell ⟨w.heap.size, 12, none⟩ (.slice a' l.length c')).setCell ⟨w.heap.size + 1, 0, none⟩ (.int .i64 L.id))).setCell ⟨w.heap.size + 1, 1, none⟩ (.int .i64 L.st))).setCell ⟨w.heap.size + 1, 2, none⟩ (.int .i64 L.be))).setCell ⟨w.heap.size + 1, 3, none⟩ (.int .i64 L.out))).setCell ⟨w.heap.size + 1, 4, none⟩ (.int .i64 L.rt))).setCell ⟨w.heap.size + 1, 5, none⟩ (.int .i64 L.gr))).setCell ⟨w.heap.size + 1, 6, none⟩ (.int .i64 L.due))).setCell ⟨w.heap.size + 1, 7, none⟩ (.int .i64 L.inc))).setCell ⟨w.heap.size + 1, 8, none⟩ (.int .i64 L.got))).setCell ⟨w.heap.size + 1, 9, none⟩ (.int .i64 L.adj))).setCell ⟨w.heap.size + 1, 10, none⟩ (.int .i64 L.wri))).setCell ⟨w.heap.size + 1, 11, none⟩ (.int .i64 L.rcv))).setCell ⟨w.heap.size + 1, 12, none⟩ (.slice a' l.length c')) (w.heap.size + 1) (lnA L (.slice a' l.length c')) 53 := ((uh HZ).other (by omega) 12 _).wrL (.int .i64 L.id) (.int .i64 L.st) (.int .i64 L.be) (.int .i64 L.out) (.int .i64 L.rt) (.int .i64 L.gr) (.int .i64 L.due) (.int .i64 L.inc) (.int .i64 L.got) (.int .i64 L.adj) (.int .i64 L.wri) (.int .i64 L.rcv) (.slice a' l.length c')
 have k4 : Below w.heap.size w ((((((((((((((((((((((((((w2.setCell ⟨w.heap.size, 12, none⟩ (.slice a' l.length c')).setCell ⟨w.heap.size + 1, 0, none⟩ (.int .i64 L.id))).setCell ⟨w.heap.size + 1, 1, none⟩ (.int .i64 L.st))).setCell ⟨w.heap.size + 1, 2, none⟩ (.int .i64 L.be))).setCell ⟨w.heap.size + 1, 3, none⟩ (.int .i64 L.out))).setCell ⟨w.heap.size + 1, 4, none⟩ (.int .i64 L.rt))).setCell ⟨w.heap.size + 1, 5, none⟩ (.int .i64 L.gr))).setCell ⟨w.heap.size + 1, 6, none⟩ (.int .i64 L.due))).setCell ⟨w.heap.size + 1, 7, none⟩ (.int .i64 L.inc))).setCell ⟨w.heap.size + 1, 8, none⟩ (.int .i64 L.got))).setCell ⟨w.heap.size + 1, 9, none⟩ (.int .i64 L.adj))).setCell ⟨w.heap.size + 1, 10, none⟩ (.int .i64 L.wri))).setCell ⟨w.heap.size + 1, 11, none⟩ (.int .i64 L.rcv))).setCell ⟨w.heap.size + 1, 12, none⟩ (.slice a' l.length c')) := below_putL ((uh HB).setCell (by simp) _) (by omega) (.int .i64 L.id) (.int .i64 L.st) (.int .i64 L.be) (.int .i64 L.out) (.int .i64 L.rt) (.int .i64 L.gr) (.int .i64 L.due) (.int .i64 L.inc) (.int .i64 L.got) (.int .i64 L.adj) (.int .i64 L.wri) (.int .i64 L.rcv) (.slice a' l.length c')
 have k5 : Row ((((((((((((((((((((((((((w2.setCell ⟨w.heap.size, 12, none⟩ (.slice a' l.length c')).setCell ⟨w.heap.size + 1, 0, none⟩ (.int .i64 L.id))).setCell ⟨w.heap.size + 1, 1, none⟩ (.int .i64 L.st))).setCell ⟨w.heap.size + 1, 2, none⟩ (.int .i64 L.be))).setCell ⟨w.heap.size + 1, 3, none⟩ (.int .i64 L.out))).setCell ⟨w.heap.size + 1, 4, none⟩ (.int .i64 L.rt))).setCell ⟨w.heap.size + 1, 5, none⟩ (.int .i64 L.gr))).setCell ⟨w.heap.size + 1, 6, none⟩ (.int .i64 L.due))).setCell ⟨w.heap.size + 1, 7, none⟩ (.int .i64 L.inc))).setCell ⟨w.heap.size + 1, 8, none⟩ (.int .i64 L.got))).setCell ⟨w.heap.size + 1, 9, none⟩ (.int .i64 L.adj))).setCell ⟨w.heap.size + 1, 10, none⟩ (.int .i64 L.wri))).setCell ⟨w.heap.size + 1, 11, none⟩ (.int .i64 L.rcv))).setCell ⟨w.heap.size + 1, 12, none⟩ (.slice a' l.length c')) (.slice a' l.length c') l := Row.offL ((uh HR).off (fun x hx => by have := uh HF x hx; omega)) (fun x hx => by have := uh HF x hx; omega) (.int .i64 L.id) (.int .i64 L.st) (.int .i64 L.be) (.int .i64 L.out) (.int .i64 L.rt) (.int .i64 L.gr) (.int .i64 L.due) (.int .i64 L.inc) (.int .i64 L.got) (.int .i64 L.adj) (.int .i64 L.wri) (.int .i64 L.rcv) (.slice a' l.length c')
 have k6 : ∀ x, a' = some x → w.heap.size ≤ x.block := fun x hx => by have := uh HF x hx; omega
 have k7 := uh HS
 generalize (((((((((((((((((((((((((w2.setCell ⟨w.heap.size, 12, none⟩ (.slice a' l.length c')).setCell ⟨w.heap.size + 1, 0, none⟩ (.int .i64 L.id))).setCell ⟨w.heap.size + 1, 1, none⟩ (.int .i64 L.st))).setCell ⟨w.heap.size + 1, 2, none⟩ (.int .i64 L.be))).setCell ⟨w.heap.size + 1, 3, none⟩ (.int .i64 L.out))).setCell ⟨w.heap.size + 1, 4, none⟩ (.int .i64 L.rt))).setCell ⟨w.heap.size + 1, 5, none⟩ (.int .i64 L.gr))).setCell ⟨w.heap.size + 1, 6, none⟩ (.int .i64 L.due))).setCell ⟨w.heap.size + 1, 7, none⟩ (.int .i64 L.inc))).setCell ⟨w.heap.size + 1, 8, none⟩ (.int .i64 L.got))).setCell ⟨w.heap.size + 1, 9, none⟩ (.int .i64 L.adj))).setCell ⟨w.heap.size + 1, 10, none⟩ (.int .i64 L.wri))).setCell ⟨w.heap.size + 1, 11, none⟩ (.int .i64 L.rcv))).setCell ⟨w.heap.size + 1, 12, none⟩ (.slice a' l.length c') = W at *
 have p0 := k2.at 0 (.int .i64 L.id) rfl
 have p1 := k2.at 1 (.int .i64 L.st) rfl
 have p2 := k2.at 2 (.int .i64 L.be) rfl
 have p3 := k2.at 3 (.int .i64 L.out) rfl
 have p4 := k2.at 4 (.int .i64 L.rt) rfl
 have p5 := k2.at 5 (.int .i64 L.gr) rfl
 have p6 := k2.at 6 (.int .i64 L.due) rfl
 have p7 := k2.at 7 (.int .i64 L.inc) rfl
 have p8 := k2.at 8 (.int .i64 L.got) rfl
 have p9 := k2.at 9 (.int .i64 L.adj) rfl
 have p10 := k2.at 10 (.int .i64 L.wri) rfl
 have p11 := k2.at 11 (.int .i64 L.rcv) rfl
 have p12 := k2.at 12 (.slice a' l.length c') rfl
 exact bodyPost_ret (v := .tuple #[.agg (lnA L (.slice a' l.length c')), .int .i64 0]) (by simp [results, Try.results85, go_sem, p0, p1, p2, p3, p4, p5, p6, p7, p8, p9, p10, p11, p12]) rfl ⟨a', c', rfl, k5, k7, k6, k4⟩
def chk1 (L : Ln) (l : List Int) (p : Int) : Int := if asksE L l 1 p 0 = 0 then (if l.length = 0 then 12 else 0) else asksE L l 1 p 0
theorem chk_78a (L : Ln) (a : Option Addr) (n c pb : Nat) (l : List Int) (p E : Int) (w : World) (hR : Row w (.slice a n c) l) (hp : w.cell? ⟨pb, 0, none⟩ = some (.int .i64 p)) (hE : asksE L l 1 p 0 = E) (t0 : (E != 0) = true) : Calls (Tri Try.prog) 123 #[.agg (lnA L (.slice a n c)), .pointer (some ⟨pb, 0, none⟩)] w fun z w' => z = .returned (.int .i64 E) ∧ Below w.heap.size w w' := by
 have lt := lt_of_cell hp
 have n0 : ¬ pb = w.heap.size := by omega
 have HB := hide (below1L w (.cells (lnA L (.slice a n c)) 53))
 have HL := hide (LB.new w 53 L (.slice a n c))
 have HA := hide (asks_any L a n c l 1 p 0 _ (hR.alloc (.cells (lnA L (.slice a n c)) 53)))
 rw [hE] at HA
 clear hR hE
 go_enter (Tri.at (by decide) Try.func123), Try.ntmps123
 go_wp2_with fail
 refine (uh HA).mono ?_
 rintro z w1 ⟨rfl, hb⟩
 replace HB := hide (below_via (uh HB) hb)
 replace HL := hide ((uh HL).keep hb)
 have c12 := (uh HL).c12
 clear hb HA
 go_wp2_with fail
 go_ret
 exact ⟨rfl, uh HB⟩
theorem chk_78b (L : Ln) (a : Option Addr) (n c pb : Nat) (l : List Int) (p E : Int) (w : World) (hR : Row w (.slice a n c) l) (hp : w.cell? ⟨pb, 0, none⟩ = some (.int .i64 p)) (hE : asksE L l 1 p 0 = E) (t0 : (E != 0) = false) (t1 : ((n : Int) == 0) = true) : Calls (Tri Try.prog) 123 #[.agg (lnA L (.slice a n c)), .pointer (some ⟨pb, 0, none⟩)] w fun z w' => z = .returned (.int .i64 12) ∧ Below w.heap.size w w' := by
 have lt := lt_of_cell hp
 have n0 : ¬ pb = w.heap.size := by omega
 have HB := hide (below1L w (.cells (lnA L (.slice a n c)) 53))
 have HL := hide (LB.new w 53 L (.slice a n c))
 have HA := hide (asks_any L a n c l 1 p 0 _ (hR.alloc (.cells (lnA L (.slice a n c)) 53)))
 rw [hE] at HA
 clear hR hE
 go_enter (Tri.at (by decide) Try.func123), Try.ntmps123
 go_wp2_with fail
 refine (uh HA).mono ?_
 rintro z w1 ⟨rfl, hb⟩
 replace HB := hide (below_via (uh HB) hb)
 replace HL := hide ((uh HL).keep hb)
 have c12 := (uh HL).c12
 clear hb HA
 go_wp2_with fail
 go_ret
 exact ⟨rfl, uh HB⟩
theorem chk_78c (L : Ln) (a : Option Addr) (n c pb : Nat) (l : List Int) (p E : Int) (w : World) (hR : Row w (.slice a n c) l) (hp : w.cell? ⟨pb, 0, none⟩ = some (.int .i64 p)) (hE : asksE L l 1 p 0 = E) (t0 : (E != 0) = false) (t1 : ((n : Int) == 0) = false) : Calls (Tri Try.prog) 123 #[.agg (lnA L (.slice a n c)), .pointer (some ⟨pb, 0, none⟩)] w fun z w' => z = .returned (.int .i64 0) ∧ Below w.heap.size w w' := by
 have lt := lt_of_cell hp
 have n0 : ¬ pb = w.heap.size := by omega
 have HB := hide (below1L w (.cells (lnA L (.slice a n c)) 53))
 have HL := hide (LB.new w 53 L (.slice a n c))
 have HA := hide (asks_any L a n c l 1 p 0 _ (hR.alloc (.cells (lnA L (.slice a n c)) 53)))
 rw [hE] at HA
 clear hR hE
 go_enter (Tri.at (by decide) Try.func123), Try.ntmps123
 go_wp2_with fail
 refine (uh HA).mono ?_
 rintro z w1 ⟨rfl, hb⟩
 replace HB := hide (below_via (uh HB) hb)
 replace HL := hide ((uh HL).keep hb)
 have c12 := (uh HL).c12
 clear hb HA
 go_wp2_with fail
 go_ret
 exact ⟨rfl, uh HB⟩
theorem chk_78 (L : Ln) (a : Option Addr) (n c pb : Nat) (l : List Int) (p : Int) (w : World) (hR : Row w (.slice a n c) l) (hp : w.cell? ⟨pb, 0, none⟩ = some (.int .i64 p)) : Calls (Tri Try.prog) 123 #[.agg (lnA L (.slice a n c)), .pointer (some ⟨pb, 0, none⟩)] w fun z w' => z = .returned (.int .i64 (chk1 L l p)) ∧ Below w.heap.size w w' := by
 have hn : n = l.length := by
  obtain ⟨a', c', e⟩ := row_slice hR
  injection e
 unfold chk1
 by_cases h0 : asksE L l 1 p 0 = 0
 ·rw [if_pos h0]
  by_cases h1 : l.length = 0
  ·rw [if_pos h1]
   exact chk_78b L a n c pb l p _ w hR hp rfl (by rw [h0]; rfl) (by rw [hn, h1]; rfl)
  ·rw [if_neg h1]
   exact chk_78c L a n c pb l p _ w hR hp rfl (by rw [h0]; rfl) (by rw [hn]; simpa using h1)
 ·rw [if_neg h0]
  exact chk_78a L a n c pb l p _ w hR hp rfl (by simpa using h0)
structure DK (w wr : World) (cs : Array Value) : Prop where
 bel : Below w.heap.size w wr
 b0 : Blk wr w.heap.size cs 53
 b1 : Blk wr (w.heap.size + 1) lnZ 53
 b2 : Blk wr (w.heap.size + 1 + 1) #[.int .i64 0, .int .i64 0, .int .i64 0, .int .i64 0] 65
theorem DK.keep {w wr wr2 : World} {cs : Array Value} (h : DK w wr cs) (hb : Below wr.heap.size wr wr2) : DK w wr2 cs := ⟨below_via h.bel hb, h.b0.keep hb, h.b1.keep hb, h.b2.keep hb⟩
theorem DK.new (w : World) (cs : Array Value) : DK w (((w.alloc (.cells cs 53)).alloc (.cells lnZ 53)).alloc (.cells #[.int .i64 0, .int .i64 0, .int .i64 0, .int .i64 0] 65)) cs := by
 refine ⟨((below1L w _).alloc (by simp) _).alloc (by simp; omega) _, ((Blk.new w cs 53).alloc _).alloc _, ?_, ?_⟩
 ·have h := (Blk.new (w.alloc (.cells cs 53)) lnZ 53).alloc (.cells #[.int .i64 0, .int .i64 0, .int .i64 0, .int .i64 0] 65)
  simpa using h
 ·have h := Blk.new ((w.alloc (.cells cs 53)).alloc (.cells lnZ 53)) #[.int .i64 0, .int .i64 0, .int .i64 0, .int .i64 0] 65
  simpa using h
structure Mv where
 i : Int
 p : Int
 w : Int
 r : Int
structure Dn where
 K : Ln
 l : List Int
 m : Mv
def zLn : Ln := ⟨0, 0, 0, 0, 0, 0, 0, 0, 0, 0, 0, 0⟩
def zD : Dn := ⟨zLn, [], ⟨0, 0, 0, 0⟩⟩
def recvB (L : Ln) (e : Bool) (p : Int) : Bool := e && decide (L.due - p ≤ 0)
def recvK (L : Ln) (e : Bool) (p J : Int) : Ln :=
 if recvB L e p = true then { L with st := 2, due := 0, be := 0, gr := L.gr + (p - L.gr - p), inc := L.inc + (p - L.gr), got := L.got + p }
 else { L with due := L.due - p, be := if L.due - p ≤ 0 then 0 else L.be, gr := L.gr + (J - p), inc := L.inc + J, got := L.got + p }
def recvJ (L : Ln) (e : Bool) (p J : Int) : Int := if recvB L e p = true then p - L.gr else J
def stepL (L : Ln) (x : Int) : Ln := { L with due := L.due + x, be := min (L.be + 1) 600 }
def wrK (L : Ln) (p : Int) : Ln := if L.gr - p = 0 then { L with gr := L.gr - p, wri := L.wri + p, st := 3, due := 0, be := 0 } else { L with gr := L.gr - p, wri := L.wri + p }
def doS (k : Nat) (L : Ln) (l : List Int) (p : Int) : Dn :=
 if k = 1 then ⟨recvK (stepL L (l.headD 0)) l.tail.isEmpty p (qI L.gr L.rt), l.tail, ⟨recvJ (stepL L (l.headD 0)) l.tail.isEmpty p (qI L.gr L.rt), p, 0, 0⟩⟩
 else if k = 2 then ⟨recvK L l.isEmpty p 0, l, ⟨recvJ L l.isEmpty p 0, p, 0, 0⟩⟩
 else if k = 3 then ⟨wrK L p, if L.gr - p = 0 then [] else l, ⟨0, 0, p, 0⟩⟩
 else ⟨{ L with rcv := L.rcv + p }, l, ⟨0, 0, 0, p⟩⟩
def chkS (k : Nat) (L : Ln) (l : List Int) (p : Int) : Int :=
 if k = 1 then chk1 L l p else if k = 2 then asksE L l 1 p 0 else if k = 3 then asksE L l 1 p 1 else asksE L l 3 p 1
def stepE (k : Nat) (L : Ln) (l : List Int) (p : Int) : Int :=
 if chkS k L l p = 0 then (if (doS k L l p).K.gr < 0 then 2 else if rightB (doS k L l p).K (doS k L l p).l = true then 0 else 3) else chkS k L l p
def stepR (k : Nat) (L : Ln) (l : List Int) (p : Int) : Dn := if stepE k L l p = 0 then doS k L l p else zD
structure Rt (L : Ln) (l : List Int) : Prop where
 id : 0 ≤ L.id ∧ L.id ≤ 2147483647
 st : 1 ≤ L.st ∧ L.st ≤ 4
 be : 0 ≤ L.be ∧ L.be ≤ 600
 out : 1 ≤ L.out ∧ L.out ≤ 10000000000000
 rt : May L.rt
 gr : 0 ≤ L.gr ∧ L.gr ≤ 1125899906842624
 got : 0 ≤ L.got ∧ L.got ≤ 1125899906842624
 wri : 0 ≤ L.wri ∧ L.wri ≤ 1125899906842624
 rcv : 0 ≤ L.rcv ∧ L.rcv ≤ 1125899906842624
 due : -1125899906842624 ≤ L.due ∧ L.due ≤ 1125899906842624
 inc : -1125899906842624 ≤ L.inc ∧ L.inc ≤ 1125899906842624
 adj : -1125899906842624 ≤ L.adj ∧ L.adj ≤ 1125899906842624
 len : l.length ≤ 600
 amt : ∀ x ∈ l, 0 ≤ x ∧ x ≤ 10000000000000
 fin : L.st = 1 ∨ (L.gr = 0 ∧ L.due = 0 ∧ l = [])
 sum : L.gr = L.out + L.inc + L.adj - L.got - L.wri
theorem rt_of {L : Ln} {l : List Int} (h : rightB L l = true) : Rt L l := by
 unfold rightB mayBeB amtL sumB endB at h
 simp only [Bool.and_eq_true, Bool.or_eq_true, decide_eq_true_eq, List.all_eq_true] at h
 obtain ⟨⟨⟨⟨⟨h1, h2⟩, h3⟩, h4⟩, h5⟩, ⟨h6, h7⟩, ⟨⟨⟨⟨s1, s2⟩, s3⟩, s4⟩, ⟨s5, s6⟩, s7⟩, h8, h9⟩ := h
 refine ⟨inB_yes h1, inB_yes h2, inB_yes h3, inB_yes h4, ?_, inB_yes s1, inB_yes s2, inB_yes s3, inB_yes s4, inB_yes s5, inB_yes s6, inB_yes s7, h6, fun x hx => inB_yes (h7 x hx), h8.imp id (fun k => ⟨k.1, k.2.1, List.eq_nil_of_length_eq_zero k.2.2⟩), h9⟩
 unfold mayB at h5
 simpa [May] using h5
theorem of_rt {L : Ln} {l : List Int} (h : Rt L l) : rightB L l = true := by
 unfold rightB mayBeB amtL sumB endB
 simp only [Bool.and_eq_true, Bool.or_eq_true, decide_eq_true_eq, List.all_eq_true]
 exact ⟨⟨⟨⟨⟨inB_of h.id, inB_of h.st⟩, inB_of h.be⟩, inB_of h.out⟩, mayB_yes h.rt⟩, ⟨h.len, fun x hx => inB_of (h.amt x hx)⟩, ⟨⟨⟨⟨inB_of h.gr, inB_of h.got⟩, inB_of h.wri⟩, inB_of h.rcv⟩, ⟨inB_of h.due, inB_of h.inc⟩, inB_of h.adj⟩, h.fin.imp id (fun k => ⟨k.1, k.2.1, by rw [k.2.2]; rfl⟩), h.sum⟩
theorem asks0 {L : Ln} {l : List Int} {k p lo : Int} (h : asksE L l k p lo = 0) : Rt L l ∧ (lo ≤ p ∧ p ≤ 10000000000000) ∧ L.st = k := by
 unfold asksE at h
 split at h
 ·next h1 =>
  simp only [Bool.and_eq_true] at h1
  split at h
  ·next h2 => exact ⟨rt_of h1.1, inB_yes h1.2, h2⟩
  ·cases h
 ·cases h
theorem chk0 {L : Ln} {l : List Int} {p : Int} (h : chk1 L l p = 0) : (Rt L l ∧ (0 ≤ p ∧ p ≤ 10000000000000) ∧ L.st = 1) ∧ l ≠ [] := by
 unfold chk1 at h
 split at h
 ·next h1 =>
  split at h
  ·cases h
  ·next h2 => exact ⟨asks0 h1, fun e => h2 (by rw [e]; rfl)⟩
 ·next h1 => exact absurd h h1
end Go.Proofs.Ytpeoabopeihadaa.Mn
