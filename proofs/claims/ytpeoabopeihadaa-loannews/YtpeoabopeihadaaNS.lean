/- What each step does. -/
import Derived.Test.YtpeoabopeihadaaNM
import Derived.Test.YtpeoabopeihadaaNN
import Derived.Test.YtpeoabopeihadaaNLSzo
import Derived.Test.YtpeoabopeihadaaNL
set_option linter.unusedVariables false
set_option linter.unusedSimpArgs false
set_option linter.unusedSectionVars false
set_option maxHeartbeats 8000000
namespace Go.Proofs.Ytpeoabopeihadaa.Mn
open Go.RowKit
attribute [local simp] Tri.typeInfo Tri.sizeOf Tri.underlying Tri.runUnderlying Tri.isAgg Tri.zeroValue Tri.depth Tri.stoodInHeld Tri.eqGuardType Tri.call15 Tri.call16 Tri.call26 Tri.call27 Tri.call28 Tri.call29 Tri.call30 Tri.call31 Tri.call46 Tri.call49 Tri.call50 Tri.call51 Tri.call52 Tri.call53 Tri.call54 Tri.call65 Tri.call66 Tri.call68 Tri.call69 Tri.call70 Tri.call71 Tri.call72 Tri.call73 Tri.call74 Tri.call75 Tri.call82 Tri.call84 Tri.call85 Tri.call86 Tri.call95 Tri.call101 Tri.call106 Tri.call107 Tri.call116 Tri.call117 Tri.call118 Tri.call119 Tri.call120 Tri.call122 Tri.call123 Tri.call124 Tri.call125 Tri.call126 Tri.call135 Tri.call137 Tri.call143 Tri.call144 Tri.call145 Tri.call146 Tri.call147 Tri.call149 Tri.call150 Tri.call151 Tri.call152 Tri.call156 Tri.call157 Tri.call159 Tri.call160 Tri.call161 Tri.call162 Tri.call163 Tri.call164 Tri.call165 Tri.call166 Tri.call167 Tri.call175 Tri.call176 Tri.call178 Tri.call179 Tri.call180 Tri.call181 Tri.call182 Tri.call183 Tri.call186 Tri.call187 Tri.call188 Tri.call205
theorem recv_any (L : Ln) (a : Option Addr) (n c : Nat) (p J : Int) (bgr : -4503599627370496 ≤ L.gr ∧ L.gr ≤ 4503599627370496) (bdue : -4503599627370496 ≤ L.due ∧ L.due ≤ 4503599627370496) (binc : -4503599627370496 ≤ L.inc ∧ L.inc ≤ 4503599627370496) (bgot : -4503599627370496 ≤ L.got ∧ L.got ≤ 4503599627370496) (bp : 0 ≤ p ∧ p ≤ 10000000000000) (bJ : -1152921504606846976 ≤ J ∧ J ≤ 1152921504606846976) (e : Bool) (he : e = decide (n = 0)) :
  ∃ a2 n2 c2, (∀ w1 : World, Calls (Tri Try.prog) 101 #[.agg (lnA L (.slice a n c)), .int .i64 p, .int .i64 J] w1 fun z w2 => z = .returned (.tuple #[.agg (lnA (recvK L e p J) (.slice a2 n2 c2)), .agg #[.int .i64 (recvJ L e p J), .int .i64 p, .int .i64 0, .int .i64 0]]) ∧ Below w1.heap.size w1 w2) ∧ ((recvB L e p = true ∧ a2 = none ∧ n2 = 0 ∧ c2 = 0) ∨ (a2 = a ∧ n2 = n ∧ c2 = c)) := by
 unfold recvK recvJ
 by_cases hd : L.due - p ≤ 0
 ·by_cases hn : n = 0
  ·have hb : recvB L e p = true := by unfold recvB; rw [he, decide_eq_true hn, decide_eq_true hd]; rfl
   refine ⟨none, 0, 0, fun w1 => ?_, .inl ⟨hb, rfl, rfl, rfl⟩⟩
   simp only [hb, if_true]
   exact recv_p L a n c p J w1 bgr.1 bgr.2 bdue.1 bdue.2 binc.1 binc.2 bgot.1 bgot.2 bp.1 bp.2 bJ.1 bJ.2 (by simpa using hn) (decide_eq_true hd)
  ·have hb : recvB L e p = false := by unfold recvB; rw [he, decide_eq_false hn]; rfl
   refine ⟨a, n, c, fun w1 => ?_, .inr ⟨rfl, rfl, rfl⟩⟩
   simp only [hb, if_pos hd, if_false, Bool.false_eq_true]
   exact recv_z L a n c p J w1 bgr.1 bgr.2 bdue.1 bdue.2 binc.1 binc.2 bgot.1 bgot.2 bp.1 bp.2 bJ.1 bJ.2 (by simpa using hn) (decide_eq_true hd)
 ·have hb : recvB L e p = false := by unfold recvB; rw [decide_eq_false hd, Bool.and_false]
  refine ⟨a, n, c, fun w1 => ?_, .inr ⟨rfl, rfl, rfl⟩⟩
  simp only [hb, if_neg hd, if_false, Bool.false_eq_true]
  by_cases hn : n = 0
  ·exact recv_l L a n c p J w1 bgr.1 bgr.2 bdue.1 bdue.2 binc.1 binc.2 bgot.1 bgot.2 bp.1 bp.2 bJ.1 bJ.2 (by simpa using hn) (decide_eq_false hd)
  ·exact recv_k L a n c p J w1 bgr.1 bgr.2 bdue.1 bdue.2 binc.1 binc.2 bgot.1 bgot.2 bp.1 bp.2 bJ.1 bJ.2 (by simpa using hn) (decide_eq_false hd)
def DoA (fd : Nat) (w : World) (L : Ln) (a : Option Addr) (n c pb : Nat) (D : Dn) : Prop := ∃ a2 c2, (∀ w1 : World, Below w.heap.size w w1 → Calls (Tri Try.prog) fd #[.agg (lnA L (.slice a n c)), .pointer (some ⟨pb, 0, none⟩)] w1 fun z w2 => z = .returned (.tuple #[.agg (lnA (D.K) (.slice a2 D.l.length c2)), .agg #[.int .i64 D.m.i, .int .i64 D.m.p, .int .i64 D.m.w, .int .i64 D.m.r]]) ∧ Below w1.heap.size w1 w2) ∧ Row w (.slice a2 D.l.length c2) D.l ∧ Sl a2 D.l.length c2
theorem cell_via {w w1 : World} {pb : Nat} {v : Value} (hb : Below w.heap.size w w1) (h : w.cell? ⟨pb, 0, none⟩ = some v) : w1.cell? ⟨pb, 0, none⟩ = some v := (hb.cell (p := ⟨pb, 0, none⟩) (lt_of_cell h)).trans h
theorem row_n {w : World} {a : Option Addr} {n c : Nat} {l : List Int} (h : Row w (.slice a n c) l) : n = l.length := by
 obtain ⟨a', c', e⟩ := row_slice h
 injection e
theorem row_tail {w : World} {b o c : Nat} {x : Int} {t : List Int} (h : Row w (.slice (some ⟨b, o, none⟩) (t.length + 1) c) (x :: t)) : w.cell? ⟨b, o, none⟩ = some (.int .i64 x) ∧ Row w (.slice (some ⟨b, o + 1, none⟩) t.length (c - 1)) t := by
 rcases h with ⟨a, c', e, h⟩ | ⟨b', o', c', e, h1, h2, h3, h4⟩
 ·cases h
 ·injection e with e1 e2 e3
  injection e1 with e1
  injection e1 with e1 e4
  subst e1 e4 e3
  refine ⟨by simpa using h3 0 (by simp), ?_⟩
  cases t with
  | nil => exact .inl ⟨_, _, rfl, rfl⟩
  | cons y s =>
   refine .inr ⟨b, o + 1, c - 1, rfl, by simp, by simp at h2 ⊢; omega, fun j hj => ?_, fun z hz => h4 z (List.mem_cons_of_mem _ hz)⟩
   have k := h3 (j + 1) (by simp at hj ⊢; omega)
   rw [show o + 1 + j = o + (j + 1) by omega, k]
   simp [List.getD]
theorem do_1 {L : Ln} {a : Option Addr} {n c pb : Nat} {x : Int} {t : List Int} {p : Int} {w : World} (hR : Row w (.slice a n c) (x :: t)) (hS : Sl a n c) (hp : w.cell? ⟨pb, 0, none⟩ = some (.int .i64 p)) (h : Rt L (x :: t)) (bp : 0 ≤ p ∧ p ≤ 10000000000000) : DoA 124 w L a n c pb (doS 1 L (x :: t) p) := by
 have hn := row_n hR
 simp only [List.length_cons] at hn
 subst hn
 have h1 := h.gr
 have h2 := h.due
 have h3 := h.inc
 have h4 := h.got
 have h5 := h.be
 have hx := h.amt x List.mem_cons_self
 have hq := qI_small h.rt h1.1
 have hrt := h.rt
 obtain ⟨b, o, rfl⟩ : ∃ b o, a = some ⟨b, o, none⟩ := by
  rcases hR with ⟨_, _, _, e⟩ | ⟨b, o, c', e, _⟩
  ·cases e
  ·injection e with e1
   exact ⟨b, o, e1⟩
 obtain ⟨hc0, hRt⟩ := row_tail hR
 have hSc := hS.1
 have key : ∀ (a1 : Option Addr) (c1 : Nat), Row w (.slice a1 t.length c1) t → Sl a1 t.length c1 →
   (∀ (K : Ln) (a2 : Option Addr) (n2 c2 : Nat) (E : Int) (w1 : World), Below w.heap.size w w1 →
    (∀ w1 : World, Calls (Tri Try.prog) 125 #[.agg (lnA (stepL L x) (.slice a1 t.length c1))] w1 fun z w2 => z = .returned (.int .i64 (qI L.gr L.rt)) ∧ Below w1.heap.size w1 w2) →
    (∀ w1 : World, Calls (Tri Try.prog) 101 #[.agg (lnA (stepL L x) (.slice a1 t.length c1)), .int .i64 p, .int .i64 (qI L.gr L.rt)] w1 fun z w2 => z = .returned (.tuple #[.agg (lnA K (.slice a2 n2 c2)), .agg #[.int .i64 E, .int .i64 p, .int .i64 0, .int .i64 0]]) ∧ Below w1.heap.size w1 w2) →
    Calls (Tri Try.prog) 124 #[.agg (lnA L (.slice (some ⟨b, o, none⟩) (t.length + 1) c)), .pointer (some ⟨pb, 0, none⟩)] w1 fun z w2 => z = .returned (.tuple #[.agg (lnA K (.slice a2 n2 c2)), .agg #[.int .i64 E, .int .i64 p, .int .i64 0, .int .i64 0]]) ∧ Below w1.heap.size w1 w2) → DoA 124 w L (some ⟨b, o, none⟩) (t.length + 1) c pb (doS 1 L (x :: t) p) := by
  intro a1 c1 hr hs hk
  obtain ⟨a2, n2, c2, hcv, ho⟩ := recv_any (stepL L x) a1 t.length c1 p (qI L.gr L.rt) ⟨by show _ ≤ L.gr; omega, by show L.gr ≤ _; omega⟩ ⟨by show _ ≤ L.due + x; omega, by show L.due + x ≤ _; omega⟩ ⟨by show _ ≤ L.inc; omega, by show L.inc ≤ _; omega⟩ ⟨by show _ ≤ L.got; omega, by show L.got ≤ _; omega⟩ bp ⟨by omega, by omega⟩ t.isEmpty (by cases t <;> rfl)
  have hl : n2 = t.length ∧ Row w (.slice a2 n2 c2) t ∧ Sl a2 n2 c2 := by
   rcases ho with ⟨hb, rfl, rfl, rfl⟩ | ⟨rfl, rfl, rfl⟩
   ·unfold recvB at hb
    simp only [Bool.and_eq_true] at hb
    have e : t = [] := by
     have := hb.1
     cases t with
     | nil => rfl
     | cons x t => cases this
    subst e
    exact ⟨rfl, .inl ⟨_, _, rfl, rfl⟩, Sl.nil⟩
   ·exact ⟨rfl, hr, hs⟩
  obtain ⟨rfl, hr2, hs2⟩ := hl
  exact ⟨a2, c2, fun w1 hb => hk (recvK (stepL L x) t.isEmpty p (qI L.gr L.rt)) a2 t.length c2 _ w1 hb (fun w1 => inter_any (stepL L x) a1 t.length c1 w1 hrt h1.1 h1.2) hcv, hr2, hs2⟩
 by_cases hc1 : c = 1
 ·subst hc1
  have ht : t = [] := List.eq_nil_of_length_eq_zero (by omega)
  subst ht
  refine key (some ⟨b, o, none⟩) 0 (.inl ⟨_, _, rfl, rfl⟩) ⟨Nat.le_refl _, fun e => by cases e⟩ (fun K a2 n2 c2 E w1 hb hi hv => ?_)
  rcases Int.lt_or_le 600 (L.be + 1) with o1 | o1
  ·have e : min (L.be + 1) 600 = 600 := by omega
   simp only [stepL, e] at hi hv
   exact do_80oh L K a2 b o n2 c2 pb p x (qI L.gr L.rt) E w1 (cell_via hb hp) ((hb.cell (p := ⟨b, o, none⟩) (lt_of_cell hc0)).trans hc0) o1 h5.1 h5.2 (by omega) (by omega) hx.1 hx.2 (hide hi) (hide hv)
  ·have e : min (L.be + 1) 600 = L.be + 1 := by omega
   simp only [stepL, e] at hi hv
   exact do_80ol L K a2 b o n2 c2 pb p x (qI L.gr L.rt) E w1 (cell_via hb hp) ((hb.cell (p := ⟨b, o, none⟩) (lt_of_cell hc0)).trans hc0) o1 h5.1 h5.2 (by omega) (by omega) hx.1 hx.2 (hide hi) (hide hv)
 ·refine key (some ⟨b, o + 1, none⟩) (c - 1) hRt ⟨by omega, fun e => by cases e⟩ (fun K a2 n2 c2 E w1 hb hi hv => ?_)
  rcases Int.lt_or_le 600 (L.be + 1) with o1 | o1
  ·have e : min (L.be + 1) 600 = 600 := by omega
   simp only [stepL, e] at hi hv
   exact do_80ah L K a2 b o (t.length + 1) c n2 c2 pb p x (qI L.gr L.rt) E w1 (cell_via hb hp) ((hb.cell (p := ⟨b, o, none⟩) (lt_of_cell hc0)).trans hc0) (by omega) (by omega) hc1 o1 h5.1 h5.2 (by omega) (by omega) hx.1 hx.2 (hide hi) (hide hv)
  ·have e : min (L.be + 1) 600 = L.be + 1 := by omega
   simp only [stepL, e] at hi hv
   exact do_80al L K a2 b o (t.length + 1) c n2 c2 pb p x (qI L.gr L.rt) E w1 (cell_via hb hp) ((hb.cell (p := ⟨b, o, none⟩) (lt_of_cell hc0)).trans hc0) (by omega) (by omega) hc1 o1 h5.1 h5.2 (by omega) (by omega) hx.1 hx.2 (hide hi) (hide hv)
theorem row65s : isRowB (Tri Try.prog) 65 = true := by kernel_rfl
theorem size65s : ((Tri Try.prog).info? 65).map (·.size) = some 4 := by kernel_rfl
theorem res_cct3 {fn : Func} {tmps : Array Value} {W : World} {s0 b0 n0 s1 b1 n1 : Nat} {ty0 T0 ty1 T1 : TypeId} {cs0 cs1 : Array Value} (hs0 : tmps.getD s0 undef = .pointer (some ⟨b0, 0, none⟩)) (hB0 : Blk W b0 cs0 T0) (hr0 : isRowB (Tri Try.prog) ty0 = true) (hi0 : ((Tri Try.prog).info? ty0).map (·.size) = some n0) (hn0 : cs0.size = n0) (hs1 : tmps.getD s1 undef = .pointer (some ⟨b1, 0, none⟩)) (hB1 : Blk W b1 cs1 T1) (hr1 : isRowB (Tri Try.prog) ty1 = true) (hi1 : ((Tri Try.prog).info? ty1).map (·.size) = some n1) (hn1 : cs1.size = n1) {t2 : Nat} {v2 : Value} (hv2 : tmps.getD t2 undef = v2) (hf : fn.results = #[.cell s0 ty0, .cell s1 ty1, .tmp t2]) : (results fn tmps).run (Tri Try.prog) W = .ok (.tuple #[.agg cs0, .agg cs1, v2]) W := by
 have gs0 : tmps[s0]?.getD undef = .pointer (some ⟨b0, 0, none⟩) := by simpa using hs0
 have gl0 := load_var hB0 hr0 hi0 hn0
 have gs1 : tmps[s1]?.getD undef = .pointer (some ⟨b1, 0, none⟩) := by simpa using hs1
 have gl1 := load_var hB1 hr1 hi1 hn1
 have gv2 : tmps[t2]?.getD undef = v2 := by simpa using hv2
 unfold results
 rw [hf]
 simp [Sem.run_bind, Sem.run_pure, Result.andThen_ok, asAddr, gs0, gl0, gs1, gl1, gv2]
theorem outer_38 (L K : Ln) (a : Option Addr) (n c n3 : Nat) (p e m0 m1 m2 m3 : Int) (l3 : List Int) (w : World) (HT : Hid (∀ W, Below w.heap.size w W → W.cell? ⟨w.heap.size + 1, 0, none⟩ = some (.int .i64 p) → Calls (Tri Try.prog) 86 #[.agg #[.func (.func 123) #[] #[.pointer (some ⟨w.heap.size + 1, 0, none⟩)], .func (.func 124) #[] #[.pointer (some ⟨w.heap.size + 1, 0, none⟩)], .func (.func 85) #[] #[]], .agg (lnA L (.slice a n c))] W fun z w2 => ∃ a3 c3, z = .returned (.tuple #[.agg (lnA K (.slice a3 n3 c3)), .agg #[.int .i64 m0, .int .i64 m1, .int .i64 m2, .int .i64 m3], .int .i64 e]) ∧ Row w2 (.slice a3 n3 c3) l3 ∧ Sl a3 n3 c3 ∧ (∀ x, a3 = some x → W.heap.size ≤ x.block) ∧ Below W.heap.size W w2)) : Calls (Tri Try.prog) 68 #[.agg (lnA L (.slice a n c)), .int .i64 p] w fun z w2 => ∃ a3 c3, z = .returned (.tuple #[.agg (lnA K (.slice a3 n3 c3)), .agg #[.int .i64 m0, .int .i64 m1, .int .i64 m2, .int .i64 m3], .int .i64 e]) ∧ Row w2 (.slice a3 n3 c3) l3 ∧ Sl a3 n3 c3 ∧ (∀ x, a3 = some x → w.heap.size ≤ x.block) ∧ Below w.heap.size w w2 := by
 have HB : Hid (Below w.heap.size w ((((w.alloc (.cells (lnA L (.slice a n c)) 53)).alloc (.cells #[.int .i64 p] 2)).alloc (.cells lnZ 53)).alloc (.cells #[.int .i64 0, .int .i64 0, .int .i64 0, .int .i64 0] 65))) := hide ((((below1L w _).alloc (by simp) _).alloc (by simp; omega) _).alloc (by simp; omega) _)
 have HP : Hid (((((w.alloc (.cells (lnA L (.slice a n c)) 53)).alloc (.cells #[.int .i64 p] 2)).alloc (.cells lnZ 53)).alloc (.cells #[.int .i64 0, .int .i64 0, .int .i64 0, .int .i64 0] 65)).cell? ⟨w.heap.size + 1, 0, none⟩ = some (.int .i64 p)) := hide (cell_old (cell_old (by simp) _) _)
 have H2 : Hid (Blk ((((w.alloc (.cells (lnA L (.slice a n c)) 53)).alloc (.cells #[.int .i64 p] 2)).alloc (.cells lnZ 53)).alloc (.cells #[.int .i64 0, .int .i64 0, .int .i64 0, .int .i64 0] 65)) (w.heap.size + 1 + 1) lnZ 53) := hide (by have h := (Blk.new ((w.alloc (.cells (lnA L (.slice a n c)) 53)).alloc (.cells #[.int .i64 p] 2)) lnZ 53).alloc (.cells #[.int .i64 0, .int .i64 0, .int .i64 0, .int .i64 0] 65); simpa using h)
 have H3 : Hid (Blk ((((w.alloc (.cells (lnA L (.slice a n c)) 53)).alloc (.cells #[.int .i64 p] 2)).alloc (.cells lnZ 53)).alloc (.cells #[.int .i64 0, .int .i64 0, .int .i64 0, .int .i64 0] 65)) (w.heap.size + 1 + 1 + 1) #[.int .i64 0, .int .i64 0, .int .i64 0, .int .i64 0] 65) := hide (by have h := Blk.new (((w.alloc (.cells (lnA L (.slice a n c)) 53)).alloc (.cells #[.int .i64 p] 2)).alloc (.cells lnZ 53)) #[.int .i64 0, .int .i64 0, .int .i64 0, .int .i64 0] 65; simpa using h)
 go_enter (Tri.at (by decide) Try.func68), Try.ntmps68
 go_wp2_with fail
 refine (uh HT _ (uh HB) (uh HP)).mono ?_
 rintro z w2 ⟨a3, c3, rfl, hR, hG, hfr, hb⟩
 have HF : Hid (∀ x, a3 = some x → w.heap.size + 1 + 1 + 1 < x.block) := hide (fun x hx => Nat.lt_of_lt_of_le (uh H3).lt (hfr x hx))
 have HR := hide hR
 have HG := hide hG
 replace HB := hide (below_via (uh HB) hb)
 replace H2 := hide ((uh H2).keep hb)
 replace H3 := hide ((uh H3).keep hb)
 clear hb hR hfr HP HT hG
 go_wp2_with (refine store_blk rfl 53 _ _ rfl (show Blk _ _ _ _ from uh H2) rfl rfl size53 rfl rfl rfl ?_)
 intro W5 k2 kp
 replace HB := hide (kp.bel (by omega) (uh HB))
 replace H3 := hide (kp.blk (by omega) (uh H3))
 replace HR := hide (kp.row (fun x hx => by have := uh HF x hx; omega) (uh HR))
 replace H2 := hide k2
 clear kp k2
 go_wp2_with (refine store_blk rfl 65 _ _ rfl (show Blk _ _ _ _ from uh H3) rfl rfl size65s rfl rfl rfl ?_)
 intro W6 k3 kp
 have k4 := kp.bel (by omega) (uh HB)
 have k2 := kp.blk (by omega) (uh H2)
 have k5 := kp.row (fun x hx => by have := uh HF x hx; omega) (uh HR)
 have k6 : ∀ x, a3 = some x → w.heap.size ≤ x.block := fun x hx => by have := uh HF x hx; omega
 have k7 := uh HG
 clear kp HB H2 H3 HR HF HG
 go_wp2_with fail
 exact bodyPost_ret (v := .tuple #[.agg (lnA K (.slice a3 n3 c3)), .agg #[.int .i64 m0, .int .i64 m1, .int .i64 m2, .int .i64 m3], .int .i64 e]) (res_cct3 rfl (show Blk _ _ _ _ from k2) row53 size53 rfl rfl k3 row65s size65s rfl rfl rfl) rfl ⟨a3, c3, rfl, k5, k7, k6, k4⟩
theorem take_g (fc fd : Nat) (hfc : ∀ (args : Array Value) (w : World), (_root_.Go.callFunc fc args).run (Tri Try.prog) w = .ok (.enter fc args) w) (hfd : ∀ (args : Array Value) (w : World), (_root_.Go.callFunc fd args).run (Tri Try.prog) w = .ok (.enter fd args) w) (L : Ln) (a : Option Addr) (n c pb : Nat) (w : World) (K : Ln) (a2 : Option Addr) (n2 c2 : Nat) (m0 m1 m2 m3 : Int) (HC : Hid (∀ w1, Below w.heap.size w w1 → Calls (Tri Try.prog) fc #[.agg (lnA L (.slice a n c)), .pointer (some ⟨pb, 0, none⟩)] w1 fun z w2 => z = .returned (.int .i64 0) ∧ Below w1.heap.size w1 w2)) (HD : Hid (∀ w1, Below w.heap.size w w1 → Calls (Tri Try.prog) fd #[.agg (lnA L (.slice a n c)), .pointer (some ⟨pb, 0, none⟩)] w1 fun z w2 => z = .returned (.tuple #[.agg (lnA K (.slice a2 n2 c2)), .agg #[.int .i64 m0, .int .i64 m1, .int .i64 m2, .int .i64 m3]]) ∧ Below w1.heap.size w1 w2)) (n3 : Nat) (l3 : List Int) (G : Option Addr → Nat → Prop) (HE : Hid (∀ w1, Below w.heap.size w w1 → Calls (Tri Try.prog) 85 #[.agg (lnA K (.slice a2 n2 c2))] w1 fun z w2 => ∃ a3 c3, z = .returned (.tuple #[.agg (lnA K (.slice a3 n3 c3)), .int .i64 0]) ∧ Row w2 (.slice a3 n3 c3) l3 ∧ G a3 c3 ∧ (∀ x, a3 = some x → w1.heap.size ≤ x.block) ∧ Below w1.heap.size w1 w2)) : Calls (Tri Try.prog) 86 #[.agg #[.func (.func fc) #[] #[.pointer (some ⟨pb, 0, none⟩)], .func (.func fd) #[] #[.pointer (some ⟨pb, 0, none⟩)], .func (.func 85) #[] #[]], .agg (lnA L (.slice a n c))] w fun z w2 => ∃ a3 c3, z = .returned (.tuple #[.agg (lnA K (.slice a3 n3 c3)), .agg #[.int .i64 m0, .int .i64 m1, .int .i64 m2, .int .i64 m3], .int .i64 0]) ∧ Row w2 (.slice a3 n3 c3) l3 ∧ G a3 c3 ∧ (∀ x, a3 = some x → w.heap.size ≤ x.block) ∧ Below w.heap.size w w2 := by
 have HT := hide (TK.new w #[.func (.func fc) #[] #[.pointer (some ⟨pb, 0, none⟩)], .func (.func fd) #[] #[.pointer (some ⟨pb, 0, none⟩)], .func (.func 85) #[] #[]] (lnA L (.slice a n c)))
 go_enter (Tri.at (by decide) Try.func86), Try.ntmps86
 go_wp2_with fail
 refine (uh HC _ (uh HT).bel).mono ?_
 rintro z w1 ⟨rfl, hb⟩
 replace HT := hide ((uh HT).keep hb)
 clear hb HC
 have t0 : ((0 : Int) != 0) = false := rfl
 have x0 := (show Blk _ _ _ _ from (uh HT).b0).at 0 _ rfl
 have x1 := (show Blk _ _ _ _ from (uh HT).b0).at 1 _ rfl
 have x2 := (show Blk _ _ _ _ from (uh HT).b0).at 2 _ rfl
 have y0 := (show Blk _ _ _ _ from (uh HT).b1).at 0 _ rfl
 have y1 := (show Blk _ _ _ _ from (uh HT).b1).at 1 _ rfl
 have y2 := (show Blk _ _ _ _ from (uh HT).b1).at 2 _ rfl
 have y3 := (show Blk _ _ _ _ from (uh HT).b1).at 3 _ rfl
 have y4 := (show Blk _ _ _ _ from (uh HT).b1).at 4 _ rfl
 have y5 := (show Blk _ _ _ _ from (uh HT).b1).at 5 _ rfl
 have y6 := (show Blk _ _ _ _ from (uh HT).b1).at 6 _ rfl
 have y7 := (show Blk _ _ _ _ from (uh HT).b1).at 7 _ rfl
 have y8 := (show Blk _ _ _ _ from (uh HT).b1).at 8 _ rfl
 have y9 := (show Blk _ _ _ _ from (uh HT).b1).at 9 _ rfl
 have y10 := (show Blk _ _ _ _ from (uh HT).b1).at 10 _ rfl
 have y11 := (show Blk _ _ _ _ from (uh HT).b1).at 11 _ rfl
 have y12 := (show Blk _ _ _ _ from (uh HT).b1).at 12 _ rfl
 go_wp2_with fail
 refine (uh HD _ (uh HT).bel).mono ?_
 rintro z w2 ⟨rfl, hb⟩
 replace HT := hide ((uh HT).keep hb)
 clear hb HD
 clear x0 x1 x2 y0 y1 y2 y3 y4 y5 y6 y7 y8 y9 y10 y11 y12
 have sz : w.heap.size + 1 + 1 + 1 + 1 + 1 < w2.heap.size := (show Blk _ _ _ _ from (uh HT).b5).lt
 replace HT : Hid (TK w ((w2.alloc (.cells (lnA K (.slice a2 n2 c2)) 53)).alloc (.cells #[.int .i64 m0, .int .i64 m1, .int .i64 m2, .int .i64 m3] 65)) #[.func (.func fc) #[] #[.pointer (some ⟨pb, 0, none⟩)], .func (.func fd) #[] #[.pointer (some ⟨pb, 0, none⟩)], .func (.func 85) #[] #[]] (lnA L (.slice a n c))) := hide ((uh HT).keep ((below1L w2 _).alloc (by simp) _))
 have HM : Hid (Blk ((w2.alloc (.cells (lnA K (.slice a2 n2 c2)) 53)).alloc (.cells #[.int .i64 m0, .int .i64 m1, .int .i64 m2, .int .i64 m3] 65)) (w2.heap.size + 1) #[.int .i64 m0, .int .i64 m1, .int .i64 m2, .int .i64 m3] 65) := hide (by have h := Blk.new (w2.alloc (.cells (lnA K (.slice a2 n2 c2)) 53)) #[.int .i64 m0, .int .i64 m1, .int .i64 m2, .int .i64 m3] 65; simpa using h)
 have x0 := (show Blk _ _ _ _ from (uh HT).b0).at 0 _ rfl
 have x1 := (show Blk _ _ _ _ from (uh HT).b0).at 1 _ rfl
 have x2 := (show Blk _ _ _ _ from (uh HT).b0).at 2 _ rfl
 go_wp2_with fail
 refine (uh HE _ (uh HT).bel).mono ?_
 rintro z w3 ⟨a3, c3, rfl, hR, hG, hfr, hb⟩
 have HR := hide hR
 have HF : Hid (∀ x, a3 = some x → w2.heap.size + 1 + 1 ≤ x.block) := hide (by simpa using hfr)
 clear hR hfr
 have sz3 : w2.heap.size + 1 < w3.heap.size := ((uh HM).keep hb).lt
 replace HT : Hid (TK w (w3.alloc (.cells (lnA K (.slice a3 n3 c3)) 53)) #[.func (.func fc) #[] #[.pointer (some ⟨pb, 0, none⟩)], .func (.func fd) #[] #[.pointer (some ⟨pb, 0, none⟩)], .func (.func 85) #[] #[]] (lnA L (.slice a n c))) := hide (((uh HT).keep hb).keep (below1L w3 _))
 replace HM : Hid (Blk (w3.alloc (.cells (lnA K (.slice a3 n3 c3)) 53)) (w2.heap.size + 1) #[.int .i64 m0, .int .i64 m1, .int .i64 m2, .int .i64 m3] 65) := hide (((uh HM).keep hb).alloc _)
 clear hb HE x0 x1 x2
 have y0 := (show Blk _ _ _ _ from uh HM).at 0 _ rfl
 have y1 := (show Blk _ _ _ _ from uh HM).at 1 _ rfl
 have y2 := (show Blk _ _ _ _ from uh HM).at 2 _ rfl
 have y3 := (show Blk _ _ _ _ from uh HM).at 3 _ rfl
 have p0 := (show Blk _ _ _ _ from (uh HT).b2).at 0 _ rfl
 have p1 := (show Blk _ _ _ _ from (uh HT).b2).at 1 _ rfl
 have p2 := (show Blk _ _ _ _ from (uh HT).b2).at 2 _ rfl
 have p3 := (show Blk _ _ _ _ from (uh HT).b2).at 3 _ rfl
 have p4 := (show Blk _ _ _ _ from (uh HT).b2).at 4 _ rfl
 have p5 := (show Blk _ _ _ _ from (uh HT).b2).at 5 _ rfl
 have p6 := (show Blk _ _ _ _ from (uh HT).b2).at 6 _ rfl
 have p7 := (show Blk _ _ _ _ from (uh HT).b2).at 7 _ rfl
 have p8 := (show Blk _ _ _ _ from (uh HT).b2).at 8 _ rfl
 have p9 := (show Blk _ _ _ _ from (uh HT).b2).at 9 _ rfl
 have p10 := (show Blk _ _ _ _ from (uh HT).b2).at 10 _ rfl
 have p11 := (show Blk _ _ _ _ from (uh HT).b2).at 11 _ rfl
 have p12 := (show Blk _ _ _ _ from (uh HT).b2).at 12 _ rfl
 have q0 := (show Blk _ _ _ _ from (uh HT).b3).at 0 _ rfl
 have q1 := (show Blk _ _ _ _ from (uh HT).b3).at 1 _ rfl
 have q2 := (show Blk _ _ _ _ from (uh HT).b3).at 2 _ rfl
 have q3 := (show Blk _ _ _ _ from (uh HT).b3).at 3 _ rfl
 have u0 := (show Blk _ _ _ _ from (uh HT).b2).fz 0
 have u1 := (show Blk _ _ _ _ from (uh HT).b2).fz 1
 have u2 := (show Blk _ _ _ _ from (uh HT).b2).fz 2
 have u3 := (show Blk _ _ _ _ from (uh HT).b2).fz 3
 have u4 := (show Blk _ _ _ _ from (uh HT).b2).fz 4
 have u5 := (show Blk _ _ _ _ from (uh HT).b2).fz 5
 have u6 := (show Blk _ _ _ _ from (uh HT).b2).fz 6
 have u7 := (show Blk _ _ _ _ from (uh HT).b2).fz 7
 have u8 := (show Blk _ _ _ _ from (uh HT).b2).fz 8
 have u9 := (show Blk _ _ _ _ from (uh HT).b2).fz 9
 have u10 := (show Blk _ _ _ _ from (uh HT).b2).fz 10
 have u11 := (show Blk _ _ _ _ from (uh HT).b2).fz 11
 have u12 := (show Blk _ _ _ _ from (uh HT).b2).fz 12
 have v0 := (show Blk _ _ _ _ from (uh HT).b3).fz 0
 have v1 := (show Blk _ _ _ _ from (uh HT).b3).fz 1
 have v2 := (show Blk _ _ _ _ from (uh HT).b3).fz 2
 have v3 := (show Blk _ _ _ _ from (uh HT).b3).fz 3
 go_wp2_with fail
 go_region
 clear y0 y1 y2 y3 p0 p1 p2 p3 p4 p5 p6 p7 p8 p9 p10 p11 p12 q0 q1 q2 q3 u0 u1 u2 u3 u4 u5 u6 u7 u8 u9 u10 u11 u12 v0 v1 v2 v3
 have k2 : Blk (putM (putL (w3.alloc (.cells (lnA K (.slice a3 n3 c3)) 53)) (w.heap.size + 1 + 1) (.int .i64 K.id) (.int .i64 K.st) (.int .i64 K.be) (.int .i64 K.out) (.int .i64 K.rt) (.int .i64 K.gr) (.int .i64 K.due) (.int .i64 K.inc) (.int .i64 K.got) (.int .i64 K.adj) (.int .i64 K.wri) (.int .i64 K.rcv) (.slice a3 n3 c3)) (w.heap.size + 1 + 1 + 1) (.int .i64 m0) (.int .i64 m1) (.int .i64 m2) (.int .i64 m3)).drew (w.heap.size + 1 + 1) (lnA K (.slice a3 n3 c3)) 53 := (((show Blk _ _ _ _ from (uh HT).b2).wrL (.int .i64 K.id) (.int .i64 K.st) (.int .i64 K.be) (.int .i64 K.out) (.int .i64 K.rt) (.int .i64 K.gr) (.int .i64 K.due) (.int .i64 K.inc) (.int .i64 K.got) (.int .i64 K.adj) (.int .i64 K.wri) (.int .i64 K.rcv) (.slice a3 n3 c3)).offM (by omega) (.int .i64 m0) (.int .i64 m1) (.int .i64 m2) (.int .i64 m3)).drew
 have k3 : Blk (putM (putL (w3.alloc (.cells (lnA K (.slice a3 n3 c3)) 53)) (w.heap.size + 1 + 1) (.int .i64 K.id) (.int .i64 K.st) (.int .i64 K.be) (.int .i64 K.out) (.int .i64 K.rt) (.int .i64 K.gr) (.int .i64 K.due) (.int .i64 K.inc) (.int .i64 K.got) (.int .i64 K.adj) (.int .i64 K.wri) (.int .i64 K.rcv) (.slice a3 n3 c3)) (w.heap.size + 1 + 1 + 1) (.int .i64 m0) (.int .i64 m1) (.int .i64 m2) (.int .i64 m3)).drew (w.heap.size + 1 + 1 + 1) #[.int .i64 m0, .int .i64 m1, .int .i64 m2, .int .i64 m3] 65 := (((show Blk _ _ _ _ from (uh HT).b3).offL (by omega) (.int .i64 K.id) (.int .i64 K.st) (.int .i64 K.be) (.int .i64 K.out) (.int .i64 K.rt) (.int .i64 K.gr) (.int .i64 K.due) (.int .i64 K.inc) (.int .i64 K.got) (.int .i64 K.adj) (.int .i64 K.wri) (.int .i64 K.rcv) (.slice a3 n3 c3)).wrM (.int .i64 m0) (.int .i64 m1) (.int .i64 m2) (.int .i64 m3)).drew
 have k4 : Below w.heap.size w (putM (putL (w3.alloc (.cells (lnA K (.slice a3 n3 c3)) 53)) (w.heap.size + 1 + 1) (.int .i64 K.id) (.int .i64 K.st) (.int .i64 K.be) (.int .i64 K.out) (.int .i64 K.rt) (.int .i64 K.gr) (.int .i64 K.due) (.int .i64 K.inc) (.int .i64 K.got) (.int .i64 K.adj) (.int .i64 K.wri) (.int .i64 K.rcv) (.slice a3 n3 c3)) (w.heap.size + 1 + 1 + 1) (.int .i64 m0) (.int .i64 m1) (.int .i64 m2) (.int .i64 m3)).drew := below_drew (below_putM (below_putL (uh HT).bel (by omega) (.int .i64 K.id) (.int .i64 K.st) (.int .i64 K.be) (.int .i64 K.out) (.int .i64 K.rt) (.int .i64 K.gr) (.int .i64 K.due) (.int .i64 K.inc) (.int .i64 K.got) (.int .i64 K.adj) (.int .i64 K.wri) (.int .i64 K.rcv) (.slice a3 n3 c3)) (by omega) (.int .i64 m0) (.int .i64 m1) (.int .i64 m2) (.int .i64 m3))
 have r1 : Row (putL (w3.alloc (.cells (lnA K (.slice a3 n3 c3)) 53)) (w.heap.size + 1 + 1) (.int .i64 K.id) (.int .i64 K.st) (.int .i64 K.be) (.int .i64 K.out) (.int .i64 K.rt) (.int .i64 K.gr) (.int .i64 K.due) (.int .i64 K.inc) (.int .i64 K.got) (.int .i64 K.adj) (.int .i64 K.wri) (.int .i64 K.rcv) (.slice a3 n3 c3)) (.slice a3 n3 c3) l3 := Row.offL ((uh HR).alloc _) (fun x hx => by have := uh HF x hx; omega) (.int .i64 K.id) (.int .i64 K.st) (.int .i64 K.be) (.int .i64 K.out) (.int .i64 K.rt) (.int .i64 K.gr) (.int .i64 K.due) (.int .i64 K.inc) (.int .i64 K.got) (.int .i64 K.adj) (.int .i64 K.wri) (.int .i64 K.rcv) (.slice a3 n3 c3)
 have r2 : Row (putM (putL (w3.alloc (.cells (lnA K (.slice a3 n3 c3)) 53)) (w.heap.size + 1 + 1) (.int .i64 K.id) (.int .i64 K.st) (.int .i64 K.be) (.int .i64 K.out) (.int .i64 K.rt) (.int .i64 K.gr) (.int .i64 K.due) (.int .i64 K.inc) (.int .i64 K.got) (.int .i64 K.adj) (.int .i64 K.wri) (.int .i64 K.rcv) (.slice a3 n3 c3)) (w.heap.size + 1 + 1 + 1) (.int .i64 m0) (.int .i64 m1) (.int .i64 m2) (.int .i64 m3)) (.slice a3 n3 c3) l3 := Row.offM r1 (fun x hx => by have := uh HF x hx; omega) (.int .i64 m0) (.int .i64 m1) (.int .i64 m2) (.int .i64 m3)
 have k5 : Row (putM (putL (w3.alloc (.cells (lnA K (.slice a3 n3 c3)) 53)) (w.heap.size + 1 + 1) (.int .i64 K.id) (.int .i64 K.st) (.int .i64 K.be) (.int .i64 K.out) (.int .i64 K.rt) (.int .i64 K.gr) (.int .i64 K.due) (.int .i64 K.inc) (.int .i64 K.got) (.int .i64 K.adj) (.int .i64 K.wri) (.int .i64 K.rcv) (.slice a3 n3 c3)) (w.heap.size + 1 + 1 + 1) (.int .i64 m0) (.int .i64 m1) (.int .i64 m2) (.int .i64 m3)).drew (.slice a3 n3 c3) l3 := Row.drew r2
 clear r1 r2
 have k6 : ∀ x, a3 = some x → w.heap.size ≤ x.block := fun x hx => by have := uh HF x hx; omega
 clear HR HF
 generalize (putM (putL (w3.alloc (.cells (lnA K (.slice a3 n3 c3)) 53)) (w.heap.size + 1 + 1) (.int .i64 K.id) (.int .i64 K.st) (.int .i64 K.be) (.int .i64 K.out) (.int .i64 K.rt) (.int .i64 K.gr) (.int .i64 K.due) (.int .i64 K.inc) (.int .i64 K.got) (.int .i64 K.adj) (.int .i64 K.wri) (.int .i64 K.rcv) (.slice a3 n3 c3)) (w.heap.size + 1 + 1 + 1) (.int .i64 m0) (.int .i64 m1) (.int .i64 m2) (.int .i64 m3)).drew = W at *
 clear HT
 have p0 := k2.at 0 _ rfl
 have p1 := k2.at 1 _ rfl
 have p2 := k2.at 2 _ rfl
 have p3 := k2.at 3 _ rfl
 have p4 := k2.at 4 _ rfl
 have p5 := k2.at 5 _ rfl
 have p6 := k2.at 6 _ rfl
 have p7 := k2.at 7 _ rfl
 have p8 := k2.at 8 _ rfl
 have p9 := k2.at 9 _ rfl
 have p10 := k2.at 10 _ rfl
 have p11 := k2.at 11 _ rfl
 have p12 := k2.at 12 _ rfl
 have q0 := k3.at 0 _ rfl
 have q1 := k3.at 1 _ rfl
 have q2 := k3.at 2 _ rfl
 have q3 := k3.at 3 _ rfl
 go_wp2_with fail
 exact bodyPost_ret (v := .tuple #[.agg (lnA K (.slice a3 n3 c3)), .agg #[.int .i64 m0, .int .i64 m1, .int .i64 m2, .int .i64 m3], .int .i64 0]) (by simp [results, Try.results86, go_sem, p0, p1, p2, p3, p4, p5, p6, p7, p8, p9, p10, p11, p12, q0, q1, q2, q3]) rfl ⟨a3, c3, rfl, k5, hG, k6, k4⟩
theorem doA_1 {L : Ln} {a : Option Addr} {n c pb : Nat} {l : List Int} {p : Int} {w : World} (hR : Row w (.slice a n c) l) (hS : Sl a n c) (hp : w.cell? ⟨pb, 0, none⟩ = some (.int .i64 p)) (h : chkS 1 L l p = 0) : DoA 124 w L a n c pb (doS 1 L l p) := by
 obtain ⟨⟨h1, h2, _⟩, h3⟩ := chk0 h
 cases l with
 | nil => exact absurd rfl h3
 | cons x t => exact do_1 hR hS hp h1 h2
theorem step_1 {L : Ln} {a : Option Addr} {n c : Nat} {l : List Int} {p : Int} {w : World} (hR : Row w (.slice a n c) l) (hS : Sl a n c) (hl : l.length ≤ 17592186044000) : Calls (Tri Try.prog) 68 #[.agg (lnA L (.slice a n c)), .int .i64 p] w fun z w2 => ∃ a3 c3, z = .returned (.tuple #[.agg (lnA ((stepR 1 L l p).K) (.slice a3 (stepR 1 L l p).l.length c3)), .agg #[.int .i64 (stepR 1 L l p).m.i, .int .i64 (stepR 1 L l p).m.p, .int .i64 (stepR 1 L l p).m.w, .int .i64 (stepR 1 L l p).m.r], .int .i64 (stepE 1 L l p)]) ∧ Row w2 (.slice a3 (stepR 1 L l p).l.length c3) (stepR 1 L l p).l ∧ Sl a3 (stepR 1 L l p).l.length c3 ∧ (∀ x, a3 = some x → w.heap.size ≤ x.block) ∧ Below w.heap.size w w2 := by
 refine outer_38 L (stepR 1 L l p).K a n c (stepR 1 L l p).l.length p (stepE 1 L l p) (stepR 1 L l p).m.i (stepR 1 L l p).m.p (stepR 1 L l p).m.w (stepR 1 L l p).m.r (stepR 1 L l p).l w (hide (fun W hb hp => ?_))
 have hRW := hR.below hb (Nat.le_refl _)
 have HC : Hid (∀ w1, Below W.heap.size W w1 → Calls (Tri Try.prog) 123 #[.agg (lnA L (.slice a n c)), .pointer (some ⟨w.heap.size + 1, 0, none⟩)] w1 fun z w2 => z = .returned (.int .i64 (chkS 1 L l p)) ∧ Below w1.heap.size w1 w2) := hide (fun w1 hb1 => chk_78 L a n c _ l p w1 (hRW.below hb1 (Nat.le_refl _)) (cell_via hb1 hp))
 by_cases hc : chkS 1 L l p = 0
 case neg =>
  have hE : stepE 1 L l p = chkS 1 L l p := by unfold stepE; rw [if_neg hc]
  have hRR : stepR 1 L l p = zD := by unfold stepR; rw [if_neg (by rw [hE]; exact hc)]
  rw [hRR, hE]
  exact (take_a 123 124 Tri.call123 Tri.call124 L a n c _ W _ (by simpa using hc) HC).mono fun z w2 ⟨h1, h2⟩ => ⟨none, 0, h1, .inl ⟨_, _, rfl, rfl⟩, Sl.nil, (fun x hx => by cases hx), h2⟩
 rw [hc] at HC
 obtain ⟨a2, c2, hd, hr2, hs2⟩ := doA_1 (L := L) (l := l) (n := n) hRW hS hp hc
 by_cases hg : (doS 1 L l p).K.gr < 0
 ·have hE : stepE 1 L l p = 2 := by unfold stepE; rw [if_pos hc, if_pos hg]
  have hRR : stepR 1 L l p = zD := by unfold stepR; rw [if_neg (by rw [hE]; decide)]
  rw [hRR, hE]
  exact (take_b 123 124 Tri.call123 Tri.call124 L a n c _ W (doS 1 L l p).K a2 _ c2 _ _ _ _ HC (hide hd) 2 rfl (hide (fun w1 hb1 => settle_a _ _ _ _ _ w1 (hr2.below hb1 (Nat.le_refl _)) (decide_eq_true hg)))).mono fun z w2 ⟨h1, h2⟩ => ⟨none, 0, h1, .inl ⟨_, _, rfl, rfl⟩, Sl.nil, (fun x hx => by cases hx), h2⟩
 have hg' : decide ((doS 1 L l p).K.gr < 0) = false := decide_eq_false hg
 by_cases ht : rightB (doS 1 L l p).K (doS 1 L l p).l = true
 case neg =>
  have hE : stepE 1 L l p = 3 := by unfold stepE; rw [if_pos hc, if_neg hg, if_neg ht]
  have hRR : stepR 1 L l p = zD := by unfold stepR; rw [if_neg (by rw [hE]; decide)]
  rw [hRR, hE]
  exact (take_b 123 124 Tri.call123 Tri.call124 L a n c _ W (doS 1 L l p).K a2 _ c2 _ _ _ _ HC (hide hd) 3 rfl (hide (fun w1 hb1 => settle_b _ _ _ _ _ w1 (hr2.below hb1 (Nat.le_refl _)) hg' (Bool.eq_false_iff.2 ht)))).mono fun z w2 ⟨h1, h2⟩ => ⟨none, 0, h1, .inl ⟨_, _, rfl, rfl⟩, Sl.nil, (fun x hx => by cases hx), h2⟩
 have hE : stepE 1 L l p = 0 := by unfold stepE; rw [if_pos hc, if_neg hg, if_pos ht]
 have hRR : stepR 1 L l p = doS 1 L l p := by unfold stepR; rw [if_pos hE]
 rw [hRR, hE]
 have hl2 : (doS 1 L l p).l.length ≤ 17592186044000 := Nat.le_trans (rt_of ht).len (by decide)
 exact take_g 123 124 Tri.call123 Tri.call124 L a n c _ W (doS 1 L l p).K a2 _ c2 _ _ _ _ HC (hide hd) _ _ (fun a3 c3 => Sl a3 (doS 1 L l p).l.length c3) (hide (fun w1 hb1 => settle_c _ _ _ _ _ w1 (hr2.below hb1 (Nat.le_refl _)) hs2 hl2 hg' ht))
theorem from_any (L : Ln) (a : Option Addr) (n c : Nat) (w : World) : Calls (Tri Try.prog) 30 #[.agg (lnA L (.slice a n c))] w fun z w' => z = .returned (.agg (lnA L (.slice a n c))) ∧ Below w.heap.size w w' := by
 go_enter (Tri.at (by decide) Try.func30), Try.ntmps30
 go_wp2_with fail
 exact bodyPost_ret (v := .agg (lnA L (.slice a n c))) (by simp [results, Try.results30, go_sem]) rfl ⟨rfl, (below1L w _).alloc (by simp) _⟩
theorem below_drewN (w : World) : ∀ n, Below w.heap.size w (w.drewN n)
 | 0 => Below.refl _ _
 | n + 1 => below_drew (below_drewN w n)
theorem same2_empty (L : Ln) (a a' : Option Addr) (c c' : Nat) (w : World) : Calls (Tri Try.prog) 29 #[.agg (lnA L (.slice a 0 c)), .agg (lnA L (.slice a' 0 c'))] w fun e w' => e = .returned (.bool true) ∧ Below w.heap.size w w' := by
 have HB : Hid (Below w.heap.size w ((w.alloc (.cells (lnA L (.slice a 0 c)) 56)).alloc (.cells (lnA L (.slice a' 0 c')) 56))) := hide ((below1L w _).alloc (by simp) _)
 go_enter (Tri.at (by decide) Try.func29), Try.ntmps29
 go_wp2_with fail
 refine wp_loop_rounds 1 ?_
 rw [rounds_succ]
 go_wp2_with fail
 go_ret
 exact ⟨rfl, uh HB⟩
theorem same2_row (L : Ln) (b off c b' off' c' len : Nat) (xs : List Int) (w : World) (hm : len ≤ 1000000)
  (hx : ∀ j, j < len → w.cell? ⟨b, off + j, none⟩ = some (.int .i64 (xs.getD j 0)))
  (hy : ∀ j, j < len → w.cell? ⟨b', off' + j, none⟩ = some (.int .i64 (xs.getD j 0))) :
  Calls (Tri Try.prog) 29 #[.agg (lnA L (.slice (some ⟨b, off, none⟩) len c)), .agg (lnA L (.slice (some ⟨b', off', none⟩) len c'))] w fun e w' => e = .returned (.bool true) ∧ Below w.heap.size w w' := by
 have HX : Hid (∀ j, j < len → ((w.alloc (.cells (lnA L (.slice (some ⟨b, off, none⟩) len c)) 56)).alloc (.cells (lnA L (.slice (some ⟨b', off', none⟩) len c')) 56)).cell? ⟨b, off + j, none⟩ = some (.int .i64 (xs.getD j 0))) := hide (fun j hj => cell_old (cell_old (hx j hj) _) _)
 have HY : Hid (∀ j, j < len → ((w.alloc (.cells (lnA L (.slice (some ⟨b, off, none⟩) len c)) 56)).alloc (.cells (lnA L (.slice (some ⟨b', off', none⟩) len c')) 56)).cell? ⟨b', off' + j, none⟩ = some (.int .i64 (xs.getD j 0))) := hide (fun j hj => cell_old (cell_old (hy j hj) _) _)
 have HB : Hid (Below w.heap.size w ((w.alloc (.cells (lnA L (.slice (some ⟨b, off, none⟩) len c)) 56)).alloc (.cells (lnA L (.slice (some ⟨b', off', none⟩) len c')) 56))) := hide ((below1L w _).alloc (by simp) _)
 have HA : Hid (Blk ((w.alloc (.cells (lnA L (.slice (some ⟨b, off, none⟩) len c)) 56)).alloc (.cells (lnA L (.slice (some ⟨b', off', none⟩) len c')) 56)) w.heap.size (lnA L (.slice (some ⟨b, off, none⟩) len c)) 56) := hide ((Blk.new w _ 56).alloc _)
 have HD : Hid (Blk ((w.alloc (.cells (lnA L (.slice (some ⟨b, off, none⟩) len c)) 56)).alloc (.cells (lnA L (.slice (some ⟨b', off', none⟩) len c')) 56)) (w.heap.size + 1) (lnA L (.slice (some ⟨b', off', none⟩) len c')) 56) := hide (by have h := Blk.new (w.alloc (.cells (lnA L (.slice (some ⟨b, off, none⟩) len c)) 56)) (lnA L (.slice (some ⟨b', off', none⟩) len c')) 56; simpa using h)
 clear hx hy
 have d1 : ((len : Int) != (len : Int)) = false := by simp
 go_enter (Tri.at (by decide) Try.func29), Try.ntmps29
 go_wp2_with fail
 generalize hU : (w.alloc (.cells (lnA L (.slice (some ⟨b, off, none⟩) len c)) 56)).alloc (.cells (lnA L (.slice (some ⟨b', off', none⟩) len c')) 56) = U at *
 clear hU
 obtain ⟨x0, x1, x2, x3, x4, x5, x6, x7, x8, x9, x10, x11, x12⟩ := Blk.c13 (show Blk _ _ _ _ from uh HA)
 obtain ⟨y0, y1, y2, y3, y4, y5, y6, y7, y8, y9, y10, y11, y12⟩ := Blk.c13 (show Blk _ _ _ _ from uh HD)
 go_loopw [16] (fun i wr => ∃ k n : Nat, k ≤ len ∧ i = .int .i64 k ∧ wr = U.drewN n) (fun i _ => len - (intOf i).toNat)
 case atStart => exact ⟨0, 0, by omega, rfl, rfl⟩
 case round =>
  obtain ⟨k, n, hk, rfl, rfl⟩ := hrel
  by_cases hlt : k < len
  ·have h1 := uh HX k hlt
   have h2 := uh HY k hlt
   generalize xs.getD k 0 = x at *
   have hb : (x != x) = false := by simp
   go_wp2_with fail
   go_region
   all_goals (try go_wp2_with fail)
   all_goals go_roundw
   all_goals first | exact ⟨k + 1, n + 1, by omega, by go_num, rfl⟩ | (simp [intOf]; omega)
  ·have hk2 : k = len := by omega
   subst hk2
   go_wp2_with fail
   go_ret
   exact ⟨rfl, below_via (uh HB) (below_drewN U n)⟩
theorem same2_any {L : Ln} {a a' : Option Addr} {n n' c c' : Nat} {xs : List Int} {w : World} (hm : xs.length ≤ 1000000) (h : Row w (.slice a n c) xs) (h' : Row w (.slice a' n' c') xs) : Calls (Tri Try.prog) 29 #[.agg (lnA L (.slice a n c)), .agg (lnA L (.slice a' n' c'))] w fun e w' => e = .returned (.bool true) ∧ Below w.heap.size w w' := by
 rcases h with ⟨x, y, h1, rfl⟩ | ⟨b, off, y, h1, h0, _, hc, _⟩
 ·obtain ⟨x', y', h2⟩ := row_slice h'
  cases h1; cases h2
  exact same2_empty L a a' c c' w
 ·rcases h' with ⟨x', y', h2, h3⟩ | ⟨b', off', y', h2, _, _, hc', _⟩
  ·rw [h3] at h0; exact absurd h0 (by decide)
  ·cases h1; cases h2
   exact same2_row L b off c b' off' c' xs.length xs w hm hc hc'
theorem so3 : maySo 1000 [500, 605] = true := by decide +kernel
theorem cv3 : cov 1000 [500, 605] (-990000000000) = true ∧ cov 1000 [500, 605] 60000000001 = true ∧ cov 1000 [500, 605] 80000000000 = false ∧ cov 1000 [500, 605] 10000000000000 = false := by decide +kernel
theorem pos3 : ∀ x ∈ ([500, 605] : List Int), 0 ≤ x := by decide
theorem eg3 {r e : Int} (h : NewE 1 1000 [500, 605] r e) : e = 0 ∧ 60000000000 < r ∧ r < 80000000000 := by
 rcases h with ⟨h, _⟩ | ⟨_, h⟩
 ·exact absurd h (by decide)
 rcases h with ⟨h, _⟩ | ⟨_, ⟨h, _⟩ | ⟨h, rfl⟩⟩
 ·rw [so3] at h; cases h
 ·rcases h with h | h
  ·rw [cv3.1] at h; cases h
  ·rw [cv3.2.2.2] at h; cases h
 ·refine ⟨rfl, ?_, ?_⟩
  ·refine Classical.byContradiction fun hn => ?_
   have a := h.lo
   have := cov_rate (r := r + 1) (s := 60000000001) ⟨by omega, by omega⟩ ⟨by omega, by omega⟩ (by omega) pos3 cv3.2.1
   rw [h.no] at this
   cases this
  ·refine Classical.byContradiction fun hn => ?_
   have a := h.hi
   have := cov_rate (r := 80000000000) (s := r) ⟨by omega, by omega⟩ ⟨by omega, by omega⟩ (by omega) pos3 h.yes
   rw [cv3.2.2.1] at this
   cases this
def alK (r : Int) : Ln := ⟨1, 1, 0, 1000, r, 1000 + (qI 1000 r - 500), 0, qI 1000 r, 500, 0, 0, 0⟩
def alZ (r : Int) : Ln := ⟨1, 2, 0, 1000, r, 0, 0, 105, 1105, 0, 0, 0⟩
theorem stepd_of {k : Nat} {L : Ln} {l : List Int} {p : Int} (hc : chkS k L l p = 0) (hr : Rt (doS k L l p).K (doS k L l p).l) : stepE k L l p = 0 ∧ stepR k L l p = doS k L l p := by
 have hE : stepE k L l p = 0 := by
  unfold stepE
  rw [if_pos hc, if_neg (by have := hr.gr; omega), if_pos (of_rt hr)]
 exact ⟨hE, by unfold stepR; rw [if_pos hE]⟩
theorem asks_of {L : Ln} {l : List Int} {k p lo : Int} (h : Rt L l) (hp : lo ≤ p ∧ p ≤ 10000000000000) (hk : L.st = k) : asksE L l k p lo = 0 := by
 unfold asksE
 rw [of_rt h, inB_of hp, Bool.true_and, if_pos rfl, if_pos hk]
theorem chk_of {L : Ln} {l : List Int} {p : Int} (h : Rt L l) (hp : 0 ≤ p ∧ p ≤ 10000000000000) (hk : L.st = 1) (hl : l ≠ []) : chk1 L l p = 0 := by
 unfold chk1
 rw [if_pos (asks_of h hp hk), if_neg (fun e => hl (List.eq_nil_of_length_eq_zero e))]
theorem al_first {r : Int} (h1 : 60000000000 < r) (h2 : r < 80000000000) : stepE 1 (newK 1 1000 r) [500, 605] 500 = 0 ∧ stepR 1 (newK 1 1000 r) [500, 605] 500 = ⟨alK r, [605], ⟨qI 1000 r, 500, 0, 0⟩⟩ := by
 have q1 : 60 ≤ qI 1000 r := near_ge (by omega) (by omega)
 have q2 : qI 1000 r ≤ 80 := near_le (by omega) (by omega)
 have e : doS 1 (newK 1 1000 r) [500, 605] 500 = ⟨alK r, [605], ⟨qI 1000 r, 500, 0, 0⟩⟩ := by
  simp [doS, stepL, newK, recvK, recvJ, recvB, alK]
 have hR : Rt (newK 1 1000 r) [500, 605] := by
  refine ⟨?_, ?_, ?_, ?_, ⟨?_, ?_⟩, ?_, ?_, ?_, ?_, ?_, ?_, ?_, ?_, ?_, ?_, ?_⟩ <;> simp [newK] <;> omega
 have hK : Rt (alK r) [605] := by
  refine ⟨?_, ?_, ?_, ?_, ⟨?_, ?_⟩, ?_, ?_, ?_, ?_, ?_, ?_, ?_, ?_, ?_, ?_, ?_⟩ <;> simp [alK] <;> omega
 have k := stepd_of (k := 1) (L := newK 1 1000 r) (l := [500, 605]) (p := 500) (chk_of hR ⟨by omega, by omega⟩ rfl (by simp)) (by rw [e]; exact hK)
 rw [e] at k
 exact k
theorem al_last {r : Int} (h1 : 60000000000 < r) (h2 : r < 80000000000) : stepE 1 (alK r) [605] 605 = 0 ∧ ∃ m, stepR 1 (alK r) [605] 605 = ⟨alZ r, [], m⟩ := by
 have q1 : 60 ≤ qI 1000 r := near_ge (by omega) (by omega)
 have q2 : qI 1000 r ≤ 80 := near_le (by omega) (by omega)
 obtain ⟨m, e⟩ : ∃ m, doS 1 (alK r) [605] 605 = ⟨alZ r, [], m⟩ := by
  refine ⟨⟨605 - (1000 + (qI 1000 r - 500)), 605, 0, 0⟩, ?_⟩
  have hb : recvB (stepL (alK r) (([605] : List Int).headD 0)) ([605] : List Int).tail.isEmpty 605 = true := by simp [recvB, stepL, alK]
  simp only [doS, if_true, recvK, recvJ, hb]
  simp only [stepL, alK, alZ, List.tail_cons, Dn.mk.injEq, Ln.mk.injEq, true_and, and_true]
  omega
 have hR : Rt (alK r) [605] := by
  refine ⟨?_, ?_, ?_, ?_, ⟨?_, ?_⟩, ?_, ?_, ?_, ?_, ?_, ?_, ?_, ?_, ?_, ?_, ?_⟩ <;> simp [alK] <;> omega
 have hK : Rt (alZ r) [] := by
  refine ⟨?_, ?_, ?_, ?_, ⟨?_, ?_⟩, ?_, ?_, ?_, ?_, ?_, ?_, ?_, ?_, ?_, ?_, ?_⟩ <;> simp [alZ] <;> omega
 have k := stepd_of (k := 1) (L := alK r) (l := [605]) (p := 605) (chk_of hR ⟨by omega, by omega⟩ rfl (by simp)) (by rw [e]; exact hK)
 rw [e] at k
 exact ⟨k.1, m, k.2⟩
theorem row_two (w : World) (x y : Int) (hx : In64 x) (hy : In64 y) : Row (w.alloc (.cells #[.int .i64 x, .int .i64 y] 2)) (.slice (some ⟨w.heap.size, 0, none⟩) 2 2) [x, y] := by
 refine Or.inr ⟨w.heap.size, 0, 2, rfl, by simp, by unfold maxLen; simp, fun j hj => ?_, fun z hz => by simp at hz; rcases hz with rfl | rfl <;> assumption⟩
 rw [World.cell?_alloc_at _ _ _ _ rfl]
 match j, hj with
 | 0, _ => rfl
 | 1, _ => rfl
def AliveL : Prop := ∀ w : World, Calls (Tri Try.prog) 26 #[] w fun e w' => e = .returned (.bool true) ∧ Below w.heap.size w w'
theorem aliveL : AliveL := by
 intro w
 have HN := hide (new_any (id := 1) (out := 1000) ⟨by omega, by omega⟩ (row_two w 500 605 ⟨by omega, by omega⟩ ⟨by omega, by omega⟩) ⟨Nat.le_refl _, fun e => by cases e⟩ (by simp))
 unfold NewA at HN
 have HB := hide (below1L w (.cells #[.int .i64 500, .int .i64 605] 2))
 go_enter (Tri.at (by decide) Try.func26), Try.ntmps26
 go_wp2_with fail
 refine (uh HN).mono ?_
 rintro z w1 ⟨r, e, hE, hz, hb⟩
 obtain ⟨rfl, r1, r2⟩ := eg3 hE
 rcases hz with ⟨h, _⟩ | ⟨_, a1, c1, rfl, hr, hs, _⟩
 ·exact absurd rfl h
 replace HB := hide (below_via (uh HB) hb)
 have HR := hide hr
 have HS := hide hs
 clear hb hr hs hE HN
 have H1 : Hid (∀ (w1 : World) (a : Option Addr) (c : Nat), Row w1 (.slice a 2 c) [500, 605] → Sl a 2 c → Calls (Tri Try.prog) 68 #[.agg (lnA (newK 1 1000 r) (.slice a 2 c)), .int .i64 500] w1 fun z w2 => ∃ a3 c3 m0 m1 m2 m3, z = .returned (.tuple #[.agg (lnA (alK r) (.slice a3 1 c3)), .agg #[.int .i64 m0, .int .i64 m1, .int .i64 m2, .int .i64 m3], .int .i64 0]) ∧ Row w2 (.slice a3 1 c3) [605] ∧ Sl a3 1 c3 ∧ Below w1.heap.size w1 w2) := hide (fun w1 a c h1 h2 => (step_1 (p := 500) h1 h2 (by simp)).mono fun z w2 ⟨a3, c3, g1, g2, g3, _, g5⟩ => by
  rw [(al_first r1 r2).1, (al_first r1 r2).2] at g1
  rw [(al_first r1 r2).2] at g2 g3
  exact ⟨a3, c3, _, _, _, _, g1, g2, g3, g5⟩)
 obtain ⟨Z1, m9, Z2⟩ := al_last r1 r2
 have H2 : Hid (∀ (w1 : World) (a : Option Addr) (c : Nat), Row w1 (.slice a 1 c) [605] → Sl a 1 c → Calls (Tri Try.prog) 68 #[.agg (lnA (alK r) (.slice a 1 c)), .int .i64 605] w1 fun z w2 => ∃ a3 c3 m0 m1 m2 m3, z = .returned (.tuple #[.agg (lnA (alZ r) (.slice a3 0 c3)), .agg #[.int .i64 m0, .int .i64 m1, .int .i64 m2, .int .i64 m3], .int .i64 0]) ∧ Row w2 (.slice a3 0 c3) [] ∧ Sl a3 0 c3 ∧ Below w1.heap.size w1 w2) := hide (fun w1 a c h1 h2 => (step_1 (p := 605) h1 h2 (by simp)).mono fun z w2 ⟨a3, c3, g1, g2, g3, _, g5⟩ => by
  rw [Z1, Z2] at g1
  rw [Z2] at g2 g3
  exact ⟨a3, c3, _, _, _, _, g1, g2, g3, g5⟩)
 clear Z1 Z2 m9
 have d1 : decide (60000000000 < (newK 1 1000 r).rt) = true := decide_eq_true r1
 have d2 : decide ((newK 1 1000 r).rt < 80000000000) = true := decide_eq_true r2
 have d3 : ((alZ r).st == 2) = true := rfl
 have d4 : ((alZ r).inc == 105) = true := rfl
 have d5 : ((alZ r).gr == 0) = true := rfl
 clear r1 r2
 generalize newK 1 1000 r = K0 at *
 generalize alK r = K1 at *
 generalize alZ r = K2 at *
 have HK := hide (Blk.new w1 (lnA K0 (.slice a1 2 c1)) 53)
 replace HB := hide (below_via (uh HB) (below1L w1 (.cells (lnA K0 (.slice a1 2 c1)) 53)))
 have HR1 := hide ((uh HR).alloc (.cells (lnA K0 (.slice a1 2 c1)) 53))
 go_wp2_with fail
 refine (uh H1 _ _ _ (uh HR1) (uh HS)).mono ?_
 rintro z w2 ⟨a2, c2, m0, m1, m2, m3, rfl, hr, hs, hb⟩
 have HR2 : Hid (Row ((w2.alloc (.cells (lnA K1 (.slice a2 1 c2)) 53)).alloc (.cells #[.int .i64 m0, .int .i64 m1, .int .i64 m2, .int .i64 m3] 65)) (.slice a2 1 c2) [605]) := hide ((hr.alloc _).alloc _)
 have HS2 := hide hs
 have bb : Below w2.heap.size w2 ((w2.alloc (.cells (lnA K1 (.slice a2 1 c2)) 53)).alloc (.cells #[.int .i64 m0, .int .i64 m1, .int .i64 m2, .int .i64 m3] 65)) := (below1L w2 _).alloc (by simp) _
 replace HB := hide (below_via (below_via (uh HB) hb) bb)
 replace HK := hide (((uh HK).keep hb).keep bb)
 clear hb hr hs bb HR HR1 HS H1
 go_wp2_with fail
 refine (uh H2 _ _ _ (uh HR2) (uh HS2)).mono ?_
 rintro z w3 ⟨a4, c4, x0, x1, x2, x3, rfl, hr, hs, hb⟩
 have bb : Below w3.heap.size w3 ((w3.alloc (.cells (lnA K2 (.slice a4 0 c4)) 53)).alloc (.cells #[.int .i64 x0, .int .i64 x1, .int .i64 x2, .int .i64 x3] 65)) := (below1L w3 _).alloc (by simp) _
 replace HB := hide (below_via (below_via (uh HB) hb) bb)
 replace HK := hide (((uh HK).keep hb).keep bb)
 clear hb hr hs bb HR2 HS2 H2
 have q4 := (uh HK).at 4 (.int .i64 K0.rt) rfl
 go_wp2_with fail
 go_ret
 exact ⟨rfl, uh HB⟩
end Go.Proofs.Ytpeoabopeihadaa.Mn
