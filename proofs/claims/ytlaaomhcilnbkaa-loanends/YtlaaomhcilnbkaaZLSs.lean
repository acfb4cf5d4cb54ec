/- What each step does. -/
import Derived.Test.YtlaaomhcilnbkaaZLPl
import Derived.Test.YtlaaomhcilnbkaaZLSy
import Derived.Test.YtlaaomhcilnbkaaZLSzo
set_option linter.unusedVariables false
set_option linter.unusedSimpArgs false
set_option linter.unusedSectionVars false
namespace Go.Proofs.Ytlaaomhcilnbkaa.Mn
open Go.RowKit
attribute [local simp] Tri.typeInfo Tri.sizeOf Tri.underlying Tri.runUnderlying Tri.isAgg Tri.zeroValue Tri.depth Tri.stoodInHeld Tri.eqGuardType Tri.call16 Tri.call22 Tri.call28 Tri.call29 Tri.call33 Tri.call38 Tri.call39 Tri.call42 Tri.call45 Tri.call48 Tri.call52 Tri.call54 Tri.call62 Tri.call63 Tri.call65 Tri.call66 Tri.call68 Tri.call69 Tri.call70 Tri.call71 Tri.call78 Tri.call79 Tri.call80 Tri.call81 Tri.call82 Tri.call83 Tri.call84 Tri.call85 Tri.call86 Tri.call89 Tri.call101 Tri.call102 Tri.call103 Tri.call104 Tri.call105 Tri.call107 Tri.call113 Tri.call123 Tri.call124 Tri.call125 Tri.call126 Tri.call127 Tri.call136 Tri.call138 Tri.call139 Tri.call140 Tri.call141 Tri.call142 Tri.call143 Tri.call144 Tri.call154 Tri.call155 Tri.call165 Tri.call167 Tri.call184
theorem recv_any (L : Ln) (a : Option Addr) (n c : Nat) (p J : Int) (bgr : -4503599627370496 ≤ L.gr ∧ L.gr ≤ 4503599627370496) (bdue : -4503599627370496 ≤ L.due ∧ L.due ≤ 4503599627370496) (binc : -4503599627370496 ≤ L.inc ∧ L.inc ≤ 4503599627370496) (bgot : -4503599627370496 ≤ L.got ∧ L.got ≤ 4503599627370496) (bp : 0 ≤ p ∧ p ≤ 10000000000000) (bJ : -1152921504606846976 ≤ J ∧ J ≤ 1152921504606846976) (e : Bool) (he : e = decide (n = 0)) :
    ∃ a2 n2 c2, (∀ w1 : World, Calls (Tri Try.prog) 81 #[.agg #[.int .i64 L.id, .int .i64 L.st, .int .i64 L.be, .int .i64 L.out, .int .i64 L.rt, .int .i64 L.gr, .int .i64 L.due, .int .i64 L.inc, .int .i64 L.got, .int .i64 L.adj, .int .i64 L.wri, .int .i64 L.rcv, .slice a n c], .int .i64 p, .int .i64 J] w1 fun z w2 => z = .returned (.tuple #[.agg #[.int .i64 (recvK L e p J).id, .int .i64 (recvK L e p J).st, .int .i64 (recvK L e p J).be, .int .i64 (recvK L e p J).out, .int .i64 (recvK L e p J).rt, .int .i64 (recvK L e p J).gr, .int .i64 (recvK L e p J).due, .int .i64 (recvK L e p J).inc, .int .i64 (recvK L e p J).got, .int .i64 (recvK L e p J).adj, .int .i64 (recvK L e p J).wri, .int .i64 (recvK L e p J).rcv, .slice a2 n2 c2], .agg #[.int .i64 (recvJ L e p J), .int .i64 p, .int .i64 0, .int .i64 0]]) ∧ Below w1.heap.size w1 w2) ∧ ((recvB L e p = true ∧ a2 = none ∧ n2 = 0 ∧ c2 = 0) ∨ (a2 = a ∧ n2 = n ∧ c2 = c)) := by
  unfold recvK recvJ
  by_cases hd : L.due - p ≤ 0
  · by_cases hn : n = 0
    · have hb : recvB L e p = true := by unfold recvB; rw [he, decide_eq_true hn, decide_eq_true hd]; rfl
      refine ⟨none, 0, 0, fun w1 => ?_, .inl ⟨hb, rfl, rfl, rfl⟩⟩
      simp only [hb, if_true]
      exact recv_p L a n c p J w1 bgr.1 bgr.2 bdue.1 bdue.2 binc.1 binc.2 bgot.1 bgot.2 bp.1 bp.2 bJ.1 bJ.2 (by simpa using hn) (decide_eq_true hd)
    · have hb : recvB L e p = false := by unfold recvB; rw [he, decide_eq_false hn]; rfl
      refine ⟨a, n, c, fun w1 => ?_, .inr ⟨rfl, rfl, rfl⟩⟩
      simp only [hb, if_pos hd, if_false, Bool.false_eq_true]
      exact recv_z L a n c p J w1 bgr.1 bgr.2 bdue.1 bdue.2 binc.1 binc.2 bgot.1 bgot.2 bp.1 bp.2 bJ.1 bJ.2 (by simpa using hn) (decide_eq_true hd)
  · have hb : recvB L e p = false := by unfold recvB; rw [decide_eq_false hd, Bool.and_false]
    refine ⟨a, n, c, fun w1 => ?_, .inr ⟨rfl, rfl, rfl⟩⟩
    simp only [hb, if_neg hd, if_false, Bool.false_eq_true]
    by_cases hn : n = 0
    · exact recv_l L a n c p J w1 bgr.1 bgr.2 bdue.1 bdue.2 binc.1 binc.2 bgot.1 bgot.2 bp.1 bp.2 bJ.1 bJ.2 (by simpa using hn) (decide_eq_false hd)
    · exact recv_k L a n c p J w1 bgr.1 bgr.2 bdue.1 bdue.2 binc.1 binc.2 bgot.1 bgot.2 bp.1 bp.2 bJ.1 bJ.2 (by simpa using hn) (decide_eq_false hd)
def DoA (fd : Nat) (w : World) (L : Ln) (a : Option Addr) (n c pb : Nat) (D : Dn) : Prop := ∃ a2 c2, (∀ w1 : World, Below w.heap.size w w1 → Calls (Tri Try.prog) fd #[.agg #[.int .i64 L.id, .int .i64 L.st, .int .i64 L.be, .int .i64 L.out, .int .i64 L.rt, .int .i64 L.gr, .int .i64 L.due, .int .i64 L.inc, .int .i64 L.got, .int .i64 L.adj, .int .i64 L.wri, .int .i64 L.rcv, .slice a n c], .pointer (some ⟨pb, 0, none⟩)] w1 fun z w2 => z = .returned (.tuple #[.agg #[.int .i64 (D.K).id, .int .i64 (D.K).st, .int .i64 (D.K).be, .int .i64 (D.K).out, .int .i64 (D.K).rt, .int .i64 (D.K).gr, .int .i64 (D.K).due, .int .i64 (D.K).inc, .int .i64 (D.K).got, .int .i64 (D.K).adj, .int .i64 (D.K).wri, .int .i64 (D.K).rcv, .slice a2 D.l.length c2], .agg #[.int .i64 D.m.i, .int .i64 D.m.p, .int .i64 D.m.w, .int .i64 D.m.r]]) ∧ Below w1.heap.size w1 w2) ∧ Row w (.slice a2 D.l.length c2) D.l ∧ Sl a2 D.l.length c2
theorem cell_via {w w1 : World} {pb : Nat} {v : Value} (hb : Below w.heap.size w w1) (h : w.cell? ⟨pb, 0, none⟩ = some v) : w1.cell? ⟨pb, 0, none⟩ = some v := (hb.cell (p := ⟨pb, 0, none⟩) (lt_of_cell h)).trans h
theorem row_n {w : World} {a : Option Addr} {n c : Nat} {l : List Int} (h : Row w (.slice a n c) l) : n = l.length := by
  obtain ⟨a', c', e⟩ := row_slice h
  injection e
theorem row_tail {w : World} {b o c : Nat} {x : Int} {t : List Int} (h : Row w (.slice (some ⟨b, o, none⟩) (t.length + 1) c) (x :: t)) : w.cell? ⟨b, o, none⟩ = some (.int .i64 x) ∧ Row w (.slice (some ⟨b, o + 1, none⟩) t.length (c - 1)) t := by
  rcases h with ⟨a, c', e, h⟩ | ⟨b', o', c', e, h1, h2, h3, h4⟩
  · cases h
  · injection e with e1 e2 e3
    injection e1 with e1
    injection e1 with e1 e4
    subst e1 e4 e3
    refine ⟨by simpa using h3 0 (by simp), ?_⟩
    cases t with
    | nil => exact .inl ⟨_, _, rfl, rfl⟩
    | cons y s =>
      refine .inr ⟨b, o + 1, c - 1, rfl, by simp, by simp at h2 ⊢; omega, fun j hj => ?_, fun z hz => h4 z (List.mem_cons_of_mem _ hz)⟩
      have k := h3 (j + 1) (by simp at hj ⊢; omega)
      rw [show o + 1 + j = o + (j + 1) by omega, k]
      simp [List.getD]
theorem do_1 {L : Ln} {a : Option Addr} {n c pb : Nat} {x : Int} {t : List Int} {p : Int} {w : World} (hR : Row w (.slice a n c) (x :: t)) (hS : Sl a n c) (hp : w.cell? ⟨pb, 0, none⟩ = some (.int .i64 p)) (h : Rt L (x :: t)) (bp : 0 ≤ p ∧ p ≤ 10000000000000) : DoA 80 w L a n c pb (doS 1 L (x :: t) p) := by
  have hn := row_n hR
  simp only [List.length_cons] at hn
  subst hn
  have h1 := h.gr
  have h2 := h.due
  have h3 := h.inc
  have h4 := h.got
  have h5 := h.be
  have hx := h.amt x List.mem_cons_self
  have hq := qI_small h.rt h1.1
  have hrt := h.rt
  obtain ⟨b, o, rfl⟩ : ∃ b o, a = some ⟨b, o, none⟩ := by
    rcases hR with ⟨_, _, _, e⟩ | ⟨b, o, c', e, _⟩
    · cases e
    · injection e with e1
      exact ⟨b, o, e1⟩
  obtain ⟨hc0, hRt⟩ := row_tail hR
  have hSc := hS.1
  have key : ∀ (a1 : Option Addr) (c1 : Nat), Row w (.slice a1 t.length c1) t → Sl a1 t.length c1 →
      (∀ (K : Ln) (a2 : Option Addr) (n2 c2 : Nat) (E : Int) (w1 : World), Below w.heap.size w w1 →
        (∀ w1 : World, Calls (Tri Try.prog) 82 #[.agg #[.int .i64 (stepL L x).id, .int .i64 (stepL L x).st, .int .i64 (stepL L x).be, .int .i64 (stepL L x).out, .int .i64 (stepL L x).rt, .int .i64 (stepL L x).gr, .int .i64 (stepL L x).due, .int .i64 (stepL L x).inc, .int .i64 (stepL L x).got, .int .i64 (stepL L x).adj, .int .i64 (stepL L x).wri, .int .i64 (stepL L x).rcv, .slice a1 t.length c1]] w1 fun z w2 => z = .returned (.int .i64 (qI L.gr L.rt)) ∧ Below w1.heap.size w1 w2) →
        (∀ w1 : World, Calls (Tri Try.prog) 81 #[.agg #[.int .i64 (stepL L x).id, .int .i64 (stepL L x).st, .int .i64 (stepL L x).be, .int .i64 (stepL L x).out, .int .i64 (stepL L x).rt, .int .i64 (stepL L x).gr, .int .i64 (stepL L x).due, .int .i64 (stepL L x).inc, .int .i64 (stepL L x).got, .int .i64 (stepL L x).adj, .int .i64 (stepL L x).wri, .int .i64 (stepL L x).rcv, .slice a1 t.length c1], .int .i64 p, .int .i64 (qI L.gr L.rt)] w1 fun z w2 => z = .returned (.tuple #[.agg #[.int .i64 K.id, .int .i64 K.st, .int .i64 K.be, .int .i64 K.out, .int .i64 K.rt, .int .i64 K.gr, .int .i64 K.due, .int .i64 K.inc, .int .i64 K.got, .int .i64 K.adj, .int .i64 K.wri, .int .i64 K.rcv, .slice a2 n2 c2], .agg #[.int .i64 E, .int .i64 p, .int .i64 0, .int .i64 0]]) ∧ Below w1.heap.size w1 w2) →
        Calls (Tri Try.prog) 80 #[.agg #[.int .i64 L.id, .int .i64 L.st, .int .i64 L.be, .int .i64 L.out, .int .i64 L.rt, .int .i64 L.gr, .int .i64 L.due, .int .i64 L.inc, .int .i64 L.got, .int .i64 L.adj, .int .i64 L.wri, .int .i64 L.rcv, .slice (some ⟨b, o, none⟩) (t.length + 1) c], .pointer (some ⟨pb, 0, none⟩)] w1 fun z w2 => z = .returned (.tuple #[.agg #[.int .i64 K.id, .int .i64 K.st, .int .i64 K.be, .int .i64 K.out, .int .i64 K.rt, .int .i64 K.gr, .int .i64 K.due, .int .i64 K.inc, .int .i64 K.got, .int .i64 K.adj, .int .i64 K.wri, .int .i64 K.rcv, .slice a2 n2 c2], .agg #[.int .i64 E, .int .i64 p, .int .i64 0, .int .i64 0]]) ∧ Below w1.heap.size w1 w2) → DoA 80 w L (some ⟨b, o, none⟩) (t.length + 1) c pb (doS 1 L (x :: t) p) := by
    intro a1 c1 hr hs hk
    obtain ⟨a2, n2, c2, hcv, ho⟩ := recv_any (stepL L x) a1 t.length c1 p (qI L.gr L.rt) ⟨by show _ ≤ L.gr; omega, by show L.gr ≤ _; omega⟩ ⟨by show _ ≤ L.due + x; omega, by show L.due + x ≤ _; omega⟩ ⟨by show _ ≤ L.inc; omega, by show L.inc ≤ _; omega⟩ ⟨by show _ ≤ L.got; omega, by show L.got ≤ _; omega⟩ bp ⟨by omega, by omega⟩ t.isEmpty (by cases t <;> rfl)
    have hl : n2 = t.length ∧ Row w (.slice a2 n2 c2) t ∧ Sl a2 n2 c2 := by
      rcases ho with ⟨hb, rfl, rfl, rfl⟩ | ⟨rfl, rfl, rfl⟩
      · unfold recvB at hb
        simp only [Bool.and_eq_true] at hb
        have e : t = [] := by
          have := hb.1
          cases t with
          | nil => rfl
          | cons x t => cases this
        subst e
        exact ⟨rfl, .inl ⟨_, _, rfl, rfl⟩, Sl.nil⟩
      · exact ⟨rfl, hr, hs⟩
    obtain ⟨rfl, hr2, hs2⟩ := hl
    exact ⟨a2, c2, fun w1 hb => hk (recvK (stepL L x) t.isEmpty p (qI L.gr L.rt)) a2 t.length c2 _ w1 hb (fun w1 => inter_any (stepL L x) a1 t.length c1 w1 hrt h1.1 h1.2) hcv, hr2, hs2⟩
  by_cases hc1 : c = 1
  · subst hc1
    have ht : t = [] := List.eq_nil_of_length_eq_zero (by omega)
    subst ht
    refine key (some ⟨b, o, none⟩) 0 (.inl ⟨_, _, rfl, rfl⟩) ⟨Nat.le_refl _, fun e => by cases e⟩ (fun K a2 n2 c2 E w1 hb hi hv => ?_)
    rcases Int.lt_or_le 600 (L.be + 1) with o1 | o1
    · have e : min (L.be + 1) 600 = 600 := by omega
      simp only [stepL, e] at hi hv
      exact do_80oh L K a2 b o n2 c2 pb p x (qI L.gr L.rt) E w1 (cell_via hb hp) ((hb.cell (p := ⟨b, o, none⟩) (lt_of_cell hc0)).trans hc0) o1 h5.1 h5.2 (by omega) (by omega) hx.1 hx.2 (hide hi) (hide hv)
    · have e : min (L.be + 1) 600 = L.be + 1 := by omega
      simp only [stepL, e] at hi hv
      exact do_80ol L K a2 b o n2 c2 pb p x (qI L.gr L.rt) E w1 (cell_via hb hp) ((hb.cell (p := ⟨b, o, none⟩) (lt_of_cell hc0)).trans hc0) o1 h5.1 h5.2 (by omega) (by omega) hx.1 hx.2 (hide hi) (hide hv)
  · refine key (some ⟨b, o + 1, none⟩) (c - 1) hRt ⟨by omega, fun e => by cases e⟩ (fun K a2 n2 c2 E w1 hb hi hv => ?_)
    rcases Int.lt_or_le 600 (L.be + 1) with o1 | o1
    · have e : min (L.be + 1) 600 = 600 := by omega
      simp only [stepL, e] at hi hv
      exact do_80ah L K a2 b o (t.length + 1) c n2 c2 pb p x (qI L.gr L.rt) E w1 (cell_via hb hp) ((hb.cell (p := ⟨b, o, none⟩) (lt_of_cell hc0)).trans hc0) (by omega) (by omega) hc1 o1 h5.1 h5.2 (by omega) (by omega) hx.1 hx.2 (hide hi) (hide hv)
    · have e : min (L.be + 1) 600 = L.be + 1 := by omega
      simp only [stepL, e] at hi hv
      exact do_80al L K a2 b o (t.length + 1) c n2 c2 pb p x (qI L.gr L.rt) E w1 (cell_via hb hp) ((hb.cell (p := ⟨b, o, none⟩) (lt_of_cell hc0)).trans hc0) (by omega) (by omega) hc1 o1 h5.1 h5.2 (by omega) (by omega) hx.1 hx.2 (hide hi) (hide hv)
end Go.Proofs.Ytlaaomhcilnbkaa.Mn
