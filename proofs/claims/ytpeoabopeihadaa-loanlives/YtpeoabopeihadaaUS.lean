/- A loan that is paid out: New. -/
import Derived.Test.YtpeoabopeihadaaUL
import Derived.Test.YtpeoabopeihadaaUQK
import Derived.Test.YtpeoabopeihadaaUM
import Derived.Test.YtpeoabopeihadaaUN
import Derived.Test.YtpeoabopeihadaaUP
import Derived.Test.YtpeoabopeihadaaUT
set_option linter.unusedVariables false
set_option linter.unusedSimpArgs false
set_option linter.unusedSectionVars false
namespace Go.Proofs.Ytpeoabopeihadaa.Mn
open Go.RowKit
attribute [local simp] Tri.typeInfo Tri.sizeOf Tri.underlying Tri.runUnderlying Tri.isAgg Tri.zeroValue Tri.depth Tri.stoodInHeld Tri.eqGuardType Tri.call15 Tri.call26 Tri.call27 Tri.call31 Tri.call33 Tri.call36 Tri.call37 Tri.call44 Tri.call46 Tri.call49 Tri.call52 Tri.call54 Tri.call65 Tri.call66 Tri.call68 Tri.call69 Tri.call70 Tri.call72 Tri.call73 Tri.call74 Tri.call75 Tri.call81 Tri.call82 Tri.call83 Tri.call84 Tri.call85 Tri.call86 Tri.call87 Tri.call88 Tri.call95 Tri.call99 Tri.call100 Tri.call101 Tri.call106 Tri.call116 Tri.call117 Tri.call118 Tri.call119 Tri.call120 Tri.call122 Tri.call123 Tri.call124 Tri.call125 Tri.call126 Tri.call143 Tri.call144 Tri.call145 Tri.call146 Tri.call147 Tri.call156 Tri.call157 Tri.call159 Tri.call160 Tri.call161 Tri.call162 Tri.call163 Tri.call164 Tri.call165 Tri.call175 Tri.call176 Tri.call186 Tri.call188 Tri.call205
def newK (id out r : Int) : Ln := ⟨id, 1, 0, out, r, out, 0, 0, 0, 0, 0, 0⟩
def NewE (id out : Int) (l : List Int) (r e : Int) : Prop := (inB 0 id 2147483647 = false ∧ r = 0 ∧ e = 2) ∨ (inB 0 id 2147483647 = true ∧ Eir out l r e)
def NewA (w : World) (id out : Int) (v : Value) (l : List Int) : Prop := Calls (Tri Try.prog) 27 #[.int .i64 id, .int .i64 out, v] w fun z w' => ∃ r e, NewE id out l r e ∧ ((e ≠ 0 ∧ z = .returned (.tuple #[.agg lnZ, .int .i64 e])) ∨ (e = 0 ∧ ∃ a' c', z = .returned (.tuple #[.agg (lnA (newK id out r) (.slice a' l.length c')), .int .i64 0]) ∧ Row w' (.slice a' l.length c') l ∧ Sl a' l.length c' ∧ (∀ x, a' = some x → w.heap.size ≤ x.block))) ∧ Below w.heap.size w w'
theorem new_a (id out : Int) (a : Option Addr) (n c : Nat) (w : World) (l : List Int) (h : inB 0 id 2147483647 = false) : NewA w id out (.slice a n c) l := by
  unfold NewA
  have H := hide (name_is h)
  have HN := hide (show NewE id out l 0 2 from .inl ⟨h, rfl, rfl⟩)
  clear h
  go_enter (Tri.at (by decide) Try.func27), Try.ntmps27
  go_wp2_with fail
  refine (unhide H _).mono ?_
  rintro z w1 ⟨rfl, rfl⟩
  go_wp2_with fail
  exact bodyPost_ret (v := .tuple #[.agg lnZ, .int .i64 2]) (by simp [results, Try.results27, go_sem]) rfl ⟨0, 2, unhide HN, .inl ⟨by decide, rfl⟩, below1L w _⟩
set_option maxHeartbeats 4000000 in
theorem new_b (id out : Int) (a : Option Addr) (n c : Nat) (w : World) (l : List Int) (h : inB 0 id 2147483647 = true) (ho : In64 out) (hR : Row w (.slice a n c) l) (hS : Sl a n c) (hl : l.length ≤ 17592186044000) : NewA w id out (.slice a n c) l := by
  unfold NewA
  have H := hide (name_is h)
  have HB := hide (below1L w (.cells lnZ 53))
  have HZ := hide (Blk.new w lnZ 53)
  have HR := hide (hR.alloc (.cells lnZ 53))
  have HS : Hid (∀ w1, Row w1 (.slice a n c) l → SolA9 w1 out (.slice a n c) l) := hide (fun w1 h1 => s9_any ho h1)
  unfold SolA9 at HS
  have HN : Hid (∀ r e, Eir out l r e → NewE id out l r e) := hide (fun r e k => .inr ⟨h, k⟩)
  have HSl := hide hS
  have HL := hide hl
  clear h ho hR hS hl
  go_enter (Tri.at (by decide) Try.func27), Try.ntmps27
  go_wp2_with fail
  refine (unhide H _).mono ?_
  rintro z w0 ⟨rfl, rfl⟩
  go_wp2_with fail
  refine (unhide HS _ (unhide HR)).mono ?_
  rintro z w1 ⟨r, e, hE, rfl, hb⟩
  replace HB := hide (below_via (unhide HB) hb)
  replace HZ := hide ((unhide HZ).keep hb)
  replace HR := hide ((unhide HR).below hb (Nat.le_refl _))
  replace HN := hide (unhide HN r e hE)
  clear hb hE HS H
  by_cases he : e = 0
  · subst he
    have t0 : ((0 : Int) != 0) = false := rfl
    go_wp2_with fail
    refine (copied_any (unhide HR) (unhide HSl) (unhide HL)).mono ?_
    rintro z w2 ⟨a', c', rfl, hr, hs, hf, hb⟩
    have HF : Hid (∀ x, a' = some x → w.heap.size < x.block) := hide (fun x hx => Nat.lt_of_lt_of_le (unhide HZ).lt (hf x hx))
    replace HB := hide (below_via (unhide HB) hb)
    replace HZ := hide ((unhide HZ).keep hb)
    have HR2 := hide hr
    have HS2 := hide hs
    clear hb hr hs hf
    obtain ⟨z0, z1, z2, z3, z4, z5, z6, z7, z8, z9, z10, z11, z12⟩ := Blk.c13 (show Blk _ _ _ _ from (unhide HZ))
    obtain ⟨f0, f1, f2, f3, f4, f5, f6, f7, f8, f9, f10, f11, f12⟩ := Blk.z13 (show Blk _ _ _ _ from (unhide HZ))
    go_wp2_with fail
    clear z0 f0 z1 f1 z2 f2 z3 f3 z4 f4 z5 f5 z6 f6 z7 f7 z8 f8 z9 f9 z10 f10 z11 f11 z12 f12
    generalize hW : World.setCell _ _ _ = W
    have k2 : Blk W w.heap.size #[.int .i64 id, .int .i64 1, .int .i64 0, .int .i64 out, .int .i64 r, .int .i64 out, .int .i64 0, .int .i64 0, .int .i64 0, .int .i64 0, .int .i64 0, .int .i64 0, .slice a' l.length c'] 53 := by rw [← hW]; exact (unhide HZ).wr13 _ _ _ _ _ _ _ _ _ _ _ _ _
    have k4 : Below w.heap.size w W := by rw [← hW]; exact below_putN (Nat.le_refl _) [_, _, _, _, _, _, _, _, _, _, _, _, _] 0 (unhide HB)
    have k5 : Row W (.slice a' l.length c') l := by rw [← hW]; exact Row.offN (fun x hx => by have := unhide HF x hx; omega) [_, _, _, _, _, _, _, _, _, _, _, _, _] 0 (unhide HR2)
    have k6 : ∀ x, a' = some x → w.heap.size ≤ x.block := fun x hx => Nat.le_of_lt (unhide HF x hx)
    have k7 := unhide HS2
    clear hW
    obtain ⟨p0, p1, p2, p3, p4, p5, p6, p7, p8, p9, p10, p11, p12⟩ := Blk.c13 k2
    exact bodyPost_ret (v := .tuple #[.agg #[.int .i64 id, .int .i64 1, .int .i64 0, .int .i64 out, .int .i64 r, .int .i64 out, .int .i64 0, .int .i64 0, .int .i64 0, .int .i64 0, .int .i64 0, .int .i64 0, .slice a' l.length c'], .int .i64 0]) (by simp [results, Try.results27, go_sem, p0, p1, p2, p3, p4, p5, p6, p7, p8, p9, p10, p11, p12]) rfl ⟨r, 0, unhide HN, .inr ⟨rfl, a', c', rfl, k5, k7, k6⟩, k4⟩
  · have t0 : (e != 0) = true := by simpa using he
    obtain ⟨z0, z1, z2, z3, z4, z5, z6, z7, z8, z9, z10, z11, z12⟩ := Blk.c13 (show Blk _ _ _ _ from (unhide HZ))
    obtain ⟨f0, f1, f2, f3, f4, f5, f6, f7, f8, f9, f10, f11, f12⟩ := Blk.z13 (show Blk _ _ _ _ from (unhide HZ))
    go_wp2_with fail
    clear z0 f0 z1 f1 z2 f2 z3 f3 z4 f4 z5 f5 z6 f6 z7 f7 z8 f8 z9 f9 z10 f10 z11 f11 z12 f12
    generalize hW : World.setCell _ _ _ = W
    have k2 : Blk W w.heap.size lnZ 53 := by rw [← hW]; exact (unhide HZ).wr13 _ _ _ _ _ _ _ _ _ _ _ _ _
    have k4 : Below w.heap.size w W := by rw [← hW]; exact below_putN (Nat.le_refl _) [_, _, _, _, _, _, _, _, _, _, _, _, _] 0 (unhide HB)
    clear hW
    obtain ⟨p0, p1, p2, p3, p4, p5, p6, p7, p8, p9, p10, p11, p12⟩ := Blk.c13 k2
    exact bodyPost_ret (v := .tuple #[.agg lnZ, .int .i64 e]) (by simp [results, Try.results27, go_sem, p0, p1, p2, p3, p4, p5, p6, p7, p8, p9, p10, p11, p12]) rfl ⟨r, e, unhide HN, .inl ⟨he, rfl⟩, k4⟩
theorem new_any {id out : Int} {a : Option Addr} {n c : Nat} {w : World} {l : List Int} (ho : In64 out) (hR : Row w (.slice a n c) l) (hS : Sl a n c) (hl : l.length ≤ 17592186044000) : NewA w id out (.slice a n c) l := by
  by_cases h : inB 0 id 2147483647 = true
  · exact new_b id out a n c w l h ho hR hS hl
  · exact new_a id out a n c w l (Bool.eq_false_iff.2 h)
theorem recv_any (L : Ln) (a : Option Addr) (n c : Nat) (p J : Int) (bgr : -4503599627370496 ≤ L.gr ∧ L.gr ≤ 4503599627370496) (bdue : -4503599627370496 ≤ L.due ∧ L.due ≤ 4503599627370496) (binc : -4503599627370496 ≤ L.inc ∧ L.inc ≤ 4503599627370496) (bgot : -4503599627370496 ≤ L.got ∧ L.got ≤ 4503599627370496) (bp : 0 ≤ p ∧ p ≤ 10000000000000) (bJ : -1152921504606846976 ≤ J ∧ J ≤ 1152921504606846976) (e : Bool) (he : e = decide (n = 0)) :
    ∃ a2 n2 c2, (∀ w1 : World, Calls (Tri Try.prog) 101 #[.agg (lnA L (.slice a n c)), .int .i64 p, .int .i64 J] w1 fun z w2 => z = .returned (.tuple #[.agg (lnA (recvK L e p J) (.slice a2 n2 c2)), .agg #[.int .i64 (recvJ L e p J), .int .i64 p, .int .i64 0, .int .i64 0]]) ∧ Below w1.heap.size w1 w2) ∧ ((recvB L e p = true ∧ a2 = none ∧ n2 = 0 ∧ c2 = 0) ∨ (a2 = a ∧ n2 = n ∧ c2 = c)) := by
  unfold recvK recvJ
  by_cases hd : L.due - p ≤ 0
  · by_cases hn : n = 0
    · have hb : recvB L e p = true := by unfold recvB; rw [he, decide_eq_true hn, decide_eq_true hd]; rfl
      refine ⟨none, 0, 0, fun w1 => ?_, .inl ⟨hb, rfl, rfl, rfl⟩⟩
      simp only [hb, if_true]
      exact recv_p L a n c p J w1 bgr.1 bgr.2 bdue.1 bdue.2 binc.1 binc.2 bgot.1 bgot.2 bp.1 bp.2 bJ.1 bJ.2 (by simpa using hn) (decide_eq_true hd)
    · have hb : recvB L e p = false := by unfold recvB; rw [he, decide_eq_false hn]; rfl
      refine ⟨a, n, c, fun w1 => ?_, .inr ⟨rfl, rfl, rfl⟩⟩
      simp only [hb, if_pos hd, if_false, Bool.false_eq_true]
      exact recv_z L a n c p J w1 bgr.1 bgr.2 bdue.1 bdue.2 binc.1 binc.2 bgot.1 bgot.2 bp.1 bp.2 bJ.1 bJ.2 (by simpa using hn) (decide_eq_true hd)
  · have hb : recvB L e p = false := by unfold recvB; rw [decide_eq_false hd, Bool.and_false]
    refine ⟨a, n, c, fun w1 => ?_, .inr ⟨rfl, rfl, rfl⟩⟩
    simp only [hb, if_neg hd, if_false, Bool.false_eq_true]
    by_cases hn : n = 0
    · exact recv_l L a n c p J w1 bgr.1 bgr.2 bdue.1 bdue.2 binc.1 binc.2 bgot.1 bgot.2 bp.1 bp.2 bJ.1 bJ.2 (by simpa using hn) (decide_eq_false hd)
    · exact recv_k L a n c p J w1 bgr.1 bgr.2 bdue.1 bdue.2 binc.1 binc.2 bgot.1 bgot.2 bp.1 bp.2 bJ.1 bJ.2 (by simpa using hn) (decide_eq_false hd)
def DoA (fd : Nat) (w : World) (L : Ln) (a : Option Addr) (n c pb : Nat) (D : Dn) : Prop := ∃ a2 c2, (∀ w1 : World, Below w.heap.size w w1 → Calls (Tri Try.prog) fd #[.agg (lnA L (.slice a n c)), .pointer (some ⟨pb, 0, none⟩)] w1 fun z w2 => z = .returned (.tuple #[.agg (lnA (D.K) (.slice a2 D.l.length c2)), .agg #[.int .i64 D.m.i, .int .i64 D.m.p, .int .i64 D.m.w, .int .i64 D.m.r]]) ∧ Below w1.heap.size w1 w2) ∧ Row w (.slice a2 D.l.length c2) D.l ∧ Sl a2 D.l.length c2
theorem cell_via {w w1 : World} {pb : Nat} {v : Value} (hb : Below w.heap.size w w1) (h : w.cell? ⟨pb, 0, none⟩ = some v) : w1.cell? ⟨pb, 0, none⟩ = some v := (hb.cell (p := ⟨pb, 0, none⟩) (lt_of_cell h)).trans h
theorem row_n {w : World} {a : Option Addr} {n c : Nat} {l : List Int} (h : Row w (.slice a n c) l) : n = l.length := by
  obtain ⟨a', c', e⟩ := row_slice h
  injection e
theorem do_2 {L : Ln} {a : Option Addr} {n c pb : Nat} {l : List Int} {p : Int} {w : World} (hR : Row w (.slice a n c) l) (hS : Sl a n c) (hp : w.cell? ⟨pb, 0, none⟩ = some (.int .i64 p)) (h : Rt L l) (bp : 0 ≤ p ∧ p ≤ 10000000000000) : DoA 100 w L a n c pb (doS 2 L l p) := by
  have hn := row_n hR
  have h1 := h.gr
  have h2 := h.due
  have h3 := h.inc
  have h4 := h.got
  obtain ⟨a2, n2, c2, hc, ho⟩ := recv_any L a n c p 0 ⟨by omega, by omega⟩ ⟨by omega, by omega⟩ ⟨by omega, by omega⟩ ⟨by omega, by omega⟩ bp ⟨by omega, by omega⟩ l.isEmpty (by rw [hn]; cases l <;> rfl)
  have hl : n2 = l.length ∧ Row w (.slice a2 n2 c2) l ∧ Sl a2 n2 c2 := by
    rcases ho with ⟨hb, rfl, rfl, rfl⟩ | ⟨rfl, rfl, rfl⟩
    · unfold recvB at hb
      simp only [Bool.and_eq_true] at hb
      have e : l = [] := by
        have := hb.1
        cases l with
        | nil => rfl
        | cons x t => cases this
      subst e
      exact ⟨rfl, .inl ⟨_, _, rfl, rfl⟩, Sl.nil⟩
    · exact ⟨hn, hR, hS⟩
  obtain ⟨rfl, hr, hs⟩ := hl
  exact ⟨a2, c2, fun w1 hb => do_109 L (recvK L l.isEmpty p 0) a a2 n c l.length c2 pb p _ w1 (cell_via hb hp) (hide hc), hr, hs⟩
theorem do_3 {L : Ln} {a : Option Addr} {n c pb : Nat} {l : List Int} {p : Int} {w : World} (hR : Row w (.slice a n c) l) (hS : Sl a n c) (hp : w.cell? ⟨pb, 0, none⟩ = some (.int .i64 p)) (h : Rt L l) (bp : 0 ≤ p ∧ p ≤ 10000000000000) : DoA 83 w L a n c pb (doS 3 L l p) := by
  have hn := row_n hR
  have h1 := h.gr
  have h2 := h.wri
  unfold doS wrK
  by_cases e : L.gr - p = 0
  · simp only [e, if_true, show ¬ (3 : Nat) = 1 by decide, show ¬ (3 : Nat) = 2 by decide, if_false]
    refine ⟨none, 0, fun w1 hb => ?_, .inl ⟨_, _, rfl, rfl⟩, Sl.nil⟩
    have k := do_88z L a n c pb p w1 (cell_via hb hp) bp.1 bp.2 (by omega) (by omega) (by omega) (by omega) (by simpa using e)
    rw [e] at k
    exact k
  · simp only [e, if_false, if_true, show ¬ (3 : Nat) = 1 by decide, show ¬ (3 : Nat) = 2 by decide]
    subst hn
    exact ⟨a, c, fun w1 hb => do_88k L a _ c pb p w1 (cell_via hb hp) bp.1 bp.2 (by omega) (by omega) (by omega) (by omega) (by simpa using e), hR, hS⟩
theorem do_4 {L : Ln} {a : Option Addr} {n c pb : Nat} {l : List Int} {p : Int} {w : World} (hR : Row w (.slice a n c) l) (hS : Sl a n c) (hp : w.cell? ⟨pb, 0, none⟩ = some (.int .i64 p)) (h : Rt L l) (bp : 0 ≤ p ∧ p ≤ 10000000000000) : DoA 88 w L a n c pb (doS 4 L l p) := by
  have hn := row_n hR
  have h1 := h.rcv
  subst hn
  exact ⟨a, c, fun w1 hb => do_91 L a _ c pb p w1 (cell_via hb hp) bp.1 bp.2 (by omega) (by omega), hR, hS⟩
theorem row_tail {w : World} {b o c : Nat} {x : Int} {t : List Int} (h : Row w (.slice (some ⟨b, o, none⟩) (t.length + 1) c) (x :: t)) : w.cell? ⟨b, o, none⟩ = some (.int .i64 x) ∧ Row w (.slice (some ⟨b, o + 1, none⟩) t.length (c - 1)) t := by
  rcases h with ⟨a, c', e, h⟩ | ⟨b', o', c', e, h1, h2, h3, h4⟩
  · cases h
  · injection e with e1 e2 e3
    injection e1 with e1
    injection e1 with e1 e4
    subst e1 e4 e3
    refine ⟨by simpa using h3 0 (by simp), ?_⟩
    cases t with
    | nil => exact .inl ⟨_, _, rfl, rfl⟩
    | cons y s =>
      refine .inr ⟨b, o + 1, c - 1, rfl, by simp, by simp at h2 ⊢; omega, fun j hj => ?_, fun z hz => h4 z (List.mem_cons_of_mem _ hz)⟩
      have k := h3 (j + 1) (by simp at hj ⊢; omega)
      rw [show o + 1 + j = o + (j + 1) by omega, k]
      simp [List.getD]
theorem do_1 {L : Ln} {a : Option Addr} {n c pb : Nat} {x : Int} {t : List Int} {p : Int} {w : World} (hR : Row w (.slice a n c) (x :: t)) (hS : Sl a n c) (hp : w.cell? ⟨pb, 0, none⟩ = some (.int .i64 p)) (h : Rt L (x :: t)) (bp : 0 ≤ p ∧ p ≤ 10000000000000) : DoA 124 w L a n c pb (doS 1 L (x :: t) p) := by
  have hn := row_n hR
  simp only [List.length_cons] at hn
  subst hn
  have h1 := h.gr
  have h2 := h.due
  have h3 := h.inc
  have h4 := h.got
  have h5 := h.be
  have hx := h.amt x List.mem_cons_self
  have hq := qI_small h.rt h1.1
  have hrt := h.rt
  obtain ⟨b, o, rfl⟩ : ∃ b o, a = some ⟨b, o, none⟩ := by
    rcases hR with ⟨_, _, _, e⟩ | ⟨b, o, c', e, _⟩
    · cases e
    · injection e with e1
      exact ⟨b, o, e1⟩
  obtain ⟨hc0, hRt⟩ := row_tail hR
  have hSc := hS.1
  have key : ∀ (a1 : Option Addr) (c1 : Nat), Row w (.slice a1 t.length c1) t → Sl a1 t.length c1 →
      (∀ (K : Ln) (a2 : Option Addr) (n2 c2 : Nat) (E : Int) (w1 : World), Below w.heap.size w w1 →
        (∀ w1 : World, Calls (Tri Try.prog) 125 #[.agg (lnA (stepL L x) (.slice a1 t.length c1))] w1 fun z w2 => z = .returned (.int .i64 (qI L.gr L.rt)) ∧ Below w1.heap.size w1 w2) →
        (∀ w1 : World, Calls (Tri Try.prog) 101 #[.agg (lnA (stepL L x) (.slice a1 t.length c1)), .int .i64 p, .int .i64 (qI L.gr L.rt)] w1 fun z w2 => z = .returned (.tuple #[.agg (lnA K (.slice a2 n2 c2)), .agg #[.int .i64 E, .int .i64 p, .int .i64 0, .int .i64 0]]) ∧ Below w1.heap.size w1 w2) →
        Calls (Tri Try.prog) 124 #[.agg (lnA L (.slice (some ⟨b, o, none⟩) (t.length + 1) c)), .pointer (some ⟨pb, 0, none⟩)] w1 fun z w2 => z = .returned (.tuple #[.agg (lnA K (.slice a2 n2 c2)), .agg #[.int .i64 E, .int .i64 p, .int .i64 0, .int .i64 0]]) ∧ Below w1.heap.size w1 w2) → DoA 124 w L (some ⟨b, o, none⟩) (t.length + 1) c pb (doS 1 L (x :: t) p) := by
    intro a1 c1 hr hs hk
    obtain ⟨a2, n2, c2, hcv, ho⟩ := recv_any (stepL L x) a1 t.length c1 p (qI L.gr L.rt) ⟨by show _ ≤ L.gr; omega, by show L.gr ≤ _; omega⟩ ⟨by show _ ≤ L.due + x; omega, by show L.due + x ≤ _; omega⟩ ⟨by show _ ≤ L.inc; omega, by show L.inc ≤ _; omega⟩ ⟨by show _ ≤ L.got; omega, by show L.got ≤ _; omega⟩ bp ⟨by omega, by omega⟩ t.isEmpty (by cases t <;> rfl)
    have hl : n2 = t.length ∧ Row w (.slice a2 n2 c2) t ∧ Sl a2 n2 c2 := by
      rcases ho with ⟨hb, rfl, rfl, rfl⟩ | ⟨rfl, rfl, rfl⟩
      · unfold recvB at hb
        simp only [Bool.and_eq_true] at hb
        have e : t = [] := by
          have := hb.1
          cases t with
          | nil => rfl
          | cons x t => cases this
        subst e
        exact ⟨rfl, .inl ⟨_, _, rfl, rfl⟩, Sl.nil⟩
      · exact ⟨rfl, hr, hs⟩
    obtain ⟨rfl, hr2, hs2⟩ := hl
    exact ⟨a2, c2, fun w1 hb => hk (recvK (stepL L x) t.isEmpty p (qI L.gr L.rt)) a2 t.length c2 _ w1 hb (fun w1 => inter_any (stepL L x) a1 t.length c1 w1 hrt h1.1 h1.2) hcv, hr2, hs2⟩
  by_cases hc1 : c = 1
  · subst hc1
    have ht : t = [] := List.eq_nil_of_length_eq_zero (by omega)
    subst ht
    refine key (some ⟨b, o, none⟩) 0 (.inl ⟨_, _, rfl, rfl⟩) ⟨Nat.le_refl _, fun e => by cases e⟩ (fun K a2 n2 c2 E w1 hb hi hv => ?_)
    rcases Int.lt_or_le 600 (L.be + 1) with o1 | o1
    · have e : min (L.be + 1) 600 = 600 := by omega
      simp only [stepL, e] at hi hv
      exact do_80oh L K a2 b o n2 c2 pb p x (qI L.gr L.rt) E w1 (cell_via hb hp) ((hb.cell (p := ⟨b, o, none⟩) (lt_of_cell hc0)).trans hc0) o1 h5.1 h5.2 (by omega) (by omega) hx.1 hx.2 (hide hi) (hide hv)
    · have e : min (L.be + 1) 600 = L.be + 1 := by omega
      simp only [stepL, e] at hi hv
      exact do_80ol L K a2 b o n2 c2 pb p x (qI L.gr L.rt) E w1 (cell_via hb hp) ((hb.cell (p := ⟨b, o, none⟩) (lt_of_cell hc0)).trans hc0) o1 h5.1 h5.2 (by omega) (by omega) hx.1 hx.2 (hide hi) (hide hv)
  · refine key (some ⟨b, o + 1, none⟩) (c - 1) hRt ⟨by omega, fun e => by cases e⟩ (fun K a2 n2 c2 E w1 hb hi hv => ?_)
    rcases Int.lt_or_le 600 (L.be + 1) with o1 | o1
    · have e : min (L.be + 1) 600 = 600 := by omega
      simp only [stepL, e] at hi hv
      exact do_80ah L K a2 b o (t.length + 1) c n2 c2 pb p x (qI L.gr L.rt) E w1 (cell_via hb hp) ((hb.cell (p := ⟨b, o, none⟩) (lt_of_cell hc0)).trans hc0) (by omega) (by omega) hc1 o1 h5.1 h5.2 (by omega) (by omega) hx.1 hx.2 (hide hi) (hide hv)
    · have e : min (L.be + 1) 600 = L.be + 1 := by omega
      simp only [stepL, e] at hi hv
      exact do_80al L K a2 b o (t.length + 1) c n2 c2 pb p x (qI L.gr L.rt) E w1 (cell_via hb hp) ((hb.cell (p := ⟨b, o, none⟩) (lt_of_cell hc0)).trans hc0) (by omega) (by omega) hc1 o1 h5.1 h5.2 (by omega) (by omega) hx.1 hx.2 (hide hi) (hide hv)
theorem doA_1 {L : Ln} {a : Option Addr} {n c pb : Nat} {l : List Int} {p : Int} {w : World} (hR : Row w (.slice a n c) l) (hS : Sl a n c) (hp : w.cell? ⟨pb, 0, none⟩ = some (.int .i64 p)) (h : chkS 1 L l p = 0) : DoA 124 w L a n c pb (doS 1 L l p) := by
  obtain ⟨⟨h1, h2, _⟩, h3⟩ := chk0 h
  cases l with
  | nil => exact absurd rfl h3
  | cons x t => exact do_1 hR hS hp h1 h2
theorem step_1 {L : Ln} {a : Option Addr} {n c : Nat} {l : List Int} {p : Int} {w : World} (hR : Row w (.slice a n c) l) (hS : Sl a n c) (hl : l.length ≤ 17592186044000) : Calls (Tri Try.prog) 68 #[.agg (lnA L (.slice a n c)), .int .i64 p] w fun z w2 => ∃ a3 c3, z = .returned (.tuple #[.agg (lnA ((stepR 1 L l p).K) (.slice a3 (stepR 1 L l p).l.length c3)), .agg #[.int .i64 (stepR 1 L l p).m.i, .int .i64 (stepR 1 L l p).m.p, .int .i64 (stepR 1 L l p).m.w, .int .i64 (stepR 1 L l p).m.r], .int .i64 (stepE 1 L l p)]) ∧ Row w2 (.slice a3 (stepR 1 L l p).l.length c3) (stepR 1 L l p).l ∧ Sl a3 (stepR 1 L l p).l.length c3 ∧ (∀ x, a3 = some x → w.heap.size ≤ x.block) ∧ Below w.heap.size w w2 := by
  refine outer_38 L (stepR 1 L l p).K a n c (stepR 1 L l p).l.length p (stepE 1 L l p) (stepR 1 L l p).m.i (stepR 1 L l p).m.p (stepR 1 L l p).m.w (stepR 1 L l p).m.r (stepR 1 L l p).l w (hide (fun W hb hp => ?_))
  have hRW := hR.below hb (Nat.le_refl _)
  have HC : Hid (∀ w1, Below W.heap.size W w1 → Calls (Tri Try.prog) 123 #[.agg (lnA L (.slice a n c)), .pointer (some ⟨w.heap.size + 1, 0, none⟩)] w1 fun z w2 => z = .returned (.int .i64 (chkS 1 L l p)) ∧ Below w1.heap.size w1 w2) := hide (fun w1 hb1 => chk_78 L a n c _ l p w1 (hRW.below hb1 (Nat.le_refl _)) (cell_via hb1 hp))
  by_cases hc : chkS 1 L l p = 0
  case neg =>
    have hE : stepE 1 L l p = chkS 1 L l p := by unfold stepE; rw [if_neg hc]
    have hRR : stepR 1 L l p = zD := by unfold stepR; rw [if_neg (by rw [hE]; exact hc)]
    rw [hRR, hE]
    exact (take_a 123 124 Tri.call123 Tri.call124 L a n c _ W _ (by simpa using hc) HC).mono fun z w2 ⟨h1, h2⟩ => ⟨none, 0, h1, .inl ⟨_, _, rfl, rfl⟩, Sl.nil, (fun x hx => by cases hx), h2⟩
  rw [hc] at HC
  obtain ⟨a2, c2, hd, hr2, hs2⟩ := doA_1 (L := L) (l := l) (n := n) hRW hS hp hc
  by_cases hg : (doS 1 L l p).K.gr < 0
  · have hE : stepE 1 L l p = 2 := by unfold stepE; rw [if_pos hc, if_pos hg]
    have hRR : stepR 1 L l p = zD := by unfold stepR; rw [if_neg (by rw [hE]; decide)]
    rw [hRR, hE]
    exact (take_b 123 124 Tri.call123 Tri.call124 L a n c _ W (doS 1 L l p).K a2 _ c2 _ _ _ _ HC (hide hd) 2 rfl (hide (fun w1 hb1 => settle_a _ _ _ _ _ w1 (hr2.below hb1 (Nat.le_refl _)) (decide_eq_true hg)))).mono fun z w2 ⟨h1, h2⟩ => ⟨none, 0, h1, .inl ⟨_, _, rfl, rfl⟩, Sl.nil, (fun x hx => by cases hx), h2⟩
  have hg' : decide ((doS 1 L l p).K.gr < 0) = false := decide_eq_false hg
  by_cases ht : rightB (doS 1 L l p).K (doS 1 L l p).l = true
  case neg =>
    have hE : stepE 1 L l p = 3 := by unfold stepE; rw [if_pos hc, if_neg hg, if_neg ht]
    have hRR : stepR 1 L l p = zD := by unfold stepR; rw [if_neg (by rw [hE]; decide)]
    rw [hRR, hE]
    exact (take_b 123 124 Tri.call123 Tri.call124 L a n c _ W (doS 1 L l p).K a2 _ c2 _ _ _ _ HC (hide hd) 3 rfl (hide (fun w1 hb1 => settle_b _ _ _ _ _ w1 (hr2.below hb1 (Nat.le_refl _)) hg' (Bool.eq_false_iff.2 ht)))).mono fun z w2 ⟨h1, h2⟩ => ⟨none, 0, h1, .inl ⟨_, _, rfl, rfl⟩, Sl.nil, (fun x hx => by cases hx), h2⟩
  have hE : stepE 1 L l p = 0 := by unfold stepE; rw [if_pos hc, if_neg hg, if_pos ht]
  have hRR : stepR 1 L l p = doS 1 L l p := by unfold stepR; rw [if_pos hE]
  rw [hRR, hE]
  have hl2 : (doS 1 L l p).l.length ≤ 17592186044000 := Nat.le_trans (rt_of ht).len (by decide)
  exact take_g 123 124 Tri.call123 Tri.call124 L a n c _ W (doS 1 L l p).K a2 _ c2 _ _ _ _ HC (hide hd) _ _ (fun a3 c3 => Sl a3 (doS 1 L l p).l.length c3) (hide (fun w1 hb1 => settle_c _ _ _ _ _ w1 (hr2.below hb1 (Nat.le_refl _)) hs2 hl2 hg' ht))
theorem doA_2 {L : Ln} {a : Option Addr} {n c pb : Nat} {l : List Int} {p : Int} {w : World} (hR : Row w (.slice a n c) l) (hS : Sl a n c) (hp : w.cell? ⟨pb, 0, none⟩ = some (.int .i64 p)) (h : chkS 2 L l p = 0) : DoA 100 w L a n c pb (doS 2 L l p) := by
  obtain ⟨h1, h2, _⟩ := asks0 h
  exact do_2 hR hS hp h1 ⟨by omega, h2.2⟩
theorem step_2 {L : Ln} {a : Option Addr} {n c : Nat} {l : List Int} {p : Int} {w : World} (hR : Row w (.slice a n c) l) (hS : Sl a n c) (hl : l.length ≤ 17592186044000) : Calls (Tri Try.prog) 44 #[.agg (lnA L (.slice a n c)), .int .i64 p] w fun z w2 => ∃ a3 c3, z = .returned (.tuple #[.agg (lnA ((stepR 2 L l p).K) (.slice a3 (stepR 2 L l p).l.length c3)), .agg #[.int .i64 (stepR 2 L l p).m.i, .int .i64 (stepR 2 L l p).m.p, .int .i64 (stepR 2 L l p).m.w, .int .i64 (stepR 2 L l p).m.r], .int .i64 (stepE 2 L l p)]) ∧ Row w2 (.slice a3 (stepR 2 L l p).l.length c3) (stepR 2 L l p).l ∧ Sl a3 (stepR 2 L l p).l.length c3 ∧ (∀ x, a3 = some x → w.heap.size ≤ x.block) ∧ Below w.heap.size w w2 := by
  refine outer_72 L (stepR 2 L l p).K a n c (stepR 2 L l p).l.length p (stepE 2 L l p) (stepR 2 L l p).m.i (stepR 2 L l p).m.p (stepR 2 L l p).m.w (stepR 2 L l p).m.r (stepR 2 L l p).l w (hide (fun W hb hp => ?_))
  have hRW := hR.below hb (Nat.le_refl _)
  have HC : Hid (∀ w1, Below W.heap.size W w1 → Calls (Tri Try.prog) 99 #[.agg (lnA L (.slice a n c)), .pointer (some ⟨w.heap.size + 1, 0, none⟩)] w1 fun z w2 => z = .returned (.int .i64 (chkS 2 L l p)) ∧ Below w1.heap.size w1 w2) := hide (fun w1 hb1 => chk_108 L a n c _ l p w1 (hRW.below hb1 (Nat.le_refl _)) (cell_via hb1 hp))
  by_cases hc : chkS 2 L l p = 0
  case neg =>
    have hE : stepE 2 L l p = chkS 2 L l p := by unfold stepE; rw [if_neg hc]
    have hRR : stepR 2 L l p = zD := by unfold stepR; rw [if_neg (by rw [hE]; exact hc)]
    rw [hRR, hE]
    exact (take_a 99 100 Tri.call99 Tri.call100 L a n c _ W _ (by simpa using hc) HC).mono fun z w2 ⟨h1, h2⟩ => ⟨none, 0, h1, .inl ⟨_, _, rfl, rfl⟩, Sl.nil, (fun x hx => by cases hx), h2⟩
  rw [hc] at HC
  obtain ⟨a2, c2, hd, hr2, hs2⟩ := doA_2 (L := L) (l := l) (n := n) hRW hS hp hc
  by_cases hg : (doS 2 L l p).K.gr < 0
  · have hE : stepE 2 L l p = 2 := by unfold stepE; rw [if_pos hc, if_pos hg]
    have hRR : stepR 2 L l p = zD := by unfold stepR; rw [if_neg (by rw [hE]; decide)]
    rw [hRR, hE]
    exact (take_b 99 100 Tri.call99 Tri.call100 L a n c _ W (doS 2 L l p).K a2 _ c2 _ _ _ _ HC (hide hd) 2 rfl (hide (fun w1 hb1 => settle_a _ _ _ _ _ w1 (hr2.below hb1 (Nat.le_refl _)) (decide_eq_true hg)))).mono fun z w2 ⟨h1, h2⟩ => ⟨none, 0, h1, .inl ⟨_, _, rfl, rfl⟩, Sl.nil, (fun x hx => by cases hx), h2⟩
  have hg' : decide ((doS 2 L l p).K.gr < 0) = false := decide_eq_false hg
  by_cases ht : rightB (doS 2 L l p).K (doS 2 L l p).l = true
  case neg =>
    have hE : stepE 2 L l p = 3 := by unfold stepE; rw [if_pos hc, if_neg hg, if_neg ht]
    have hRR : stepR 2 L l p = zD := by unfold stepR; rw [if_neg (by rw [hE]; decide)]
    rw [hRR, hE]
    exact (take_b 99 100 Tri.call99 Tri.call100 L a n c _ W (doS 2 L l p).K a2 _ c2 _ _ _ _ HC (hide hd) 3 rfl (hide (fun w1 hb1 => settle_b _ _ _ _ _ w1 (hr2.below hb1 (Nat.le_refl _)) hg' (Bool.eq_false_iff.2 ht)))).mono fun z w2 ⟨h1, h2⟩ => ⟨none, 0, h1, .inl ⟨_, _, rfl, rfl⟩, Sl.nil, (fun x hx => by cases hx), h2⟩
  have hE : stepE 2 L l p = 0 := by unfold stepE; rw [if_pos hc, if_neg hg, if_pos ht]
  have hRR : stepR 2 L l p = doS 2 L l p := by unfold stepR; rw [if_pos hE]
  rw [hRR, hE]
  have hl2 : (doS 2 L l p).l.length ≤ 17592186044000 := Nat.le_trans (rt_of ht).len (by decide)
  exact take_g 99 100 Tri.call99 Tri.call100 L a n c _ W (doS 2 L l p).K a2 _ c2 _ _ _ _ HC (hide hd) _ _ (fun a3 c3 => Sl a3 (doS 2 L l p).l.length c3) (hide (fun w1 hb1 => settle_c _ _ _ _ _ w1 (hr2.below hb1 (Nat.le_refl _)) hs2 hl2 hg' ht))
theorem doA_3 {L : Ln} {a : Option Addr} {n c pb : Nat} {l : List Int} {p : Int} {w : World} (hR : Row w (.slice a n c) l) (hS : Sl a n c) (hp : w.cell? ⟨pb, 0, none⟩ = some (.int .i64 p)) (h : chkS 3 L l p = 0) : DoA 83 w L a n c pb (doS 3 L l p) := by
  obtain ⟨h1, h2, _⟩ := asks0 h
  exact do_3 hR hS hp h1 ⟨by omega, h2.2⟩
theorem step_3 {L : Ln} {a : Option Addr} {n c : Nat} {l : List Int} {p : Int} {w : World} (hR : Row w (.slice a n c) l) (hS : Sl a n c) (hl : l.length ≤ 17592186044000) : Calls (Tri Try.prog) 36 #[.agg (lnA L (.slice a n c)), .int .i64 p] w fun z w2 => ∃ a3 c3, z = .returned (.tuple #[.agg (lnA ((stepR 3 L l p).K) (.slice a3 (stepR 3 L l p).l.length c3)), .agg #[.int .i64 (stepR 3 L l p).m.i, .int .i64 (stepR 3 L l p).m.p, .int .i64 (stepR 3 L l p).m.w, .int .i64 (stepR 3 L l p).m.r], .int .i64 (stepE 3 L l p)]) ∧ Row w2 (.slice a3 (stepR 3 L l p).l.length c3) (stepR 3 L l p).l ∧ Sl a3 (stepR 3 L l p).l.length c3 ∧ (∀ x, a3 = some x → w.heap.size ≤ x.block) ∧ Below w.heap.size w w2 := by
  refine outer_40 L (stepR 3 L l p).K a n c (stepR 3 L l p).l.length p (stepE 3 L l p) (stepR 3 L l p).m.i (stepR 3 L l p).m.p (stepR 3 L l p).m.w (stepR 3 L l p).m.r (stepR 3 L l p).l w (hide (fun W hb hp => ?_))
  have hRW := hR.below hb (Nat.le_refl _)
  have HC : Hid (∀ w1, Below W.heap.size W w1 → Calls (Tri Try.prog) 81 #[.agg (lnA L (.slice a n c)), .pointer (some ⟨w.heap.size + 1, 0, none⟩)] w1 fun z w2 => z = .returned (.int .i64 (chkS 3 L l p)) ∧ Below w1.heap.size w1 w2) := hide (fun w1 hb1 => chk_87 L a n c _ l p w1 (hRW.below hb1 (Nat.le_refl _)) (cell_via hb1 hp))
  by_cases hc : chkS 3 L l p = 0
  case neg =>
    have hE : stepE 3 L l p = chkS 3 L l p := by unfold stepE; rw [if_neg hc]
    have hRR : stepR 3 L l p = zD := by unfold stepR; rw [if_neg (by rw [hE]; exact hc)]
    rw [hRR, hE]
    exact (take_a 81 83 Tri.call81 Tri.call83 L a n c _ W _ (by simpa using hc) HC).mono fun z w2 ⟨h1, h2⟩ => ⟨none, 0, h1, .inl ⟨_, _, rfl, rfl⟩, Sl.nil, (fun x hx => by cases hx), h2⟩
  rw [hc] at HC
  obtain ⟨a2, c2, hd, hr2, hs2⟩ := doA_3 (L := L) (l := l) (n := n) hRW hS hp hc
  by_cases hg : (doS 3 L l p).K.gr < 0
  · have hE : stepE 3 L l p = 2 := by unfold stepE; rw [if_pos hc, if_pos hg]
    have hRR : stepR 3 L l p = zD := by unfold stepR; rw [if_neg (by rw [hE]; decide)]
    rw [hRR, hE]
    exact (take_b 81 83 Tri.call81 Tri.call83 L a n c _ W (doS 3 L l p).K a2 _ c2 _ _ _ _ HC (hide hd) 2 rfl (hide (fun w1 hb1 => settle_a _ _ _ _ _ w1 (hr2.below hb1 (Nat.le_refl _)) (decide_eq_true hg)))).mono fun z w2 ⟨h1, h2⟩ => ⟨none, 0, h1, .inl ⟨_, _, rfl, rfl⟩, Sl.nil, (fun x hx => by cases hx), h2⟩
  have hg' : decide ((doS 3 L l p).K.gr < 0) = false := decide_eq_false hg
  by_cases ht : rightB (doS 3 L l p).K (doS 3 L l p).l = true
  case neg =>
    have hE : stepE 3 L l p = 3 := by unfold stepE; rw [if_pos hc, if_neg hg, if_neg ht]
    have hRR : stepR 3 L l p = zD := by unfold stepR; rw [if_neg (by rw [hE]; decide)]
    rw [hRR, hE]
    exact (take_b 81 83 Tri.call81 Tri.call83 L a n c _ W (doS 3 L l p).K a2 _ c2 _ _ _ _ HC (hide hd) 3 rfl (hide (fun w1 hb1 => settle_b _ _ _ _ _ w1 (hr2.below hb1 (Nat.le_refl _)) hg' (Bool.eq_false_iff.2 ht)))).mono fun z w2 ⟨h1, h2⟩ => ⟨none, 0, h1, .inl ⟨_, _, rfl, rfl⟩, Sl.nil, (fun x hx => by cases hx), h2⟩
  have hE : stepE 3 L l p = 0 := by unfold stepE; rw [if_pos hc, if_neg hg, if_pos ht]
  have hRR : stepR 3 L l p = doS 3 L l p := by unfold stepR; rw [if_pos hE]
  rw [hRR, hE]
  have hl2 : (doS 3 L l p).l.length ≤ 17592186044000 := Nat.le_trans (rt_of ht).len (by decide)
  exact take_g 81 83 Tri.call81 Tri.call83 L a n c _ W (doS 3 L l p).K a2 _ c2 _ _ _ _ HC (hide hd) _ _ (fun a3 c3 => Sl a3 (doS 3 L l p).l.length c3) (hide (fun w1 hb1 => settle_c _ _ _ _ _ w1 (hr2.below hb1 (Nat.le_refl _)) hs2 hl2 hg' ht))
theorem doA_4 {L : Ln} {a : Option Addr} {n c pb : Nat} {l : List Int} {p : Int} {w : World} (hR : Row w (.slice a n c) l) (hS : Sl a n c) (hp : w.cell? ⟨pb, 0, none⟩ = some (.int .i64 p)) (h : chkS 4 L l p = 0) : DoA 88 w L a n c pb (doS 4 L l p) := by
  obtain ⟨h1, h2, _⟩ := asks0 h
  exact do_4 hR hS hp h1 ⟨by omega, h2.2⟩
theorem step_4 {L : Ln} {a : Option Addr} {n c : Nat} {l : List Int} {p : Int} {w : World} (hR : Row w (.slice a n c) l) (hS : Sl a n c) (hl : l.length ≤ 17592186044000) : Calls (Tri Try.prog) 37 #[.agg (lnA L (.slice a n c)), .int .i64 p] w fun z w2 => ∃ a3 c3, z = .returned (.tuple #[.agg (lnA ((stepR 4 L l p).K) (.slice a3 (stepR 4 L l p).l.length c3)), .agg #[.int .i64 (stepR 4 L l p).m.i, .int .i64 (stepR 4 L l p).m.p, .int .i64 (stepR 4 L l p).m.w, .int .i64 (stepR 4 L l p).m.r], .int .i64 (stepE 4 L l p)]) ∧ Row w2 (.slice a3 (stepR 4 L l p).l.length c3) (stepR 4 L l p).l ∧ Sl a3 (stepR 4 L l p).l.length c3 ∧ (∀ x, a3 = some x → w.heap.size ≤ x.block) ∧ Below w.heap.size w w2 := by
  refine outer_41 L (stepR 4 L l p).K a n c (stepR 4 L l p).l.length p (stepE 4 L l p) (stepR 4 L l p).m.i (stepR 4 L l p).m.p (stepR 4 L l p).m.w (stepR 4 L l p).m.r (stepR 4 L l p).l w (hide (fun W hb hp => ?_))
  have hRW := hR.below hb (Nat.le_refl _)
  have HC : Hid (∀ w1, Below W.heap.size W w1 → Calls (Tri Try.prog) 87 #[.agg (lnA L (.slice a n c)), .pointer (some ⟨w.heap.size + 1, 0, none⟩)] w1 fun z w2 => z = .returned (.int .i64 (chkS 4 L l p)) ∧ Below w1.heap.size w1 w2) := hide (fun w1 hb1 => chk_90 L a n c _ l p w1 (hRW.below hb1 (Nat.le_refl _)) (cell_via hb1 hp))
  by_cases hc : chkS 4 L l p = 0
  case neg =>
    have hE : stepE 4 L l p = chkS 4 L l p := by unfold stepE; rw [if_neg hc]
    have hRR : stepR 4 L l p = zD := by unfold stepR; rw [if_neg (by rw [hE]; exact hc)]
    rw [hRR, hE]
    exact (take_a 87 88 Tri.call87 Tri.call88 L a n c _ W _ (by simpa using hc) HC).mono fun z w2 ⟨h1, h2⟩ => ⟨none, 0, h1, .inl ⟨_, _, rfl, rfl⟩, Sl.nil, (fun x hx => by cases hx), h2⟩
  rw [hc] at HC
  obtain ⟨a2, c2, hd, hr2, hs2⟩ := doA_4 (L := L) (l := l) (n := n) hRW hS hp hc
  by_cases hg : (doS 4 L l p).K.gr < 0
  · have hE : stepE 4 L l p = 2 := by unfold stepE; rw [if_pos hc, if_pos hg]
    have hRR : stepR 4 L l p = zD := by unfold stepR; rw [if_neg (by rw [hE]; decide)]
    rw [hRR, hE]
    exact (take_b 87 88 Tri.call87 Tri.call88 L a n c _ W (doS 4 L l p).K a2 _ c2 _ _ _ _ HC (hide hd) 2 rfl (hide (fun w1 hb1 => settle_a _ _ _ _ _ w1 (hr2.below hb1 (Nat.le_refl _)) (decide_eq_true hg)))).mono fun z w2 ⟨h1, h2⟩ => ⟨none, 0, h1, .inl ⟨_, _, rfl, rfl⟩, Sl.nil, (fun x hx => by cases hx), h2⟩
  have hg' : decide ((doS 4 L l p).K.gr < 0) = false := decide_eq_false hg
  by_cases ht : rightB (doS 4 L l p).K (doS 4 L l p).l = true
  case neg =>
    have hE : stepE 4 L l p = 3 := by unfold stepE; rw [if_pos hc, if_neg hg, if_neg ht]
    have hRR : stepR 4 L l p = zD := by unfold stepR; rw [if_neg (by rw [hE]; decide)]
    rw [hRR, hE]
    exact (take_b 87 88 Tri.call87 Tri.call88 L a n c _ W (doS 4 L l p).K a2 _ c2 _ _ _ _ HC (hide hd) 3 rfl (hide (fun w1 hb1 => settle_b _ _ _ _ _ w1 (hr2.below hb1 (Nat.le_refl _)) hg' (Bool.eq_false_iff.2 ht)))).mono fun z w2 ⟨h1, h2⟩ => ⟨none, 0, h1, .inl ⟨_, _, rfl, rfl⟩, Sl.nil, (fun x hx => by cases hx), h2⟩
  have hE : stepE 4 L l p = 0 := by unfold stepE; rw [if_pos hc, if_neg hg, if_pos ht]
  have hRR : stepR 4 L l p = doS 4 L l p := by unfold stepR; rw [if_pos hE]
  rw [hRR, hE]
  have hl2 : (doS 4 L l p).l.length ≤ 17592186044000 := Nat.le_trans (rt_of ht).len (by decide)
  exact take_g 87 88 Tri.call87 Tri.call88 L a n c _ W (doS 4 L l p).K a2 _ c2 _ _ _ _ HC (hide hd) _ _ (fun a3 c3 => Sl a3 (doS 4 L l p).l.length c3) (hide (fun w1 hb1 => settle_c _ _ _ _ _ w1 (hr2.below hb1 (Nat.le_refl _)) hs2 hl2 hg' ht))
theorem so3 : maySo 1000 [500, 605] = true := by decide +kernel
theorem cv3 : cov 1000 [500, 605] (-990000000000) = true ∧ cov 1000 [500, 605] 60000000001 = true ∧ cov 1000 [500, 605] 80000000000 = false ∧ cov 1000 [500, 605] 10000000000000 = false := by decide +kernel
theorem pos3 : ∀ x ∈ ([500, 605] : List Int), 0 ≤ x := by decide
theorem eg3 {r e : Int} (h : NewE 1 1000 [500, 605] r e) : e = 0 ∧ 60000000000 < r ∧ r < 80000000000 := by
  rcases h with ⟨h, _⟩ | ⟨_, h⟩
  · exact absurd h (by decide)
  rcases h with ⟨h, _⟩ | ⟨_, ⟨h, _⟩ | ⟨h, rfl⟩⟩
  · rw [so3] at h; cases h
  · rcases h with h | h
    · rw [cv3.1] at h; cases h
    · rw [cv3.2.2.2] at h; cases h
  · refine ⟨rfl, ?_, ?_⟩
    · refine Classical.byContradiction fun hn => ?_
      have a := h.lo
      have := cov_rate (r := r + 1) (s := 60000000001) ⟨by omega, by omega⟩ ⟨by omega, by omega⟩ (by omega) pos3 cv3.2.1
      rw [h.no] at this
      cases this
    · refine Classical.byContradiction fun hn => ?_
      have a := h.hi
      have := cov_rate (r := 80000000000) (s := r) ⟨by omega, by omega⟩ ⟨by omega, by omega⟩ (by omega) pos3 h.yes
      rw [cv3.2.2.1] at this
      cases this
def alK (r : Int) : Ln := ⟨1, 1, 0, 1000, r, 1000 + (qI 1000 r - 500), 0, qI 1000 r, 500, 0, 0, 0⟩
def alZ (r : Int) : Ln := ⟨1, 2, 0, 1000, r, 0, 0, 105, 1105, 0, 0, 0⟩
theorem stepd_of {k : Nat} {L : Ln} {l : List Int} {p : Int} (hc : chkS k L l p = 0) (hr : Rt (doS k L l p).K (doS k L l p).l) : stepE k L l p = 0 ∧ stepR k L l p = doS k L l p := by
  have hE : stepE k L l p = 0 := by
    unfold stepE
    rw [if_pos hc, if_neg (by have := hr.gr; omega), if_pos (of_rt hr)]
  exact ⟨hE, by unfold stepR; rw [if_pos hE]⟩
theorem asks_of {L : Ln} {l : List Int} {k p lo : Int} (h : Rt L l) (hp : lo ≤ p ∧ p ≤ 10000000000000) (hk : L.st = k) : asksE L l k p lo = 0 := by
  unfold asksE
  rw [of_rt h, inB_of hp, Bool.true_and, if_pos rfl, if_pos hk]
theorem chk_of {L : Ln} {l : List Int} {p : Int} (h : Rt L l) (hp : 0 ≤ p ∧ p ≤ 10000000000000) (hk : L.st = 1) (hl : l ≠ []) : chk1 L l p = 0 := by
  unfold chk1
  rw [if_pos (asks_of h hp hk), if_neg (fun e => hl (List.eq_nil_of_length_eq_zero e))]
theorem al_first {r : Int} (h1 : 60000000000 < r) (h2 : r < 80000000000) : stepE 1 (newK 1 1000 r) [500, 605] 500 = 0 ∧ stepR 1 (newK 1 1000 r) [500, 605] 500 = ⟨alK r, [605], ⟨qI 1000 r, 500, 0, 0⟩⟩ := by
  have q1 : 60 ≤ qI 1000 r := near_ge (by omega) (by omega)
  have q2 : qI 1000 r ≤ 80 := near_le (by omega) (by omega)
  have e : doS 1 (newK 1 1000 r) [500, 605] 500 = ⟨alK r, [605], ⟨qI 1000 r, 500, 0, 0⟩⟩ := by
    simp [doS, stepL, newK, recvK, recvJ, recvB, alK]
  have hR : Rt (newK 1 1000 r) [500, 605] := by
    refine ⟨?_, ?_, ?_, ?_, ⟨?_, ?_⟩, ?_, ?_, ?_, ?_, ?_, ?_, ?_, ?_, ?_, ?_, ?_⟩ <;> simp [newK] <;> omega
  have hK : Rt (alK r) [605] := by
    refine ⟨?_, ?_, ?_, ?_, ⟨?_, ?_⟩, ?_, ?_, ?_, ?_, ?_, ?_, ?_, ?_, ?_, ?_, ?_⟩ <;> simp [alK] <;> omega
  have k := stepd_of (k := 1) (L := newK 1 1000 r) (l := [500, 605]) (p := 500) (chk_of hR ⟨by omega, by omega⟩ rfl (by simp)) (by rw [e]; exact hK)
  rw [e] at k
  exact k
theorem al_last {r : Int} (h1 : 60000000000 < r) (h2 : r < 80000000000) : stepE 1 (alK r) [605] 605 = 0 ∧ ∃ m, stepR 1 (alK r) [605] 605 = ⟨alZ r, [], m⟩ := by
  have q1 : 60 ≤ qI 1000 r := near_ge (by omega) (by omega)
  have q2 : qI 1000 r ≤ 80 := near_le (by omega) (by omega)
  obtain ⟨m, e⟩ : ∃ m, doS 1 (alK r) [605] 605 = ⟨alZ r, [], m⟩ := by
    refine ⟨⟨605 - (1000 + (qI 1000 r - 500)), 605, 0, 0⟩, ?_⟩
    have hb : recvB (stepL (alK r) (([605] : List Int).headD 0)) ([605] : List Int).tail.isEmpty 605 = true := by simp [recvB, stepL, alK]
    simp only [doS, if_true, recvK, recvJ, hb]
    simp only [stepL, alK, alZ, List.tail_cons, Dn.mk.injEq, Ln.mk.injEq, true_and, and_true]
    omega
  have hR : Rt (alK r) [605] := by
    refine ⟨?_, ?_, ?_, ?_, ⟨?_, ?_⟩, ?_, ?_, ?_, ?_, ?_, ?_, ?_, ?_, ?_, ?_, ?_⟩ <;> simp [alK] <;> omega
  have hK : Rt (alZ r) [] := by
    refine ⟨?_, ?_, ?_, ?_, ⟨?_, ?_⟩, ?_, ?_, ?_, ?_, ?_, ?_, ?_, ?_, ?_, ?_, ?_⟩ <;> simp [alZ] <;> omega
  have k := stepd_of (k := 1) (L := alK r) (l := [605]) (p := 605) (chk_of hR ⟨by omega, by omega⟩ rfl (by simp)) (by rw [e]; exact hK)
  rw [e] at k
  exact ⟨k.1, m, k.2⟩
theorem row_two (w : World) (x y : Int) (hx : In64 x) (hy : In64 y) : Row (w.alloc (.cells #[.int .i64 x, .int .i64 y] 2)) (.slice (some ⟨w.heap.size, 0, none⟩) 2 2) [x, y] := by
  refine Or.inr ⟨w.heap.size, 0, 2, rfl, by simp, by unfold maxLen; simp, fun j hj => ?_, fun z hz => by simp at hz; rcases hz with rfl | rfl <;> assumption⟩
  rw [World.cell?_alloc_at _ _ _ _ rfl]
  match j, hj with
  | 0, _ => rfl
  | 1, _ => rfl
def AliveL : Prop := ∀ w : World, Calls (Tri Try.prog) 26 #[] w fun e w' => e = .returned (.bool true) ∧ Below w.heap.size w w'
set_option maxHeartbeats 4000000 in
theorem aliveL : AliveL := by
  intro w
  have HN := hide (new_any (id := 1) (out := 1000) ⟨by omega, by omega⟩ (row_two w 500 605 ⟨by omega, by omega⟩ ⟨by omega, by omega⟩) ⟨Nat.le_refl _, fun e => by cases e⟩ (by simp))
  unfold NewA at HN
  have HB := hide (below1L w (.cells #[.int .i64 500, .int .i64 605] 2))
  go_enter (Tri.at (by decide) Try.func26), Try.ntmps26
  go_wp2_with fail
  refine (unhide HN).mono ?_
  rintro z w1 ⟨r, e, hE, hz, hb⟩
  obtain ⟨rfl, r1, r2⟩ := eg3 hE
  rcases hz with ⟨h, _⟩ | ⟨_, a1, c1, rfl, hr, hs, _⟩
  · exact absurd rfl h
  replace HB := hide (below_via (unhide HB) hb)
  have HR := hide hr
  have HS := hide hs
  clear hb hr hs hE HN
  have H1 : Hid (∀ (w1 : World) (a : Option Addr) (c : Nat), Row w1 (.slice a 2 c) [500, 605] → Sl a 2 c → Calls (Tri Try.prog) 68 #[.agg (lnA (newK 1 1000 r) (.slice a 2 c)), .int .i64 500] w1 fun z w2 => ∃ a3 c3 m0 m1 m2 m3, z = .returned (.tuple #[.agg (lnA (alK r) (.slice a3 1 c3)), .agg #[.int .i64 m0, .int .i64 m1, .int .i64 m2, .int .i64 m3], .int .i64 0]) ∧ Row w2 (.slice a3 1 c3) [605] ∧ Sl a3 1 c3 ∧ Below w1.heap.size w1 w2) := hide (fun w1 a c h1 h2 => (step_1 (p := 500) h1 h2 (by simp)).mono fun z w2 ⟨a3, c3, g1, g2, g3, _, g5⟩ => by
    rw [(al_first r1 r2).1, (al_first r1 r2).2] at g1
    rw [(al_first r1 r2).2] at g2 g3
    exact ⟨a3, c3, _, _, _, _, g1, g2, g3, g5⟩)
  obtain ⟨Z1, m9, Z2⟩ := al_last r1 r2
  have H2 : Hid (∀ (w1 : World) (a : Option Addr) (c : Nat), Row w1 (.slice a 1 c) [605] → Sl a 1 c → Calls (Tri Try.prog) 68 #[.agg (lnA (alK r) (.slice a 1 c)), .int .i64 605] w1 fun z w2 => ∃ a3 c3 m0 m1 m2 m3, z = .returned (.tuple #[.agg (lnA (alZ r) (.slice a3 0 c3)), .agg #[.int .i64 m0, .int .i64 m1, .int .i64 m2, .int .i64 m3], .int .i64 0]) ∧ Row w2 (.slice a3 0 c3) [] ∧ Sl a3 0 c3 ∧ Below w1.heap.size w1 w2) := hide (fun w1 a c h1 h2 => (step_1 (p := 605) h1 h2 (by simp)).mono fun z w2 ⟨a3, c3, g1, g2, g3, _, g5⟩ => by
    rw [Z1, Z2] at g1
    rw [Z2] at g2 g3
    exact ⟨a3, c3, _, _, _, _, g1, g2, g3, g5⟩)
  clear Z1 Z2 m9
  have d1 : decide (60000000000 < (newK 1 1000 r).rt) = true := decide_eq_true r1
  have d2 : decide ((newK 1 1000 r).rt < 80000000000) = true := decide_eq_true r2
  have d3 : ((alZ r).st == 2) = true := rfl
  have d4 : ((alZ r).inc == 105) = true := rfl
  have d5 : ((alZ r).gr == 0) = true := rfl
  clear r1 r2
  generalize newK 1 1000 r = K0 at *
  generalize alK r = K1 at *
  generalize alZ r = K2 at *
  have HK := hide (Blk.new w1 (lnA K0 (.slice a1 2 c1)) 53)
  replace HB := hide (below_via (unhide HB) (below1L w1 (.cells (lnA K0 (.slice a1 2 c1)) 53)))
  have HR1 := hide ((unhide HR).alloc (.cells (lnA K0 (.slice a1 2 c1)) 53))
  go_wp2_with fail
  refine (unhide H1 _ _ _ (unhide HR1) (unhide HS)).mono ?_
  rintro z w2 ⟨a2, c2, m0, m1, m2, m3, rfl, hr, hs, hb⟩
  have HR2 : Hid (Row ((w2.alloc (.cells (lnA K1 (.slice a2 1 c2)) 53)).alloc (.cells #[.int .i64 m0, .int .i64 m1, .int .i64 m2, .int .i64 m3] 65)) (.slice a2 1 c2) [605]) := hide ((hr.alloc _).alloc _)
  have HS2 := hide hs
  have bb : Below w2.heap.size w2 ((w2.alloc (.cells (lnA K1 (.slice a2 1 c2)) 53)).alloc (.cells #[.int .i64 m0, .int .i64 m1, .int .i64 m2, .int .i64 m3] 65)) := (below1L w2 _).alloc (by simp) _
  replace HB := hide (below_via (below_via (unhide HB) hb) bb)
  replace HK := hide (((unhide HK).keep hb).keep bb)
  clear hb hr hs bb HR HR1 HS H1
  go_wp2_with fail
  refine (unhide H2 _ _ _ (unhide HR2) (unhide HS2)).mono ?_
  rintro z w3 ⟨a4, c4, x0, x1, x2, x3, rfl, hr, hs, hb⟩
  have bb : Below w3.heap.size w3 ((w3.alloc (.cells (lnA K2 (.slice a4 0 c4)) 53)).alloc (.cells #[.int .i64 x0, .int .i64 x1, .int .i64 x2, .int .i64 x3] 65)) := (below1L w3 _).alloc (by simp) _
  replace HB := hide (below_via (below_via (unhide HB) hb) bb)
  replace HK := hide (((unhide HK).keep hb).keep bb)
  clear hb hr hs bb HR2 HS2 H2
  have q4 := (unhide HK).at 4 (.int .i64 K0.rt) rfl
  go_wp2_with fail
  go_ret
  exact ⟨rfl, unhide HB⟩
end Go.Proofs.Ytpeoabopeihadaa.Mn
namespace Go.Proofs.Ytpeoabopeihadaa.Mn
open Go.RowKit
theorem step_ok {k : Nat} {L : Ln} {l : List Int} {p : Int} (h : stepE k L l p = 0) : chkS k L l p = 0 ∧ stepR k L l p = doS k L l p ∧ Rt (doS k L l p).K (doS k L l p).l := by
  have hR : stepR k L l p = doS k L l p := by unfold stepR; rw [if_pos h]
  unfold stepE at h
  split at h
  · next hc =>
    refine ⟨hc, hR, ?_⟩
    split at h
    · cases h
    · split at h
      · next ht => exact rt_of ht
      · cases h
  · next hc => exact absurd h hc
end Go.Proofs.Ytpeoabopeihadaa.Mn
