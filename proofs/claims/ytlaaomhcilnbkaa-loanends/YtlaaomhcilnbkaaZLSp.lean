/- Step, Pay, Write and Recover. -/
import Derived.Test.YtlaaomhcilnbkaaZLSs
import Derived.Test.YtlaaomhcilnbkaaZLTs
import Derived.Test.YtlaaomhcilnbkaaZLTc
set_option linter.unusedVariables false
set_option linter.unusedSimpArgs false
set_option linter.unusedSectionVars false
namespace Go.Proofs.Ytlaaomhcilnbkaa.Mn
open Go.RowKit
attribute [local simp] Tri.typeInfo Tri.sizeOf Tri.underlying Tri.runUnderlying Tri.isAgg Tri.zeroValue Tri.depth Tri.stoodInHeld Tri.eqGuardType Tri.call16 Tri.call22 Tri.call28 Tri.call29 Tri.call33 Tri.call38 Tri.call39 Tri.call42 Tri.call45 Tri.call48 Tri.call52 Tri.call54 Tri.call62 Tri.call63 Tri.call65 Tri.call66 Tri.call68 Tri.call69 Tri.call70 Tri.call71 Tri.call78 Tri.call79 Tri.call80 Tri.call81 Tri.call82 Tri.call83 Tri.call84 Tri.call85 Tri.call86 Tri.call89 Tri.call101 Tri.call102 Tri.call103 Tri.call104 Tri.call105 Tri.call107 Tri.call113 Tri.call123 Tri.call124 Tri.call125 Tri.call126 Tri.call127 Tri.call136 Tri.call138 Tri.call139 Tri.call140 Tri.call141 Tri.call142 Tri.call143 Tri.call144 Tri.call154 Tri.call155 Tri.call165 Tri.call167 Tri.call184
theorem doA_1 {L : Ln} {a : Option Addr} {n c pb : Nat} {l : List Int} {p : Int} {w : World} (hR : Row w (.slice a n c) l) (hS : Sl a n c) (hp : w.cell? ⟨pb, 0, none⟩ = some (.int .i64 p)) (h : chkS 1 L l p = 0) : DoA 80 w L a n c pb (doS 1 L l p) := by
  obtain ⟨⟨h1, h2, _⟩, h3⟩ := chk0 h
  cases l with
  | nil => exact absurd rfl h3
  | cons x t => exact do_1 hR hS hp h1 h2
theorem step_1 {L : Ln} {a : Option Addr} {n c : Nat} {l : List Int} {p : Int} {w : World} (hR : Row w (.slice a n c) l) (hS : Sl a n c) (hl : l.length ≤ 1000000) : Calls (Tri Try.prog) 38 #[.agg #[.int .i64 L.id, .int .i64 L.st, .int .i64 L.be, .int .i64 L.out, .int .i64 L.rt, .int .i64 L.gr, .int .i64 L.due, .int .i64 L.inc, .int .i64 L.got, .int .i64 L.adj, .int .i64 L.wri, .int .i64 L.rcv, .slice a n c], .int .i64 p] w fun z w2 => ∃ a3 c3, z = .returned (.tuple #[.agg #[.int .i64 ((stepR 1 L l p).K).id, .int .i64 ((stepR 1 L l p).K).st, .int .i64 ((stepR 1 L l p).K).be, .int .i64 ((stepR 1 L l p).K).out, .int .i64 ((stepR 1 L l p).K).rt, .int .i64 ((stepR 1 L l p).K).gr, .int .i64 ((stepR 1 L l p).K).due, .int .i64 ((stepR 1 L l p).K).inc, .int .i64 ((stepR 1 L l p).K).got, .int .i64 ((stepR 1 L l p).K).adj, .int .i64 ((stepR 1 L l p).K).wri, .int .i64 ((stepR 1 L l p).K).rcv, .slice a3 (stepR 1 L l p).l.length c3], .agg #[.int .i64 (stepR 1 L l p).m.i, .int .i64 (stepR 1 L l p).m.p, .int .i64 (stepR 1 L l p).m.w, .int .i64 (stepR 1 L l p).m.r], .int .i64 (stepE 1 L l p)]) ∧ Row w2 (.slice a3 (stepR 1 L l p).l.length c3) (stepR 1 L l p).l ∧ Sl a3 (stepR 1 L l p).l.length c3 ∧ (∀ x, a3 = some x → w.heap.size ≤ x.block) ∧ Below w.heap.size w w2 := by
  refine outer_38 L (stepR 1 L l p).K a n c (stepR 1 L l p).l.length p (stepE 1 L l p) (stepR 1 L l p).m.i (stepR 1 L l p).m.p (stepR 1 L l p).m.w (stepR 1 L l p).m.r (stepR 1 L l p).l w (hide (fun W hb hp => ?_))
  have hRW := hR.below hb (Nat.le_refl _)
  have HC : Hid (∀ w1, Below W.heap.size W w1 → Calls (Tri Try.prog) 78 #[.agg #[.int .i64 L.id, .int .i64 L.st, .int .i64 L.be, .int .i64 L.out, .int .i64 L.rt, .int .i64 L.gr, .int .i64 L.due, .int .i64 L.inc, .int .i64 L.got, .int .i64 L.adj, .int .i64 L.wri, .int .i64 L.rcv, .slice a n c], .pointer (some ⟨w.heap.size + 1, 0, none⟩)] w1 fun z w2 => z = .returned (.int .i64 (chkS 1 L l p)) ∧ Below w1.heap.size w1 w2) := hide (fun w1 hb1 => chk_78 L a n c _ l p w1 (hRW.below hb1 (Nat.le_refl _)) (cell_via hb1 hp))
  by_cases hc : chkS 1 L l p = 0
  case neg =>
    have hE : stepE 1 L l p = chkS 1 L l p := by unfold stepE; rw [if_neg hc]
    have hRR : stepR 1 L l p = zD := by unfold stepR; rw [if_neg (by rw [hE]; exact hc)]
    rw [hRR, hE]
    exact (take_a 78 80 Tri.call78 Tri.call80 L a n c _ W _ (by simpa using hc) HC).mono fun z w2 ⟨h1, h2⟩ => ⟨none, 0, h1, .inl ⟨_, _, rfl, rfl⟩, Sl.nil, (fun x hx => by cases hx), h2⟩
  rw [hc] at HC
  obtain ⟨a2, c2, hd, hr2, hs2⟩ := doA_1 (L := L) (l := l) (n := n) hRW hS hp hc
  by_cases hg : (doS 1 L l p).K.gr < 0
  · have hE : stepE 1 L l p = 2 := by unfold stepE; rw [if_pos hc, if_pos hg]
    have hRR : stepR 1 L l p = zD := by unfold stepR; rw [if_neg (by rw [hE]; decide)]
    rw [hRR, hE]
    exact (take_b 78 80 Tri.call78 Tri.call80 L a n c _ W (doS 1 L l p).K a2 _ c2 _ _ _ _ HC (hide hd) 2 rfl (hide (fun w1 hb1 => settle_a _ _ _ _ _ w1 (hr2.below hb1 (Nat.le_refl _)) (decide_eq_true hg)))).mono fun z w2 ⟨h1, h2⟩ => ⟨none, 0, h1, .inl ⟨_, _, rfl, rfl⟩, Sl.nil, (fun x hx => by cases hx), h2⟩
  have hg' : decide ((doS 1 L l p).K.gr < 0) = false := decide_eq_false hg
  by_cases ht : rightB (doS 1 L l p).K (doS 1 L l p).l = true
  case neg =>
    have hE : stepE 1 L l p = 3 := by unfold stepE; rw [if_pos hc, if_neg hg, if_neg ht]
    have hRR : stepR 1 L l p = zD := by unfold stepR; rw [if_neg (by rw [hE]; decide)]
    rw [hRR, hE]
    exact (take_b 78 80 Tri.call78 Tri.call80 L a n c _ W (doS 1 L l p).K a2 _ c2 _ _ _ _ HC (hide hd) 3 rfl (hide (fun w1 hb1 => settle_b _ _ _ _ _ w1 (hr2.below hb1 (Nat.le_refl _)) hg' (Bool.eq_false_iff.2 ht)))).mono fun z w2 ⟨h1, h2⟩ => ⟨none, 0, h1, .inl ⟨_, _, rfl, rfl⟩, Sl.nil, (fun x hx => by cases hx), h2⟩
  have hE : stepE 1 L l p = 0 := by unfold stepE; rw [if_pos hc, if_neg hg, if_pos ht]
  have hRR : stepR 1 L l p = doS 1 L l p := by unfold stepR; rw [if_pos hE]
  rw [hRR, hE]
  have hl2 : (doS 1 L l p).l.length ≤ 1000000 := Nat.le_trans (rt_of ht).len (by decide)
  exact take_g 78 80 Tri.call78 Tri.call80 L a n c _ W (doS 1 L l p).K a2 _ c2 _ _ _ _ HC (hide hd) _ _ (fun a3 c3 => Sl a3 (doS 1 L l p).l.length c3) (hide (fun w1 hb1 => settle_c _ _ _ _ _ w1 (hr2.below hb1 (Nat.le_refl _)) hs2 hl2 hg' ht))
end Go.Proofs.Ytlaaomhcilnbkaa.Mn
