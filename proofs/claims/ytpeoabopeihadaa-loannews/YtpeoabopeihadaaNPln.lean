/- A lone run, taken by goroutine 0 beside goroutines that only leave: up to its end, or to a function that parts. No program of the project in this text. -/
import Derived.Test.YtpeoabopeihadaaNQE
import Derived.Test.YtpeoabopeihadaaNQC
set_option linter.unusedVariables false
set_option linter.unusedSimpArgs false
set_option linter.unusedSectionVars false
namespace Go.Proofs.Ytpeoabopeihadaa.Sim
open Go Go.Conc
open Go.ConcN (sumTo upd sumTo_upd upd_ne upd_same)
section
variable [Glob] {P : Program} {p : Ren}
def low : Frame → List Frame → FuncId
 | b, [] => b.fn
 | _, x :: xs => low x xs
theorem low_fn {b c : Frame} (h : b.fn = c.fn) : ∀ bs, low b bs = low c bs
 | [] => h
 | _ :: _ => rfl
theorem low_sh {f : FuncId} {b b1 : Frame} {bs bs1 : List Frame} (hf : b.fn = f) (h : Sh f bs b1 bs1) : low b1 bs1 = low b bs := by
 rcases h with ⟨h1, rfl⟩ | ⟨x, h1, rfl⟩ | ⟨y, rfl, h1⟩
 ·exact low_fn (h1.trans hf.symm) _
 ·exact low_fn (h1.trans hf.symm) bs
 ·exact low_fn h1 bs1
structure Got2 (P : Program) (Post : Value → Array Obj → Prop) (cs : List Frame) (p : Ren) (s : St) (b : Frame) (bs : List Frame) (u : World) (n : Nat) (s' : St) (p' : Ren) (gs' : Array Goroutine) (b' b2 : Frame) (bs' : List Frame) (u' : World) (t' : Trace) (q' : Nat → Nat) : Prop where
 size : gs'.size = n
 zero : gs'[0]? = some (gor b2 (bs' ++ cs))
 leave : Leavers (co P) t' gs' q'
 past : Past (fun _ => False) u'.heap.size t'
 ends : AllEnd P Post s'.a s'.as s'.w
 rel : Rel P p' s' b' bs' u'
 acc : Acc (Ahead P) s'
 nc : ∀ x ∈ bs', Glob.cut x.fn = false
 kp : Kp p p' s.w s'.w u u'
 rch : s' = s ∨ Relation.TransGen (Ahead P) s' s
 low : low b' bs' = low b bs
theorem plain_run2 (hz : Zero P) (hG : Glob.size = P.globals.size) (hc : Codes P) {Post : Value → Array Obj → Prop} {cs : List Frame} : ∀ {s : St}, Acc (Ahead P) s → ∀ (M : Nat) {p : Ren} {gs : Array Goroutine} {b : Frame} {bs : List Frame} {u : World} {sl : Option (Nat × Nat)} {t : Trace} {q : Nat → Nat},
  AllEnd P Post s.a s.as s.w → Rel P p s b bs u → Glob.cut b.fn = false → (∀ x ∈ bs, Glob.cut x.fn = false) → gs[0]? = some (gor b (bs ++ cs)) → Leavers (co P) t gs q → sumTo gs.size q ≤ M → Past (fun _ => False) u.heap.size t →
  ∃ N s' p' gs' b' b2 bs' u' sl' t' q', runNT (co P) N (crowd gs u sl) t = (.next (crowd gs' u' sl'), t') ∧ Got2 P Post cs p s b bs u gs.size s' p' gs' b' b2 bs' u' t' q' ∧
   ((s'.over ∧ b2 = b') ∨ ∃ g ys, (Glob.cut g = true ∧ ys.size = ary g) ∧ b' = Frame.enter P g ys .normal ∧ b2 = Frame.enter (co P) g ys .normal ∧ bs' ≠ []) := by
 intro s hA
 induction hA with
 | intro s hA0 ih =>
 intro M
 induction M using Nat.strongRecOn with
 | ind M ihM =>
 intro p gs b bs u sl t q H hR hb hbs h0 hL hM hP
 by_cases no : s.a.mode = .returning ∧ s.as = []
 ·exact ⟨0, s, p, gs, b, b, bs, u, sl, t, q, rfl, ⟨rfl, h0, hL, hP, H, hR, Acc.intro s hA0, hbs, Kp.refl _ _ _, .inl rfl, rfl⟩, .inl ⟨no, rfl⟩⟩
 have hrun : (gor b (bs ++ cs)).status = .running := rfl
 have haw : ∀ g ∈ gs, awake g := by
  intro g hg
  obtain ⟨i, hi, rfl⟩ := Array.mem_iff_getElem.1 hg
  rcases Nat.eq_zero_or_pos i with rfl | hpos
  ·have : gs[0] = gor b (bs ++ cs) := by simpa [Array.getElem?_eq_getElem hi] using h0
   rw [this]; exact awake_of (.inl hrun)
  ·exact awake_of ((hL.old i _ hpos (Array.getElem?_eq_getElem hi)).status.elim .inl fun x => .inr (.inr x))
 obtain ⟨i, g, d, sl', hi, hg, hst⟩ := crowd_pick (P := co P) (w := u) (sl := sl) haw ⟨0, _, h0, hrun⟩
 rcases Nat.eq_zero_or_pos i with rfl | hpos
 ·obtain rfl : g = gor b (bs ++ cs) := by rw [h0] at hi; exact (Option.some.inj hi).symm
  have hR' := hR.at d
  obtain ⟨p1, a1, b1, as1, bs1, w1, u1, es, es', g2, g3, g4, g5, g6, g7, g8, g9⟩ := own_step (main := true) (cs := cs) hz hG hc hR'.gp hR'.wr hR'.fr hR'.sk no H
  have hcut : Glob.cut s.a.fn = false := by rw [fr_fn hR.fr]; exact hb
  obtain ⟨b2, hgo, hcb, hsh⟩ := g9 hcut
  have hrunT := runT_crowd_go (P := co P) (sl := sl') (i := 0) hi (show stepG (co P) (0 == 0) _ (u.at d) = _ from hgo)
  have hsz : ((gs.map (woken (co P) (gor b (bs ++ cs)) (gor b2 (bs1 ++ cs)) u1)).setIfInBounds 0 (gor b2 (bs1 ++ cs))).size = gs.size := by simp
  have hlt : 0 < gs.size := (Array.getElem?_eq_some_iff.1 h0).1
  have hle : u.heap.size ≤ u1.heap.size := g5.size
  have hP1 : Past (fun _ => False) u1.heap.size (t ++ MemOp.ofEvents 0 (gor b (bs ++ cs)).frame.fn (gor b (bs ++ cs)).frame.place es') := (hP.mono hle).own (fun e he => evs_ok g5.wr g6 e (by simpa using he))
  have hL1 : Leavers (co P) (t ++ MemOp.ofEvents 0 (gor b (bs ++ cs)).frame.fn (gor b (bs ++ cs)).frame.place es') ((gs.map (woken (co P) (gor b (bs ++ cs)) (gor b2 (bs1 ++ cs)) u1)).setIfInBounds 0 (gor b2 (bs1 ++ cs))) q :=
   ⟨fun j x hj hx => by
    have hne : 0 ≠ j := by omega
    rw [Array.getElem?_setIfInBounds_ne hne, Array.getElem?_map] at hx
    obtain ⟨y, hy, rfl⟩ := Option.map_eq_some_iff.1 hx
    have hq := hL.old j y hj hy
    rw [woken_quitsD hq, Deaf_other t (by omega) _ (fun op hop => by obtain ⟨e, _, rfl⟩ := Go.Conc.mem_ofEvents hop; rfl)]
    exact hq, fun j hj => by
    rw [Deaf_other t (g' := 0) (by simp at hj; omega) _ (fun op hop => by obtain ⟨e, _, rfl⟩ := Go.Conc.mem_ofEvents hop; rfl)]
    exact hL.above j (by simpa using hj)⟩
  have h01 : ((gs.map (woken (co P) (gor b (bs ++ cs)) (gor b2 (bs1 ++ cs)) u1)).setIfInBounds 0 (gor b2 (bs1 ++ cs)))[0]? = some (gor b2 (bs1 ++ cs)) := by simp [hlt]
  have hR1 : Rel P p1 ⟨a1, as1, w1⟩ b1 bs1 u1 := ⟨hR.gp.le g5.le, g5.wr, g3, g4⟩
  have nx : Nxt P (u.at d).tape (u.at d).drawn s ⟨a1, as1, w1⟩ := ⟨no, es, g8⟩
  have hK1 : Kp p p1 s.w w1 u u1 := ⟨g5.le, g5.size, g5.lsize, g5.fresh, g5.other, g5.os, g5.tape, g5.out, g5.still⟩
  have hbs1 := sh_nc hcut hbs hsh
  have hlow : low b1 bs1 = low b bs := low_sh (fr_fn hR.fr).symm hsh
  have hacc : Acc (Ahead P) ⟨a1, as1, w1⟩ := hA0 _ ⟨_, _, nx⟩
  have fin : ∀ (hx : ∃ g ys, (Glob.cut g = true ∧ ys.size = ary g) ∧ b1 = Frame.enter P g ys .normal ∧ b2 = Frame.enter (co P) g ys .normal ∧ bs1 ≠ []), ∃ N s' p' gs' b' b2 bs' u' sl' t' q', runNT (co P) N (crowd gs u sl) t = (.next (crowd gs' u' sl'), t') ∧ Got2 P Post cs p s b bs u gs.size s' p' gs' b' b2 bs' u' t' q' ∧
   ((s'.over ∧ b2 = b') ∨ ∃ g ys, (Glob.cut g = true ∧ ys.size = ary g) ∧ b' = Frame.enter P g ys .normal ∧ b2 = Frame.enter (co P) g ys .normal ∧ bs' ≠ []) := fun hx =>
   ⟨1, ⟨a1, as1, w1⟩, p1, _, b1, b2, bs1, u1, sl', _, q, by simp only [runNT, hst, hrunT], ⟨hsz, h01, hL1, hP1, g7, hR1, hacc, hbs1, hK1, .inr (.single ⟨_, _, nx⟩), hlow⟩, .inr hx⟩
  rcases hcb with ⟨rfl, hnc⟩ | hx
  ·have hcb1 : Glob.cut b2.fn = false := by
    rcases hnc with h1 | h1 | ⟨y, h1, h2⟩
    ·rw [h1]; exact hcut
    ·exact h1
    ·rw [h2]; exact hbs y h1
   obtain ⟨N, s', p', gs', b', b2', bs', u', sl'', t', q', r1, r2, r3⟩ := ih _ ⟨_, _, nx⟩ (sumTo gs.size q) (sl := sl') g7 hR1 hcb1 hbs1 h01 hL1 (by rw [hsz]; exact Nat.le_refl _) hP1
   exact ⟨N + 1, s', p', gs', b', b2', bs', u', sl'', t', q', by simp only [runNT, hst, hrunT]; exact r1, ⟨r2.size.trans hsz, r2.zero, r2.leave, r2.past, r2.ends, r2.rel, r2.acc, r2.nc, hK1.trans r2.kp, .inr (r2.rch.elim (fun e => by rw [e]; exact .single ⟨_, _, nx⟩) (fun h => .tail h ⟨_, _, nx⟩)), r2.low.trans hlow⟩, r3⟩
  ·obtain ⟨g, ys, c1, c2, c3⟩ := hx
   refine fin ⟨g, ys, c1, c2, c3, fun e => ?_⟩
   have hb1 : b1.fn = g := by rw [c2, enter_fn]
   have c0 := c1.1
   rcases hsh with ⟨h1, _⟩ | ⟨y, h1, h2⟩ | ⟨y, h1, h2⟩
   ·rw [← hb1, h1, hcut] at c0
    cases c0
   ·rw [h2] at e
    cases e
   ·rw [← hb1, h2, hbs y (by rw [h1]; exact List.mem_cons_self)] at c0
    cases c0
 ·have hq := hL.old i g hpos hi
  have hi0 : (i == 0) = false := by simp; omega
  have hlt : i < gs.size := (Array.getElem?_eq_some_iff.1 hi).1
  cases hqi : q i with
  | zero => rw [hqi] at hq; rw [hq.1] at hg; cases hg
  | succ k =>
   rw [hqi] at hq
   rcases hq with ⟨hf, _⟩ | ⟨_, g', es, hm, hstp, hq'⟩
   ·rw [hf] at hg; cases hg
   have hrunT := runT_crowd_go (P := co P) (sl := sl') (i := i) hi (by rw [hi0]; exact hstp (u.at d))
   have hsz : ((gs.map (woken (co P) g g' (u.at d))).setIfInBounds i g').size = gs.size := by simp
   have hsum : sumTo gs.size (upd q i k) + (k + 1) = sumTo gs.size q + k := by
    have := sumTo_upd q k id hlt
    simpa [hqi] using this
   have h01 : ((gs.map (woken (co P) g g' (u.at d))).setIfInBounds i g')[0]? = some (gor b (bs ++ cs)) := by
    have hne : i ≠ 0 := by omega
    rw [Array.getElem?_setIfInBounds_ne hne, Array.getElem?_map, h0]
    simp [woken_run hrun]
   have hL1 : Leavers (co P) (t ++ MemOp.ofEvents i g.frame.fn g.frame.place es) ((gs.map (woken (co P) g g' (u.at d))).setIfInBounds i g') (upd q i k) :=
    ⟨fun j x hj hx => by
     by_cases hji : i = j
     ·subst hji
      rw [Array.getElem?_setIfInBounds_self_of_lt (by simpa using hlt)] at hx
      obtain rfl := Option.some.inj hx
      rw [upd_same, Deaf_own]
      exact hq'
     ·rw [Array.getElem?_setIfInBounds_ne hji, Array.getElem?_map] at hx
      obtain ⟨y, hy, rfl⟩ := Option.map_eq_some_iff.1 hx
      have hqj := hL.old j y hj hy
      rw [woken_quitsD hqj, upd_ne q k (Ne.symm hji), Deaf_other t hji _ (fun op hop => by obtain ⟨e, _, rfl⟩ := Go.Conc.mem_ofEvents hop; rfl)]
      exact hqj, fun j hj => by
     rw [Deaf_other t (g' := i) (by simp at hj; omega) _ (fun op hop => by obtain ⟨e, _, rfl⟩ := Go.Conc.mem_ofEvents hop; rfl)]
     exact hL.above j (by simpa using hj)⟩
   obtain ⟨N, s', p', gs', b', b2', bs', u', sl'', t', q', r1, r2, r3⟩ := ihM (sumTo gs.size (upd q i k)) (by omega) (sl := sl') H (hR.at d) hb hbs h01 hL1 (by rw [hsz]; exact Nat.le_refl _) (hP.mute (by omega) hm)
   exact ⟨N + 1, s', p', gs', b', b2', bs', u', sl'', t', q', by simp only [runNT, hst, hrunT]; exact r1, ⟨r2.size.trans hsz, r2.zero, r2.leave, r2.past, r2.ends, r2.rel, r2.acc, r2.nc, ⟨r2.kp.le, r2.kp.size, r2.kp.lsize, r2.kp.fresh, r2.kp.other, r2.kp.os, r2.kp.tape, r2.kp.out, r2.kp.still⟩, r2.rch, r2.low⟩, r3⟩
theorem inv_runs2 (hz : Zero P) (hG : Glob.size = P.globals.size) (hc : Codes P) {Post : Value → Array Obj → Prop} : ∀ (n : Nat) {s : St} {a2 : Frame} {as2 : List Frame} {w2 : World}, Inv P Post s →
  runN P n (lone s.a (s.as ++ [floor]) s.w) = .next (lone a2 (as2 ++ [floor]) w2) → Inv P Post ⟨a2, as2, w2⟩ ∧ (n = 0 ∨ Relation.TransGen (Ahead P) ⟨a2, as2, w2⟩ s) ∧ (n = 0 → s = ⟨a2, as2, w2⟩) := by
 intro n
 induction n with
 | zero =>
  intro s a2 as2 w2 hi e
  simp only [runN, Stepped.next.injEq, lone, Machine.mk.injEq] at e
  have e2 := e.2.1
  simp at e2
  obtain ⟨h1, h2⟩ := e2
  have e1 := e.1
  obtain ⟨a, as0, w⟩ := s
  simp only at h1 h2 e1
  subst h1
  subst h2
  subst e1
  exact ⟨hi, .inl rfl, fun _ => rfl⟩
 | succ n ih =>
  intro s a2 as2 w2 hi e
  obtain ⟨H, p, b, bs, u, hg, hw, ha, hs⟩ := hi
  by_cases no : s.a.mode = .returning ∧ s.as = []
  ·have e' := e
   rw [no.2, List.nil_append] at e'
   have := end_any hc ha no.1 e'
   omega
  ·have hw0 : WR p s.w (wt u s.w.tape s.w.drawn) := ⟨hw.blk, hw.inj, hw.big, hw.dead⟩
   obtain ⟨q, a1, b1, as1, bs1, w1, u1, es1, es1', g2, g3, g4, g5, g6, g7, g8, _⟩ := own_step (main := true) (cs := [floor]) hz hG hc hg hw0 ha hs no H
   have g8 : stepG P true (gor s.a (s.as ++ [floor])) s.w = .go (gor a1 (as1 ++ [floor])) w1 es1 := g8
   have nx : Nxt P s.w.tape s.w.drawn s ⟨a1, as1, w1⟩ := ⟨no, es1, g8⟩
   have hi2 := (inv_next hz hG hc ⟨H, p, b, bs, u, hg, hw, ha, hs⟩ nx).1
   simp only [runN, next_lone g8] at e
   obtain ⟨r1, r2, r3⟩ := ih (s := ⟨a1, as1, w1⟩) hi2 e
   refine ⟨r1, .inr ?_, fun h => by omega⟩
   rcases r2 with r2 | r2
   ·rw [← r3 r2]
    exact .single ⟨_, _, nx⟩
   ·exact .tail r2 ⟨_, _, nx⟩
def Leap (P : Program) (Post : Value → Array Obj → Prop) (W : World) : Prop := ∀ (g : FuncId) (ys : Array Value) (s : St) (p : Ren) (top : Frame) (bs cs : List Frame) (u : World) (gs : Array Goroutine) (sl : Option (Nat × Nat)) (t : Trace),
 Old W u → Glob.cut g = true → ys.size = ary g → AllEnd P Post s.a s.as s.w → Rel P p s (Frame.enter P g ys .normal) (top :: bs) u → Alone (co P) (gor (Frame.enter (co P) g ys .normal) (top :: (bs ++ cs))) gs u t →
 ∃ N gs' u' sl' t', ∃ n top0 as0 v v' w2, runNT (co P) N (crowd gs u sl) t = (.next (crowd gs' u' sl'), t') ∧ Alone (co P) (gor (top.finish v') (bs ++ cs)) gs' u' t' ∧ Old u u' ∧ s.as = top0 :: as0 ∧ V p v v' ∧
  runN P n (lone s.a (s.as ++ [floor]) s.w) = .next (lone (top0.finish v) (as0 ++ [floor]) w2) ∧ s.w.heap.size ≤ w2.heap.size ∧ ∀ b, b < s.w.heap.size → w2.heap[b]? = s.w.heap[b]?
theorem wr_later {w u w2 u2 : World} (h : WR p w u) (h1 : w.heap.size ≤ w2.heap.size) (h2 : ∀ b, b < w.heap.size → w2.heap[b]? = w.heap[b]?) (k : Old u u2) : WR p w2 u2 := by
 refine ⟨fun b c e => ?_, h.inj, ⟨Nat.le_trans h.big.1 h1, Nat.le_trans h.big.2 k.size⟩, fun g hg => ?_⟩
 ·obtain ⟨o, o', a1, a2, a3⟩ := h.blk b c e
  have l := h.lt e
  exact ⟨o, o', (h2 b l.1).trans a1, (k.same c l.2).trans a2, a3⟩
 ·obtain ⟨a1, ty, fz, a2⟩ := h.dead g hg
  exact ⟨a1, ty, fz, (h2 g (Array.getElem?_eq_some_iff.1 a2).1).trans a2⟩
theorem carry_loop (hz : Zero P) (hG : Glob.size = P.globals.size) (hc : Codes P) {Post : Value → Array Obj → Prop} {W w0 : World} {p0 : Ren} (hfz : ∀ d c, p0 d = some c → Fz w0 d) (HS : Leap P Post W) {cs : List Frame} : ∀ {s : St}, Acc (Relation.TransGen (Ahead P)) s → ∀ {p : Ren} {gs : Array Goroutine} {b : Frame} {bs : List Frame} {u : World} {sl : Option (Nat × Nat)} {t : Trace},
  AllEnd P Post s.a s.as s.w → Acc (Ahead P) s → Rel P p s b bs u → Glob.cut b.fn = false → (∀ x ∈ bs, Glob.cut x.fn = false) → Alone (co P) (gor b (bs ++ cs)) gs u t → Kp p0 p w0 s.w W u →
  ∃ N s' p' gs' b' bs' u' sl' t', runNT (co P) N (crowd gs u sl) t = (.next (crowd gs' u' sl'), t') ∧ Alone (co P) (gor b' (bs' ++ cs)) gs' u' t' ∧ AllEnd P Post s'.a s'.as s'.w ∧ Rel P p' s' b' bs' u' ∧ s'.over ∧ Kp p p' s.w s'.w u u' ∧ low b' bs' = low b bs := by
 intro s hA
 induction hA with
 | intro s hA0 ih =>
 intro p gs b bs u sl t H acc hR hb hbs hF K0
 obtain ⟨q, hL⟩ := hF.leave
 obtain ⟨N, s', p', gs', b', b2, bs', u', sl', t', q', e1, got, hend⟩ := plain_run2 hz hG hc (cs := cs) (sl := sl) acc (sumTo gs.size q) H hR hb hbs hF.zero hL (Nat.le_refl _) hF.past
 rcases hend with ⟨ov, rfl⟩ | ⟨g, ys, c1, c2, c3, c4⟩
 ·exact ⟨N, s', p', gs', b2, bs', u', sl', t', e1, ⟨got.zero, rfl, ⟨q', got.leave⟩, got.past⟩, got.ends, got.rel, ov, got.kp, got.low⟩
 ·cases bs' with
  | nil => exact absurd rfl c4
  | cons top bs' =>
   subst c2
   subst c3
   have hF1 : Alone (co P) (gor (Frame.enter (co P) g ys .normal) (top :: (bs' ++ cs))) gs' u' t' := ⟨got.zero, rfl, ⟨q', got.leave⟩, got.past⟩
   obtain ⟨N2, gs2, u2, sl2, t2, n, top0, as0, v, v', w2, f1, f2, f3, f4, f5, f6, f7, f8⟩ := HS g ys s' p' top bs' cs u' gs' sl' t' (old_of (K0.trans got.kp) hfz) c1.1 c1.2 got.ends got.rel hF1
   have hI : Inv P Post s' := ⟨got.ends, p', _, _, u', got.rel.gp, got.rel.wr, got.rel.fr, got.rel.sk⟩
   obtain ⟨hI2, hT, hT0⟩ := inv_runs2 hz hG hc n hI f6
   have hsk := got.rel.sk
   rw [f4] at hsk
   have hR2 : Rel P p' ⟨top0.finish v, as0, w2⟩ (top.finish v') bs' u2 := ⟨got.rel.gp, wr_later got.rel.wr f7 f8 f3, finish_fr hsk.1 f5, hsk.2⟩
   have hlt : Relation.TransGen (Ahead P) ⟨top0.finish v, as0, w2⟩ s := by
    have h1 : Relation.TransGen (Ahead P) ⟨top0.finish v, as0, w2⟩ s' := by
     rcases hT with h | h
     ·have := congrArg St.as (hT0 h)
      rw [f4] at this
      exact absurd this (by simp)
     ·exact h
    rcases got.rch with e | e
    ·rw [← e]; exact h1
    ·exact h1.trans e
   have hk2 : Kp p' p' s'.w w2 u' u2 := ⟨Le.refl _, f3.size, f7, fun _ _ e => .inl e, fun c hc _ => f3.same c hc, f3.os, f3.tape, f3.out, fun b c e _ => ⟨f3.same c (got.rel.wr.lt e).2, f8 b (got.rel.wr.lt e).1⟩⟩
   have hacc2 : Acc (Ahead P) ⟨top0.finish v, as0, w2⟩ := ends_acc hz hG hc hI2
   obtain ⟨N3, s3, p3, gs3, b3, bs3, u3, sl3, t3, r1, r2, r3, r4, r5, r6, r7⟩ := ih _ hlt (sl := sl2) hI2.1 hacc2 hR2 (by rw [finish_fn]; exact got.nc top List.mem_cons_self) (fun x hx => got.nc x (List.mem_cons_of_mem _ hx)) f2 ((K0.trans got.kp).trans hk2)
   refine ⟨N + (N2 + N3), s3, p3, gs3, b3, bs3, u3, sl3, t3, ?_, r2, r3, r4, r5, (got.kp.trans hk2).trans r6, (r7.trans (low_fn (finish_fn top v') bs')).trans got.low⟩
   rw [runNT_add, e1]
   show runNT _ (N2 + _) _ _ = _
   rw [runNT_add, f1]
   exact r1
end
end Go.Proofs.Ytpeoabopeihadaa.Sim
