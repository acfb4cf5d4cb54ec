/- A worker is hired at each of narrow's go statements. -/
import Derived.Test.YtpeoabopeihadaaNQD
import Derived.Conc.Own5
set_option linter.unusedVariables false
set_option linter.unusedSimpArgs false
set_option linter.unusedSectionVars false
set_option maxHeartbeats 4000000
namespace Go.Proofs.Ytpeoabopeihadaa.Sim
open Go Go.Conc
open Go.ConcN (sumTo upd sumTo_upd upd_ne upd_same)
section
variable [Glob] {P : Program}
theorem Mid.more {Post : Value → Array Obj → Prop} {rd rd' own : Nat → Prop} {p : Ren} {s : St} {b : Frame} {bs : List Frame} {u : World} (h : Mid P Post rd own p s b bs u) (hr : ∀ c, rd c → rd' c) : Mid P Post rd' own p s b bs u :=
 ⟨h.ends, h.rel, fun d c e => (h.mine d c e).imp id fun h => ⟨hr c h.1, h.2⟩⟩
structure Told (P : Program) : Prop where
 zero : Zero P
 size : Glob.size = P.globals.size
 codes : Codes P
 cut : ∀ f, Glob.ok f = true → Glob.cut f = false
 co : co P = Try.prog
def Asks (P : Program) (S : Nat → Prop) (U : World) (o l : Nat) (n : Int) (ans : Bool) : Prop :=
 ∀ u', (∀ c, S c → u'.heap[c]? = U.heap[c]?) → U.heap.size ≤ u'.heap.size → ∃ s p, Acc (Ahead P) s ∧ Mid P (fun v _ => v = .bool ans) S (fun _ => False) p s (Frame.enter Try.prog 48 #[.int .i64 n, pt o, pt l] .normal) [] u'
abbrev RW (S : Nat → Prop) (nB hB cA : Nat) : Nat → Prop := fun b => S b ∨ b = nB ∨ b = hB ∨ b = cA
abbrev mkW (P : Program) (S : Nat → Prop) (U : World) (i c nB hB cA : Nat) (ans : Bool) : Wkr (Wm P) := ⟨i, c, .bool ans, WW P (fun v _ => v = .bool ans) (RW S nB hB cA) U c (.bool ans)⟩
theorem cell_one {v : World} {b : Nat} {x : Value} {t : TypeId} (h : v.heap[b]? = some (.cells #[x] t (0, 0))) : v.cell? ⟨b, 0, none⟩ = some x := by
 simp [World.cell?, h]
theorem v_bool {q : Ren} {x : Bool} {y : Value} (h : V q (.bool x) y) : y = .bool x := by
 obtain ⟨n, h⟩ := h
 cases n with
 | zero => exact h.elim
 | succ n => cases y <;> simp [VR] at h; rw [h]
structure AfterA (own0 rdA : Nat → Prop) (u : World) (n : Int) (ans : Bool) (o l : Nat) (cs : List Frame) (x : Wkr (Wm P)) (g' : Goroutine) (own1 rd1 : Nat → Prop) (v : World) (nB hB c cA : Nat) : Prop where
 hc : x.c = c
 hv : x.v = .bool ans
 hg : g' = askG Try.prog Try.f133 n (holdsV o l) nB hB c cA cs
 ho : own1 = own0
 hr : rd1 = fun b => rdA b ∨ b = nB ∨ b = hB ∨ b = cA
 cell : v.cell? ⟨cA, 0, none⟩ = some (.chan (some c))
 new : u.heap.size ≤ c ∧ c < v.heap.size
 neat : Neat own1 rd1 v
 keeps : Keeps rdA u v
theorem ask_hires (T : Told P) {S own0 rdA : Nat → Prop} {U u : World} {o l : Nat} {n : Int} {ans : Bool} {cs : List Frame} (hn : Neat own0 rdA u) (hS : ∀ b, S b → rdA b) (hsame : ∀ b, S b → u.heap[b]? = U.heap[b]?) (hsz : U.heap.size ≤ u.heap.size) (hA : Asks P S U o l n ans) :
  ∃ m, MGo Try.prog rdA (fun ow g v => ∀ i, ∃ x mm g' child own1 rd1 rdw, x.i = i ∧ Hire Try.prog ow rdA g v x mm g' child own1 rd1 rdw ∧ Works Try.prog (wmR (P := P)).rel rdw x ∧ ∃ nB hB c cA, AfterA (P := P) own0 rdA u n ans o l cs x g' own1 rd1 v nB hB c cA) m own0 (G (Frame.enter Try.prog 133 #[.int .i64 n, holdsV o l] .normal) cs) u := by
 obtain ⟨m, hm⟩ := ask_walk (rd := rdA) (own := own0) (u := u) (cs := cs) (n := n) (o := o) (l := l) hn.low
 refine ⟨m, (hm.keeps hn (Keeps.refl _ _)).mono ?_⟩
 rintro ow g v ⟨⟨nB, hB, c, cA, ha⟩, hne, hk⟩ i
 obtain ⟨o1, o2, o3, o4⟩ := ha.order
 have lo : ∀ b, own0 b ∨ rdA b → b < u.heap.size := hn.low
 have hSv : ∀ b, S b → v.heap[b]? = U.heap[b]? := fun b hb => (hk.same b (hS b hb)).trans (hsame b hb)
 refine ⟨mkW P S v i c nB hB cA ans, (2, (none, 6)), _, _, own0, (fun b => rdA b ∨ b = nB ∨ b = hB ∨ b = cA), RW S nB hB cA, rfl, ⟨ha.spawn, rfl, ⟨fun _ h => h.elim, fun _ _ => rfl, .inl ⟨6, rfl, ?_⟩⟩, fun b hb => (ha.own b).2 (.inl hb), ?_, ?_, ?_, ?_, ⟨0, ha.atC⟩, ?_⟩, ?_, nB, hB, c, cA, rfl, rfl, rfl, rfl, rfl, cell_one ha.atA, ⟨by omega, ?_⟩, ?_, hk⟩
 ·refine wk54 T.co (cell_one ha.atA) (cell_one ha.atH) (cell_one ha.atN) (.inr (.inr (.inr rfl))) (.inr (.inr (.inl rfl))) (.inr (.inl rfl)) (fun x h q x' e1 e2 => by subst e1; exact v_bool e2) (fun u' h1 h2 => ?_) (fun _ _ => rfl) (Nat.le_refl _)
  obtain ⟨s, p, a1, a2⟩ := hA u' (fun b hb => (h1 b (.inl hb)).trans (hSv b hb)) (Nat.le_trans hsz (Nat.le_trans hk.size h2))
  exact ⟨s, p, a1, a2.more fun b hb => .inl hb⟩
 ·rintro b (h | h | h | h)
  ·exact .inr h
  ·exact .inl ((ha.own b).2 (.inr (.inl h)))
  ·exact .inl ((ha.own b).2 (.inr (.inr (.inl h))))
  ·exact .inl ((ha.own b).2 (.inr (.inr (.inr (.inr h)))))
 ·rintro b (h | h)
  ·exact .inl (hS b h)
  ·exact .inr h
 ·rintro b hb (h | h | h | h)
  ·exact hn.apart b hb (hS b h)
  ·have := lo b (.inl hb); omega
  ·have := lo b (.inl hb); omega
  ·have := lo b (.inl hb); omega
 ·exact (ha.own c).2 (.inr (.inr (.inr (.inl rfl))))
 ·refine ⟨fun h => ?_, ?_⟩
  ·have := lo c (.inl h)
   omega
  ·show ¬(rdA c ∨ c = nB ∨ c = hB ∨ c = cA)
   rintro (h | h | h | h)
   ·have := lo c (.inr h); omega
   ·omega
   ·omega
   ·omega
 ·rw [← T.co]
  exact works_mid T.zero T.size T.codes T.cut i
 ·have := ha.low
  omega
 ·have hl := ha.low
  have hs := hk.size
  refine ⟨fun b hb => ?_, fun b hb => ?_⟩
  ·rcases hb with hb | hb | rfl | rfl | rfl
   ·have := lo b (.inl hb); omega
   ·have := lo b (.inr hb); omega
   ·omega
   ·omega
   ·omega
  ·rintro (h | h | h | h)
   ·exact hn.apart b hb h
   ·have := lo b (.inl hb); omega
   ·have := lo b (.inl hb); omega
   ·have := lo b (.inl hb); omega
end
end Go.Proofs.Ytpeoabopeihadaa.Sim
/- eir.narrow, run by goroutine 0 beside leavers: two workers are hired, both answers are taken, the bounds are moved. -/
namespace Go.Proofs.Ytpeoabopeihadaa.Sim
open Go Go.Conc
open Go.ConcN (sumTo upd sumTo_upd upd_ne upd_same)
def lo (y : Bool) (a c : Int) : Int := if y then max a c else a
def hi (y : Bool) (b c : Int) : Int := if y then b else min b c
theorem lo_comm (y z : Bool) (a c d : Int) : lo z (lo y a c) d = lo y (lo z a d) c := by
 cases y <;> cases z <;> simp [lo] <;> omega
theorem hi_comm (y z : Bool) (a c d : Int) : hi z (hi y a c) d = hi y (hi z a d) c := by
 cases y <;> cases z <;> simp [hi] <;> omega
abbrev two (a b : Int) : Value := .tuple #[.int .i64 a, .int .i64 b]
theorem lead_mov {a b c : Int} {y : Bool} {top : Frame} {cs : List Frame} : Leads Try.prog (G (Frame.enter Try.prog 134 #[.int .i64 a, .int .i64 b, .int .i64 c, .bool y] .normal) (top :: cs)) (G (top.finish (two (lo y a c) (hi y b c))) cs) := by
 cases y with
 | true => exact ⟨22, fun _ _ _ _ _ h => mov_yes h⟩
 | false => exact ⟨23, fun _ _ _ _ _ h => mov_no h⟩
section
variable {L H st lf rt : Int} {o l c e : Nat} {y z : Bool} {top : Frame} {cs : List Frame}
theorem lead_0 : Leads Try.prog (G (Frame.finish (S0 Try.f105 L H st lf rt o l c e) (.tuple #[.int .i64 0, .bool true, .bool y, .bool false])) cs) (G (S10 Try.f105 L H (lo y L lf) (hi y H lf) st lf rt o l c e y) cs) :=
 Leads.trans ⟨_, fun _ _ _ _ _ h => nar_d0 h⟩ (Leads.trans lead_mov ⟨_, fun _ _ _ _ _ h => nar_f0 h⟩)
theorem lead_1 : Leads Try.prog (G (Frame.finish (S0 Try.f105 L H st lf rt o l c e) (.tuple #[.int .i64 1, .bool true, .bool false, .bool y])) cs) (G (S11 Try.f105 L H (lo y L rt) (hi y H rt) st lf rt o l c e y) cs) :=
 Leads.trans ⟨_, fun _ _ _ _ _ h => nar_d1 h⟩ (Leads.trans lead_mov ⟨_, fun _ _ _ _ _ h => nar_f1 h⟩)
theorem lead_end0 {L1 H1 : Int} : Leads Try.prog (G (Frame.finish (S10 Try.f105 L H L1 H1 st lf rt o l c e y) (.tuple #[.int .i64 1, .bool true, .bool false, .bool z])) (top :: cs)) (G (top.finish (two (lo z L1 rt) (hi z H1 rt))) cs) :=
 Leads.trans ⟨_, fun _ _ _ _ _ h => nar_g0 h⟩ (Leads.trans lead_mov ⟨_, fun _ _ _ _ _ h => nar_h0 h⟩)
theorem lead_end1 {L1 H1 : Int} : Leads Try.prog (G (Frame.finish (S11 Try.f105 L H L1 H1 st lf rt o l c e y) (.tuple #[.int .i64 0, .bool true, .bool z, .bool false])) (top :: cs)) (G (top.finish (two (lo z L1 lf) (hi z H1 lf))) cs) :=
 Leads.trans ⟨_, fun _ _ _ _ _ h => nar_g1 h⟩ (Leads.trans lead_mov ⟨_, fun _ _ _ _ _ h => nar_h1 h⟩)
end
theorem fin0 (Q : Program) (fr : Frame) (cs : List Frame) (c e : Nat) (v z : Value) : (G fr cs).finishComm Q #[rcase c z, rcase e z] .select ((kk false : Nat) : Int) v true = G (fr.finish (.tuple #[.int .i64 0, .bool true, v, z])) cs := by
 simp [Goroutine.finishComm, commResult, rcase, kk, G]
 rfl
theorem fin1 (Q : Program) (fr : Frame) (cs : List Frame) (c e : Nat) (v z : Value) : (G fr cs).finishComm Q #[rcase c z, rcase e z] .select ((kk true : Nat) : Int) v true = G (fr.finish (.tuple #[.int .i64 1, .bool true, z, v])) cs := by
 simp [Goroutine.finishComm, commResult, rcase, kk, G]
 rfl
end Go.Proofs.Ytpeoabopeihadaa.Sim
/- eir.narrow, run by goroutine 0 beside leavers. -/
namespace Go.Proofs.Ytpeoabopeihadaa.Sim
open Go Go.Conc
open Go.ConcN (sumTo upd sumTo_upd upd_ne upd_same)
section
variable [Glob] {P : Program}
theorem nar_run (T : Told P) {S : Nat → Prop} {U : World} {o l : Nat} {L H st lf rt : Int} {y1 y2 : Bool} (h1 : (H - L + 1).tdiv 3 = st) (h2 : L + st = lf) (h3 : H - st = rt) (r1 : I64 (H - L)) (r2 : I64 (H - L + 1)) (r3 : I64 st) (r4 : I64 lf) (r5 : I64 rt)
  (hA1 : Asks P S U o l lf y1) (hA2 : Asks P S U o l rt y2) (hS : ∀ b, S b → b < U.heap.size) {g0 : Goroutine} {gs : Array Goroutine} {u : World} {sl : Option (Nat × Nat)} {t : Trace} {top : Frame} {cs : List Frame} (hF : Alone Try.prog g0 gs u t)
  (hlead : Leads Try.prog g0 (G (Frame.enter Try.prog 105 #[.int .i64 L, .int .i64 H, holdsV o l] .normal) (top :: cs))) (hsame : ∀ b, S b → u.heap[b]? = U.heap[b]?) (hsz : U.heap.size ≤ u.heap.size) :
  ∃ N gs' u' sl' t' g0', runNT Try.prog N (crowd gs u sl) t = (.next (crowd gs' u' sl'), t') ∧ Alone Try.prog g0' gs' u' t' ∧ Leads Try.prog g0' (G (top.finish (two (lo y2 (lo y1 L lf) rt) (hi y2 (hi y1 H lf) rt))) cs) ∧ Old u u' := by
 obtain ⟨q, hL⟩ := hF.leave
 obtain ⟨K, hlead⟩ := hlead
 have c0 : CI Try.prog (fun _ => mkW P S u 0 0 0 0 0 false) (fun _ => false) (fun _ => none) [] (fun _ _ => False) (fun _ b => b < u.heap.size) g0 gs u t q := CI.ofFrame hF.zero hF.run hL hF.past (fun b hb => hb.elim False.elim id)
 have n0 : Neat (fun _ => False) (fun b => b < u.heap.size) u := ⟨fun b hb => hb.elim False.elim id, fun b hb => hb.elim⟩
 have hSu : ∀ b, S b → b < u.heap.size := fun b hb => Nat.lt_of_lt_of_le (hS b hb) hsz
 obtain ⟨m1, hm1⟩ := ask_hires T (cs := NA Try.f105 L H st lf rt o l :: top :: cs) n0 hSu hsame hsz hA1
 obtain ⟨N1, gs1, u1, sl1, t1, o1, own1, q1, x1, mm1, g1, ow1, rr1, rw1, e1, z1, i1, c1, run1, W1, nB, hB, c, cA, a1⟩ := spawns (sl := sl) (s := false) (f := fun _ => false) wmR.wf rfl (fun s hs => by cases hs) c0 hF.run (hlead _ _ _ _ _ (nar_a h1 h2 h3 r1 r2 r3 r4 r5 hm1))
 obtain rfl := a1.hg
 obtain rfl := a1.hc
 have hs1 : ∀ b, S b → u1.heap[b]? = U.heap[b]? := fun b hb => (a1.keeps.same b (hSu b hb)).trans (hsame b hb)
 have k1 : Old u u1 := a1.keeps
 have rd1 : ∀ b, b < u.heap.size → rr1 b := fun b hb => by rw [a1.hr]; exact .inl hb
 obtain ⟨m2, hm2⟩ := ask_hires T (cs := NB Try.f105 L H st lf rt o l x1.c :: top :: cs) a1.neat (fun b hb => rd1 b (hSu b hb)) hs1 (Nat.le_trans hsz k1.size) hA2
 obtain ⟨N2, gs2, u2, sl2, t2, o2, own2, q2, x2, mm2, g2, ow2, rr2, rw2, e2, z2, i2, c2, run2, W2, nB2, hB2, c', cA2, a2⟩ := spawns (sl := sl1) (s := true) wmR.wf rfl W1 c1 run1 (by
  rw [upd_same, upd_same]
  exact ask_after (.inr (by rw [a1.hr]; exact .inr (.inr (.inr rfl)))) a1.cell (nar_b hm2))
 obtain rfl := a2.hg
 obtain rfl := a2.hc
 have rd2 : ∀ b, b < u.heap.size → rr2 b := fun b hb => by rw [a2.hr]; exact .inl (rd1 b hb)
 have k2 : Old u u2 := Keeps.trans k1 (a2.keeps.mono rd1)
 have hne : x1.c ≠ x2.c := by
  have := a1.new
  have := a2.new
  omega
 have hc2 : ∀ s, (updB (updB (fun _ => mkW P S u 0 0 0 0 0 false) false x1) true x2 s).c ∈ [x2.c, x1.c] := fun s => by cases s <;> simp [updB]
 have hAf2 : ∀ (A : Goroutine → Prop) (ow : Nat → Prop) (g : Goroutine) (v v' : World), (A g ∧ Old u v) → Keeps (fun b => ow b ∨ upd (upd (upd (upd (fun _ b => b < u.heap.size) x1.i rw1) 0 rr1) x2.i rw2) 0 rr2 0 b) v v' → A g ∧ Old u v' := fun A ow g v v' h k => ⟨h.1, Keeps.trans h.2 (k.mono fun b hb => .inr (by rw [upd_same]; exact rd2 b hb))⟩
 obtain ⟨s, g00, N3, gs3, u3, sl3, t3, o3, own3, q3, hs3, e3, z3, c3, hg3, k3⟩ := receives (sl := sl2) (z0 := .bool false) (After := fun ow g v => g = G (S0 Try.f105 L H st lf rt o l x1.c x2.c) (top :: cs) ∧ Old u v) wmR.wf hne hc2 (hAf2 _) W2 c2 run2 ⟨true, rfl⟩ (by
  rw [upd_same, upd_same]
  exact ask_after (.inr (by rw [a2.hr]; exact .inr (.inr (.inr rfl)))) a2.cell (nar_c (MGo.stop (n := 0) fun v k => ⟨_, nar_sel0 (L1 := 0) (H1 := 0) (y := false), rfl, Keeps.trans k2 (k.mono fun b hb => .inr (rd2 b hb))⟩)))
 subst hg3
 cases s with
 | false =>
  have fe : (G (S0 Try.f105 L H st lf rt o l x1.c x2.c) (top :: cs)).finishComm Try.prog (csel (updB (updB (fun _ => mkW P S u 0 0 0 0 0 false) false x1) true x2) (.bool false)) .select ((kk false : Nat) : Int) (updB (updB (fun _ => mkW P S u 0 0 0 0 0 false) false x1) true x2 false).v true = G (Frame.finish (S0 Try.f105 L H st lf rt o l x1.c x2.c) (.tuple #[.int .i64 0, .bool true, .bool y1, .bool false])) (top :: cs) := by
   rw [show (updB (updB (fun _ => mkW P S u 0 0 0 0 0 false) false x1) true x2 false).v = .bool y1 from a1.hv]
   exact fin0 _ _ _ _ _ _ _
  rw [fe] at c3
  obtain ⟨K4, hl4⟩ := lead_0 (L := L) (H := H) (st := st) (lf := lf) (rt := rt) (o := o) (l := l) (c := x1.c) (e := x2.c) (y := y1) (cs := top :: cs)
  obtain ⟨s', g01, N4, gs4, u4, sl4, t4, o4, own4, q4, hs4, e4, z4, c4, hg4, k4⟩ := receives (sl := sl3) (z0 := .bool false) (After := fun ow g v => g = G (S10 Try.f105 L H (lo y1 L lf) (hi y1 H lf) st lf rt o l x1.c x2.c y1) (top :: cs) ∧ Old u v) wmR.wf hne hc2 (hAf2 _)
   (fun r hr => W2 r (by cases r <;> first | exact hr | (exact absurd hr (by simp [updB])) | rfl)) c3 rfl ⟨true, rfl⟩ (hl4 _ _ _ _ _ (MGo.stop (n := 0) fun v k => ⟨_, nar_sel10 (L1 := lo y1 L lf) (H1 := hi y1 H lf), rfl, Keeps.trans k3 (k.mono fun b hb => .inr (by rw [upd_same]; exact rd2 b hb))⟩))
  subst hg4
  have es : s' = true := by
   cases s' with
   | true => rfl
   | false => exact absurd hs4 (by simp [updB])
  subst es
  have fe4 : (G (S10 Try.f105 L H (lo y1 L lf) (hi y1 H lf) st lf rt o l x1.c x2.c y1) (top :: cs)).finishComm Try.prog (csel (updB (updB (fun _ => mkW P S u 0 0 0 0 0 false) false x1) true x2) (.bool false)) .select ((kk true : Nat) : Int) (updB (updB (fun _ => mkW P S u 0 0 0 0 0 false) false x1) true x2 true).v true = G (Frame.finish (S10 Try.f105 L H (lo y1 L lf) (hi y1 H lf) st lf rt o l x1.c x2.c y1) (.tuple #[.int .i64 1, .bool true, .bool false, .bool y2])) (top :: cs) := by
   rw [show (updB (updB (fun _ => mkW P S u 0 0 0 0 0 false) false x1) true x2 true).v = .bool y2 from a2.hv]
   exact fin1 _ _ _ _ _ _ _
  rw [fe4] at c4
  obtain ⟨z, lv, ps⟩ := c4.toFrame (fun r => by cases r <;> rfl)
  refine ⟨N1 + (N2 + (N3 + N4)), gs4, u4, sl4, t4, _, ?_, ⟨z, rfl, ⟨q4, lv⟩, ps⟩, lead_end0, k4⟩
  rw [runNT_add, e1]
  show runNT _ (N2 + (N3 + N4)) _ _ = _
  rw [runNT_add, e2]
  show runNT _ (N3 + N4) _ _ = _
  rw [runNT_add, e3]
  exact e4
 | true =>
  have fe : (G (S0 Try.f105 L H st lf rt o l x1.c x2.c) (top :: cs)).finishComm Try.prog (csel (updB (updB (fun _ => mkW P S u 0 0 0 0 0 false) false x1) true x2) (.bool false)) .select ((kk true : Nat) : Int) (updB (updB (fun _ => mkW P S u 0 0 0 0 0 false) false x1) true x2 true).v true = G (Frame.finish (S0 Try.f105 L H st lf rt o l x1.c x2.c) (.tuple #[.int .i64 1, .bool true, .bool false, .bool y2])) (top :: cs) := by
   rw [show (updB (updB (fun _ => mkW P S u 0 0 0 0 0 false) false x1) true x2 true).v = .bool y2 from a2.hv]
   exact fin1 _ _ _ _ _ _ _
  rw [fe] at c3
  obtain ⟨K4, hl4⟩ := lead_1 (L := L) (H := H) (st := st) (lf := lf) (rt := rt) (o := o) (l := l) (c := x1.c) (e := x2.c) (y := y2) (cs := top :: cs)
  obtain ⟨s', g01, N4, gs4, u4, sl4, t4, o4, own4, q4, hs4, e4, z4, c4, hg4, k4⟩ := receives (sl := sl3) (z0 := .bool false) (After := fun ow g v => g = G (S11 Try.f105 L H (lo y2 L rt) (hi y2 H rt) st lf rt o l x1.c x2.c y2) (top :: cs) ∧ Old u v) wmR.wf hne hc2 (hAf2 _)
   (fun r hr => W2 r (by cases r <;> first | exact hr | (exact absurd hr (by simp [updB])) | rfl)) c3 rfl ⟨false, rfl⟩ (hl4 _ _ _ _ _ (MGo.stop (n := 0) fun v k => ⟨_, nar_sel11 (L1 := lo y2 L rt) (H1 := hi y2 H rt), rfl, Keeps.trans k3 (k.mono fun b hb => .inr (by rw [upd_same]; exact rd2 b hb))⟩))
  subst hg4
  have es : s' = false := by
   cases s' with
   | false => rfl
   | true => exact absurd hs4 (by simp [updB])
  subst es
  have fe4 : (G (S11 Try.f105 L H (lo y2 L rt) (hi y2 H rt) st lf rt o l x1.c x2.c y2) (top :: cs)).finishComm Try.prog (csel (updB (updB (fun _ => mkW P S u 0 0 0 0 0 false) false x1) true x2) (.bool false)) .select ((kk false : Nat) : Int) (updB (updB (fun _ => mkW P S u 0 0 0 0 0 false) false x1) true x2 false).v true = G (Frame.finish (S11 Try.f105 L H (lo y2 L rt) (hi y2 H rt) st lf rt o l x1.c x2.c y2) (.tuple #[.int .i64 0, .bool true, .bool y1, .bool false])) (top :: cs) := by
   rw [show (updB (updB (fun _ => mkW P S u 0 0 0 0 0 false) false x1) true x2 false).v = .bool y1 from a1.hv]
   exact fin0 _ _ _ _ _ _ _
  rw [fe4] at c4
  obtain ⟨z, lv, ps⟩ := c4.toFrame (fun r => by cases r <;> rfl)
  refine ⟨N1 + (N2 + (N3 + N4)), gs4, u4, sl4, t4, _, ?_, ⟨z, rfl, ⟨q4, lv⟩, ps⟩, by rw [lo_comm y1 y2, hi_comm y1 y2]; exact lead_end1, k4⟩
  rw [runNT_add, e1]
  show runNT _ (N2 + (N3 + N4)) _ _ = _
  rw [runNT_add, e2]
  show runNT _ (N3 + N4) _ _ = _
  rw [runNT_add, e3]
  exact e4
end
end Go.Proofs.Ytpeoabopeihadaa.Sim
/- eir.last, walked by goroutine 0. -/
namespace Go.Proofs.Ytpeoabopeihadaa.Sim
open Go Go.Conc
abbrev LW (f : Func) : Code := .seq (.seq (Rg f 1) (.cond (.tmp 10) .skip (.exit 0))) (.block 1 (Rg f 2))
abbrev LX (f : Func) : List Item := .inLoop (LW f) :: .inBlock 0 :: [.code (.seq (Rg f 3) .ret)]
theorem body18 : Try.f47.body = some (.seq (Rg Try.f47 0) (.seq (.block 0 (.loop (LW Try.f47))) (.seq (Rg Try.f47 3) .ret))) := rfl
theorem op18_0_0 : ∃ t ps af, (opsAt Try.f47 0)[0]? = some { dst := some 6, op := .assign (.const (.int .i64 0)), type := t, pos := ps, after := af, guard := none } := ⟨_, _, _, rfl⟩
theorem op18_1_0 : ∃ t ps af, (opsAt Try.f47 1)[0]? = some { dst := some 7, op := .move (.tmp 1), type := t, pos := ps, after := af, guard := none } := ⟨_, _, _, rfl⟩
theorem op18_1_1 : ∃ t ps af, (opsAt Try.f47 1)[1]? = some { dst := some 8, op := .move (.tmp 0), type := t, pos := ps, after := af, guard := none } := ⟨_, _, _, rfl⟩
theorem op18_1_2 : ∃ t ps af, (opsAt Try.f47 1)[2]? = some { dst := some 9, op := .binOp .sub 2 (.tmp 7) (.tmp 8) 2, type := t, pos := ps, after := af, guard := none } := ⟨_, _, _, rfl⟩
theorem op18_1_3 : ∃ t ps af, (opsAt Try.f47 1)[3]? = some { dst := some 10, op := .binOp .gtr 2 (.tmp 9) (.const (.int .i64 1)) 2, type := t, pos := ps, after := af, guard := none } := ⟨_, _, _, rfl⟩
theorem op18_2_0 : ∃ t ps af, (opsAt Try.f47 2)[0]? = some { dst := some 12, op := .move (.tmp 0), type := t, pos := ps, after := af, guard := none } := ⟨_, _, _, rfl⟩
theorem op18_2_1 : ∃ t ps af, (opsAt Try.f47 2)[1]? = some { dst := some 13, op := .move (.tmp 1), type := t, pos := ps, after := af, guard := none } := ⟨_, _, _, rfl⟩
theorem op18_2_2 : ∃ t ps af, (opsAt Try.f47 2)[2]? = some { dst := some 14, op := .move (.tmp 2), type := t, pos := ps, after := af, guard := none } := ⟨_, _, _, rfl⟩
theorem op18_2_3 : ∃ t ps af, (opsAt Try.f47 2)[3]? = some { dst := some 15, op := .call { callee := .value (.func 105), args := #[(.tmp 12), (.tmp 13), (.tmp 14)], argTypes := #[2, 2, 92] }, type := t, pos := ps, after := af, guard := none } := ⟨_, _, _, rfl⟩
theorem op18_2_4 : ∃ t ps af, (opsAt Try.f47 2)[4]? = some { dst := some 11, op := .move (.tmp 15), type := t, pos := ps, after := af, guard := none } := ⟨_, _, _, rfl⟩
theorem op18_2_5 : ∃ t ps af, (opsAt Try.f47 2)[5]? = some { dst := some 16, op := .extract (.tmp 11) 0, type := t, pos := ps, after := af, guard := none } := ⟨_, _, _, rfl⟩
theorem op18_2_6 : ∃ t ps af, (opsAt Try.f47 2)[6]? = some { dst := some 17, op := .extract (.tmp 11) 1, type := t, pos := ps, after := af, guard := none } := ⟨_, _, _, rfl⟩
theorem op18_2_7 : ∃ t ps af, (opsAt Try.f47 2)[7]? = some { dst := some 0, op := .assign (.tmp 16), type := t, pos := ps, after := af, guard := none } := ⟨_, _, _, rfl⟩
theorem op18_2_8 : ∃ t ps af, (opsAt Try.f47 2)[8]? = some { dst := some 1, op := .assign (.tmp 17), type := t, pos := ps, after := af, guard := none } := ⟨_, _, _, rfl⟩
theorem op18_3_0 : ∃ t ps af, (opsAt Try.f47 3)[0]? = some { dst := some 18, op := .move (.tmp 0), type := t, pos := ps, after := af, guard := none } := ⟨_, _, _, rfl⟩
theorem op18_3_1 : ∃ t ps af, (opsAt Try.f47 3)[1]? = some { dst := some 6, op := .assign (.tmp 18), type := t, pos := ps, after := af, guard := none } := ⟨_, _, _, rfl⟩
theorem tm18 (a b c : Value) : #[a, b, c] ++ Array.replicate (Try.f47.ntmps - (#[a, b, c] : Array Value).size) undef = #[a, b, c, undef, undef, undef, undef, undef, undef, undef, undef, undef, undef, undef, undef, undef, undef, undef, undef] := by kernel_rfl
theorem run_call30 {ev : Operand → Value} {d : Option Nat} {t : TypeId} {ps : String} {af : Array Edge} {gd : Option (Nat × Bool)} {x y z : Operand} {u : World} {a b : Int} {o l : Nat} (hf : ev (.func 105) = .func (.func 105) #[] #[]) (hx : ev x = .int .i64 a) (hy : ev y = .int .i64 b) (hz : ev z = holdsV o l) : (execOp ev { dst := d, op := .call { callee := .value (.func 105), args := #[x, y, z], argTypes := #[2, 2, 92] }, type := t, pos := ps, after := af, guard := gd }).run Try.prog u = .ok (.enter 105 #[.int .i64 a, .int .i64 b, holdsV o l]) u ∧ (execOp ev { dst := d, op := .call { callee := .value (.func 105), args := #[x, y, z], argTypes := #[2, 2, 92] }, type := t, pos := ps, after := af, guard := gd }).events Try.prog u #[] = #[] := by
 constructor <;> simp [execOp, go_sem, hx, hy, hz, hf, invoke, callFunc, Try.func105, Try.f105]
abbrev LS (f : Func) (L H : Int) (o l : Nat) (a7 a8 a9 a10 a11 a12 a13 a14 a15 a16 a17 : Value) : Frame := (base 47).at ⟨#[.int .i64 L, .int .i64 H, holdsV o l, undef, undef, undef, .int .i64 0, a7, a8, a9, a10, a11, a12, a13, a14, a15, a16, a17, undef], []⟩ (.code (LW f) :: LX f)
abbrev NL (f : Func) (L H : Int) (o l : Nat) (a11 a15 a16 a17 : Value) : Frame := ((base 47).at ⟨#[.int .i64 L, .int .i64 H, holdsV o l, undef, undef, undef, .int .i64 0, .int .i64 H, .int .i64 L, .int .i64 (H - L), .bool true, a11, .int .i64 L, .int .i64 H, holdsV o l, a15, a16, a17, undef], []⟩ (.inRegion (opsAt f 2) [3, 4, 5, 6, 7, 8] :: .inBlock 1 :: LX f))
section
variable {rd own : Nat → Prop} {u : World} {cs : List Frame} {o l : Nat} {Stop : (Nat → Prop) → Goroutine → World → Prop} {m : Nat} {top : Frame} {L H : Int} {a7 a8 a9 a10 a11 a12 a13 a14 a15 a16 a17 : Value}
set_option maxRecDepth 4000 in
theorem last_in (h : MGo Try.prog rd Stop m own (G (LS Try.f47 L H o l undef undef undef undef undef undef undef undef undef undef undef) cs) u) : MGo Try.prog rd Stop (m + 7) own (G (Frame.enter Try.prog 47 #[.int .i64 L, .int .i64 H, holdsV o l] .normal) cs) u := by
 rw [enter_at _ Try.func47 body18, tm18]
 refine MGo.ctl (fun _ => stepG_seq) rfl rfl ?_
 refine MGo.ctl (fun _ => stepG_region) rfl rfl ?_
 rw [show List.range (opsAt Try.f47 0).size = [0] from by kernel_rfl]
 obtain ⟨_, _, _, hop⟩ := op18_0_0
 refine MGo.pureT (d := 6) (v := .int .i64 0) (T := #[.int .i64 L, .int .i64 H, holdsV o l, Z, Z, Z, .int .i64 0, Z, Z, Z, Z, Z, Z, Z, Z, Z, Z, Z, Z]) hop rfl (by decide) rfl (fun u' => run_assign rfl) (fun u' => evs_assign) (by kernel_rfl) ?_
 clear hop
 refine MGo.ctl (fun _ => stepG_region_end) rfl rfl ?_
 refine MGo.ctl (fun _ => stepG_seq) rfl rfl ?_
 refine MGo.ctl (fun _ => stepG_block) rfl rfl ?_
 refine MGo.ctl (fun _ => stepG_loop) rfl rfl ?_
 exact h
set_option maxRecDepth 4000 in
theorem last_on (r1 : I64 (H - L)) (hb : decide (1 < H - L) = true) (h : MGo Try.prog rd Stop m own (G (Frame.enter Try.prog 105 #[.int .i64 L, .int .i64 H, holdsV o l] .normal) ((NL Try.f47 L H o l a11 a15 a16 a17) :: cs)) u) : MGo Try.prog rd Stop (m + 16) own (G (LS Try.f47 L H o l a7 a8 a9 a10 a11 a12 a13 a14 a15 a16 a17) cs) u := by
 refine MGo.ctl (fun _ => stepG_seq) rfl rfl ?_
 refine MGo.ctl (fun _ => stepG_seq) rfl rfl ?_
 refine MGo.ctl (fun _ => stepG_region) rfl rfl ?_
 rw [show List.range (opsAt Try.f47 1).size = [0, 1, 2, 3] from by kernel_rfl]
 obtain ⟨_, _, _, hop⟩ := op18_1_0
 refine MGo.pureT (d := 7) (v := .int .i64 H) (T := #[.int .i64 L, .int .i64 H, holdsV o l, Z, Z, Z, .int .i64 0, .int .i64 H, a8, a9, a10, a11, a12, a13, a14, a15, a16, a17, Z]) hop rfl (by decide) rfl (fun u' => run_move rfl) (fun u' => evs_move) (by kernel_rfl) ?_
 clear hop
 obtain ⟨_, _, _, hop⟩ := op18_1_1
 refine MGo.pureT (d := 8) (v := .int .i64 L) (T := #[.int .i64 L, .int .i64 H, holdsV o l, Z, Z, Z, .int .i64 0, .int .i64 H, .int .i64 L, a9, a10, a11, a12, a13, a14, a15, a16, a17, Z]) hop rfl (by decide) rfl (fun u' => run_move rfl) (fun u' => evs_move) (by kernel_rfl) ?_
 clear hop
 obtain ⟨_, _, _, hop⟩ := op18_1_2
 refine MGo.pureT (d := 9) (v := .int .i64 (H - L)) (T := #[.int .i64 L, .int .i64 H, holdsV o l, Z, Z, Z, .int .i64 0, .int .i64 H, .int .i64 L, .int .i64 (H - L), a10, a11, a12, a13, a14, a15, a16, a17, Z]) hop rfl (by decide) rfl (fun u' => run_sub rfl rfl rfl r1) (fun u' => evs_bin2 rfl rfl (.inr (.inl rfl))) (by kernel_rfl) ?_
 clear hop
 obtain ⟨_, _, _, hop⟩ := op18_1_3
 refine MGo.pureT (d := 10) (v := .bool true) (T := #[.int .i64 L, .int .i64 H, holdsV o l, Z, Z, Z, .int .i64 0, .int .i64 H, .int .i64 L, .int .i64 (H - L), .bool true, a11, a12, a13, a14, a15, a16, a17, Z]) hop rfl (by decide) rfl (fun u' => run_gtr2 rfl rfl hb) (fun u' => evs_bin2 rfl rfl (.inr (.inr rfl))) (by kernel_rfl) ?_
 clear hop
 refine MGo.ctl (fun _ => stepG_region_end) rfl rfl ?_
 refine MGo.ctl (fun _ => stepG_cond (t := true) rfl) rfl rfl ?_
 refine MGo.ctl (fun _ => stepG_skip) rfl rfl ?_
 refine MGo.ctl (fun _ => stepG_block) rfl rfl ?_
 refine MGo.ctl (fun _ => stepG_region) rfl rfl ?_
 rw [show List.range (opsAt Try.f47 2).size = [0, 1, 2, 3, 4, 5, 6, 7, 8] from by kernel_rfl]
 obtain ⟨_, _, _, hop⟩ := op18_2_0
 refine MGo.pureT (d := 12) (v := .int .i64 L) (T := #[.int .i64 L, .int .i64 H, holdsV o l, Z, Z, Z, .int .i64 0, .int .i64 H, .int .i64 L, .int .i64 (H - L), .bool true, a11, .int .i64 L, a13, a14, a15, a16, a17, Z]) hop rfl (by decide) rfl (fun u' => run_move rfl) (fun u' => evs_move) (by kernel_rfl) ?_
 clear hop
 obtain ⟨_, _, _, hop⟩ := op18_2_1
 refine MGo.pureT (d := 13) (v := .int .i64 H) (T := #[.int .i64 L, .int .i64 H, holdsV o l, Z, Z, Z, .int .i64 0, .int .i64 H, .int .i64 L, .int .i64 (H - L), .bool true, a11, .int .i64 L, .int .i64 H, a14, a15, a16, a17, Z]) hop rfl (by decide) rfl (fun u' => run_move rfl) (fun u' => evs_move) (by kernel_rfl) ?_
 clear hop
 obtain ⟨_, _, _, hop⟩ := op18_2_2
 refine MGo.pureT (d := 14) (v := holdsV o l) (T := #[.int .i64 L, .int .i64 H, holdsV o l, Z, Z, Z, .int .i64 0, .int .i64 H, .int .i64 L, .int .i64 (H - L), .bool true, a11, .int .i64 L, .int .i64 H, holdsV o l, a15, a16, a17, Z]) hop rfl (by decide) rfl (fun u' => run_move rfl) (fun u' => evs_move) (by kernel_rfl) ?_
 clear hop
 obtain ⟨_, _, _, hop⟩ := op18_2_3
 refine MGo.enter hop rfl (by decide) (fun u' => (run_call30 rfl rfl rfl rfl).1) (fun u' => (run_call30 rfl rfl rfl rfl).2) ?_
 clear hop
 exact h
set_option maxRecDepth 4000 in
theorem last_back {L1 H1 : Int} (h : MGo Try.prog rd Stop m own (G (LS Try.f47 L1 H1 o l (.int .i64 H) (.int .i64 L) (.int .i64 (H - L)) (.bool true) (two L1 H1) (.int .i64 L) (.int .i64 H) (holdsV o l) (two L1 H1) (.int .i64 L1) (.int .i64 H1)) cs) u) : MGo Try.prog rd Stop (m + 8) own (G (Frame.finish (NL Try.f47 L H o l a11 a15 a16 a17) (two L1 H1)) cs) u := by
 obtain ⟨_, _, _, hop⟩ := op18_2_3
 refine MGo.endT (T := #[.int .i64 L, .int .i64 H, holdsV o l, Z, Z, Z, .int .i64 0, .int .i64 H, .int .i64 L, .int .i64 (H - L), .bool true, a11, .int .i64 L, .int .i64 H, holdsV o l, two L1 H1, a16, a17, Z]) hop rfl (by kernel_rfl) ?_
 clear hop
 obtain ⟨_, _, _, hop⟩ := op18_2_4
 refine MGo.pureT (d := 11) (v := two L1 H1) (T := #[.int .i64 L, .int .i64 H, holdsV o l, Z, Z, Z, .int .i64 0, .int .i64 H, .int .i64 L, .int .i64 (H - L), .bool true, two L1 H1, .int .i64 L, .int .i64 H, holdsV o l, two L1 H1, a16, a17, Z]) hop rfl (by decide) rfl (fun u' => run_move rfl) (fun u' => evs_move) (by kernel_rfl) ?_
 clear hop
 obtain ⟨_, _, _, hop⟩ := op18_2_5
 refine MGo.pureT (d := 16) (v := .int .i64 L1) (T := #[.int .i64 L, .int .i64 H, holdsV o l, Z, Z, Z, .int .i64 0, .int .i64 H, .int .i64 L, .int .i64 (H - L), .bool true, two L1 H1, .int .i64 L, .int .i64 H, holdsV o l, two L1 H1, .int .i64 L1, a17, Z]) hop rfl (by decide) rfl (fun u' => run_extract rfl rfl) (fun u' => evs_extract rfl rfl) (by kernel_rfl) ?_
 clear hop
 obtain ⟨_, _, _, hop⟩ := op18_2_6
 refine MGo.pureT (d := 17) (v := .int .i64 H1) (T := #[.int .i64 L, .int .i64 H, holdsV o l, Z, Z, Z, .int .i64 0, .int .i64 H, .int .i64 L, .int .i64 (H - L), .bool true, two L1 H1, .int .i64 L, .int .i64 H, holdsV o l, two L1 H1, .int .i64 L1, .int .i64 H1, Z]) hop rfl (by decide) rfl (fun u' => run_extract rfl rfl) (fun u' => evs_extract rfl rfl) (by kernel_rfl) ?_
 clear hop
 obtain ⟨_, _, _, hop⟩ := op18_2_7
 refine MGo.pureT (d := 0) (v := .int .i64 L1) (T := #[.int .i64 L1, .int .i64 H, holdsV o l, Z, Z, Z, .int .i64 0, .int .i64 H, .int .i64 L, .int .i64 (H - L), .bool true, two L1 H1, .int .i64 L, .int .i64 H, holdsV o l, two L1 H1, .int .i64 L1, .int .i64 H1, Z]) hop rfl (by decide) rfl (fun u' => run_assign rfl) (fun u' => evs_assign) (by kernel_rfl) ?_
 clear hop
 obtain ⟨_, _, _, hop⟩ := op18_2_8
 refine MGo.pureT (d := 1) (v := .int .i64 H1) (T := #[.int .i64 L1, .int .i64 H1, holdsV o l, Z, Z, Z, .int .i64 0, .int .i64 H, .int .i64 L, .int .i64 (H - L), .bool true, two L1 H1, .int .i64 L, .int .i64 H, holdsV o l, two L1 H1, .int .i64 L1, .int .i64 H1, Z]) hop rfl (by decide) rfl (fun u' => run_assign rfl) (fun u' => evs_assign) (by kernel_rfl) ?_
 clear hop
 refine MGo.ctl (fun _ => stepG_region_end) rfl rfl ?_
 refine MGo.ctl (fun _ => stepG_inBlock) rfl rfl ?_
 refine MGo.ctl (fun _ => stepG_inLoop) rfl rfl ?_
 exact h
set_option maxRecDepth 4000 in
theorem last_out (r1 : I64 (H - L)) (hb : decide (1 < H - L) = false) (h : MGo Try.prog rd Stop m own (G (top.finish (.int .i64 L)) cs) u) : MGo Try.prog rd Stop (m + 17) own (G (LS Try.f47 L H o l a7 a8 a9 a10 a11 a12 a13 a14 a15 a16 a17) (top :: cs)) u := by
 refine MGo.ctl (fun _ => stepG_seq) rfl rfl ?_
 refine MGo.ctl (fun _ => stepG_seq) rfl rfl ?_
 refine MGo.ctl (fun _ => stepG_region) rfl rfl ?_
 rw [show List.range (opsAt Try.f47 1).size = [0, 1, 2, 3] from by kernel_rfl]
 obtain ⟨_, _, _, hop⟩ := op18_1_0
 refine MGo.pureT (d := 7) (v := .int .i64 H) (T := #[.int .i64 L, .int .i64 H, holdsV o l, Z, Z, Z, .int .i64 0, .int .i64 H, a8, a9, a10, a11, a12, a13, a14, a15, a16, a17, Z]) hop rfl (by decide) rfl (fun u' => run_move rfl) (fun u' => evs_move) (by kernel_rfl) ?_
 clear hop
 obtain ⟨_, _, _, hop⟩ := op18_1_1
 refine MGo.pureT (d := 8) (v := .int .i64 L) (T := #[.int .i64 L, .int .i64 H, holdsV o l, Z, Z, Z, .int .i64 0, .int .i64 H, .int .i64 L, a9, a10, a11, a12, a13, a14, a15, a16, a17, Z]) hop rfl (by decide) rfl (fun u' => run_move rfl) (fun u' => evs_move) (by kernel_rfl) ?_
 clear hop
 obtain ⟨_, _, _, hop⟩ := op18_1_2
 refine MGo.pureT (d := 9) (v := .int .i64 (H - L)) (T := #[.int .i64 L, .int .i64 H, holdsV o l, Z, Z, Z, .int .i64 0, .int .i64 H, .int .i64 L, .int .i64 (H - L), a10, a11, a12, a13, a14, a15, a16, a17, Z]) hop rfl (by decide) rfl (fun u' => run_sub rfl rfl rfl r1) (fun u' => evs_bin2 rfl rfl (.inr (.inl rfl))) (by kernel_rfl) ?_
 clear hop
 obtain ⟨_, _, _, hop⟩ := op18_1_3
 refine MGo.pureT (d := 10) (v := .bool false) (T := #[.int .i64 L, .int .i64 H, holdsV o l, Z, Z, Z, .int .i64 0, .int .i64 H, .int .i64 L, .int .i64 (H - L), .bool false, a11, a12, a13, a14, a15, a16, a17, Z]) hop rfl (by decide) rfl (fun u' => run_gtr2 rfl rfl hb) (fun u' => evs_bin2 rfl rfl (.inr (.inr rfl))) (by kernel_rfl) ?_
 clear hop
 refine MGo.ctl (fun _ => stepG_region_end) rfl rfl ?_
 refine MGo.ctl (fun _ => stepG_cond (t := false) rfl) rfl rfl ?_
 refine MGo.ctl (fun _ => stepG_exit rfl) rfl rfl ?_
 refine MGo.ctl (fun _ => stepG_seq) rfl rfl ?_
 refine MGo.ctl (fun _ => stepG_region) rfl rfl ?_
 rw [show List.range (opsAt Try.f47 3).size = [0, 1] from by kernel_rfl]
 obtain ⟨_, _, _, hop⟩ := op18_3_0
 refine MGo.pureT (d := 18) (v := .int .i64 L) (T := #[.int .i64 L, .int .i64 H, holdsV o l, Z, Z, Z, .int .i64 0, .int .i64 H, .int .i64 L, .int .i64 (H - L), .bool false, a11, a12, a13, a14, a15, a16, a17, .int .i64 L]) hop rfl (by decide) rfl (fun u' => run_move rfl) (fun u' => evs_move) (by kernel_rfl) ?_
 clear hop
 obtain ⟨_, _, _, hop⟩ := op18_3_1
 refine MGo.pureT (d := 6) (v := .int .i64 L) (T := #[.int .i64 L, .int .i64 H, holdsV o l, Z, Z, Z, .int .i64 L, .int .i64 H, .int .i64 L, .int .i64 (H - L), .bool false, a11, a12, a13, a14, a15, a16, a17, .int .i64 L]) hop rfl (by decide) rfl (fun u' => run_assign rfl) (fun u' => evs_assign) (by kernel_rfl) ?_
 clear hop
 refine MGo.ctl (fun _ => stepG_region_end) rfl rfl ?_
 refine MGo.ctl (fun _ => stepG_ret') rfl rfl ?_
 exact MGo.leave rfl rfl Try.func47 (fun u' => by simp [results, Try.results47]) (fun u' => by simp [results, Try.results47]) h
end
end Go.Proofs.Ytpeoabopeihadaa.Sim
/- eir.last, run by goroutine 0 beside leavers: the greatest number at which it holds. -/
namespace Go.Proofs.Ytpeoabopeihadaa.Sim
open Go Go.Conc
section
variable [Glob] {P : Program}
theorem i64_of {n : Int} (h1 : -99000000000100 ≤ n) (h2 : n ≤ 99000000000100) : I64 n := ⟨by omega, by omega⟩
theorem last_loop (T : Told P) {S : Nat → Prop} {U : World} {o l : Nat} {cov : Int → Bool} {A B : Int} (hA : -990000000001 ≤ A) (hB : B ≤ 10000000000001) (hq : ∀ n, A < n → n < B → Asks P S U o l n (cov n))
  (mono : ∀ a b, A < a → a ≤ b → b < B → cov b = true → cov a = true) (hS : ∀ b, S b → b < U.heap.size) {top : Frame} {cs : List Frame} :
  ∀ (k : Nat) {L H : Int} {a7 a8 a9 a10 a11 a12 a13 a14 a15 a16 a17 : Value} {g0 : Goroutine} {gs : Array Goroutine} {u : World} {sl : Option (Nat × Nat)} {t : Trace}, (H - L).toNat ≤ k → A ≤ L → L < H → H ≤ B → (L = A ∨ cov L = true) → (H = B ∨ cov H = false) →
   Alone Try.prog g0 gs u t → Leads Try.prog g0 (G (LS Try.f47 L H o l a7 a8 a9 a10 a11 a12 a13 a14 a15 a16 a17) (top :: cs)) → (∀ b, S b → u.heap[b]? = U.heap[b]?) → U.heap.size ≤ u.heap.size →
   ∃ r N gs' u' sl' t' g0', runNT Try.prog N (crowd gs u sl) t = (.next (crowd gs' u' sl'), t') ∧ Alone Try.prog g0' gs' u' t' ∧ Leads Try.prog g0' (G (top.finish (.int .i64 r)) cs) ∧ Old u u' ∧ A ≤ r ∧ r < B ∧ (r = A ∨ cov r = true) ∧ (r + 1 = B ∨ cov (r + 1) = false) := by
 intro k
 induction k with
 | zero => intro L H a7 a8 a9 a10 a11 a12 a13 a14 a15 a16 a17 g0 gs u sl t hk h1 h2; omega
 | succ k ih =>
  intro L H a7 a8 a9 a10 a11 a12 a13 a14 a15 a16 a17 g0 gs u sl t hk h1 h2 h3 h4 h5 hF hlead hsame hsz
  have r1 : I64 (H - L) := i64_of (by omega) (by omega)
  by_cases hb : 1 < H - L
  ·have e3 : (H - L + 1).tdiv 3 = (H - L + 1) / 3 := Int.tdiv_eq_ediv_of_nonneg (by omega)
   obtain ⟨st, hst⟩ : ∃ st, (H - L + 1).tdiv 3 = st := ⟨_, rfl⟩
   rw [e3] at hst
   have b1 : 1 ≤ st := by omega
   have b2 : L + st ≤ H - st := by omega
   have hlf : A < L + st ∧ L + st < B := ⟨by omega, by omega⟩
   have hrt : A < H - st ∧ H - st < B := ⟨by omega, by omega⟩
   obtain ⟨N, gs1, u1, sl1, t1, g1, e1, F1, lead1, old1⟩ := nar_run T (e3.trans hst) rfl rfl r1 (i64_of (by omega) (by omega)) (i64_of (by omega) (by omega)) (i64_of (by omega) (by omega)) (i64_of (by omega) (by omega)) (hq _ hlf.1 hlf.2) (hq _ hrt.1 hrt.2) hS (sl := sl) hF
    (Leads.trans hlead ⟨_, fun _ _ _ _ _ h => last_on r1 (by simpa using hb) h⟩) hsame hsz
   have hs1 : ∀ b, S b → u1.heap[b]? = U.heap[b]? := fun b hb => (old1.same b (Nat.lt_of_lt_of_le (hS b hb) hsz)).trans (hsame b hb)
   have hz1 : U.heap.size ≤ u1.heap.size := Nat.le_trans hsz old1.size
   have lead2 := Leads.trans lead1 ⟨_, fun _ _ _ _ _ h => last_back h⟩
   have go : ∀ L1 H1, lo (cov (H - st)) (lo (cov (L + st)) L (L + st)) (H - st) = L1 → hi (cov (H - st)) (hi (cov (L + st)) H (L + st)) (H - st) = H1 → A ≤ L1 ∧ L1 < H1 ∧ H1 ≤ B ∧ H1 - L1 < H - L ∧ (L1 = A ∨ cov L1 = true) ∧ (H1 = B ∨ cov H1 = false) := by
    intro L1 H1 e1 e2
    cases y1 : cov (L + st) with
    | true =>
     cases y2 : cov (H - st) with
     | true =>
      simp only [y1, y2, lo, hi, if_true] at e1 e2
      have : L1 = H - st := by omega
      subst this
      subst e2
      exact ⟨by omega, by omega, by omega, by omega, .inr y2, h5⟩
     | false =>
      simp only [y1, y2, lo, hi, if_true, if_false, Bool.false_eq_true] at e1 e2
      have i1 : L1 = L + st := by omega
      have i2 : H1 = H - st := by omega
      subst i1
      subst i2
      have : L + st ≠ H - st := fun e => by rw [e, y2] at y1; cases y1
      exact ⟨by omega, by omega, by omega, by omega, .inr y1, .inr y2⟩
    | false =>
     cases y2 : cov (H - st) with
     | true =>
      have := mono (L + st) (H - st) hlf.1 b2 hrt.2 y2
      rw [y1] at this
      cases this
     | false =>
      simp only [y1, y2, lo, hi, if_true, if_false, Bool.false_eq_true] at e1 e2
      have i2 : H1 = L + st := by omega
      subst i2
      subst e1
      exact ⟨by omega, by omega, by omega, by omega, h4, .inr y1⟩
   obtain ⟨g1', g2, g3, g4, g5, g6⟩ := go _ _ rfl rfl
   obtain ⟨r, N2, gs2, u2, sl2, t2, g2', f1, f2, f3, f4, f5⟩ := ih (sl := sl1) (by omega) g1' g2 g3 g5 g6 F1 lead2 hs1 hz1
   refine ⟨r, N + N2, gs2, u2, sl2, t2, g2', ?_, f2, f3, old1.trans f4, f5⟩
   rw [runNT_add, e1]
   exact f1
  ·have e : H = L + 1 := by omega
   refine ⟨L, 0, gs, u, sl, t, g0, rfl, hF, Leads.trans hlead ⟨_, fun _ _ _ _ _ h => last_out r1 (by simpa using hb) h⟩, Old.refl u, h1, by omega, h4, ?_⟩
   rw [← e]
   exact h5
theorem last_run (T : Told P) {S : Nat → Prop} {U : World} {o l : Nat} {cov : Int → Bool} {A B : Int} (hA : -990000000001 ≤ A) (hB : B ≤ 10000000000001) (hAB : A < B) (hq : ∀ n, A < n → n < B → Asks P S U o l n (cov n))
  (mono : ∀ a b, A < a → a ≤ b → b < B → cov b = true → cov a = true) (hS : ∀ b, S b → b < U.heap.size) {top : Frame} {cs : List Frame} {g0 : Goroutine} {gs : Array Goroutine} {u : World} {sl : Option (Nat × Nat)} {t : Trace}
  (hF : Alone Try.prog g0 gs u t) (hlead : Leads Try.prog g0 (G (Frame.enter Try.prog 47 #[.int .i64 A, .int .i64 B, holdsV o l] .normal) (top :: cs))) (hsame : ∀ b, S b → u.heap[b]? = U.heap[b]?) (hsz : U.heap.size ≤ u.heap.size) :
  ∃ r N gs' u' sl' t' g0', runNT Try.prog N (crowd gs u sl) t = (.next (crowd gs' u' sl'), t') ∧ Alone Try.prog g0' gs' u' t' ∧ Leads Try.prog g0' (G (top.finish (.int .i64 r)) cs) ∧ Old u u' ∧ A ≤ r ∧ r < B ∧ (r = A ∨ cov r = true) ∧ (r + 1 = B ∨ cov (r + 1) = false) :=
 last_loop T hA hB hq mono hS _ (Nat.le_refl _) (Int.le_refl _) hAB (Int.le_refl _) (.inl rfl) (.inl rfl) hF (Leads.trans hlead ⟨_, fun _ _ _ _ _ h => last_in h⟩) hsame hsz
end
end Go.Proofs.Ytpeoabopeihadaa.Sim
/- Goroutine 0 comes to where its walk stops. No program of the project in this text. -/
namespace Go.Proofs.Ytpeoabopeihadaa.Sim
open Go Go.Conc
open Go.ConcN (sumTo upd sumTo_upd upd_ne upd_same)
section
variable {M : Type} {Q : Program} {lt : M → M → Prop} {wk : Bool → Wkr M} {chs : List Nat} {rd : Nat → Nat → Prop}
theorem to_here (hwf : WellFounded lt) {Stop : (Nat → Prop) → Goroutine → World → Prop} : ∀ (μ : Ms M) {f : Bool → Bool} {o : Bool → Option M} {own : Nat → Nat → Prop} {g0 : Goroutine} {gs : Array Goroutine} {u : World} {sl : Option (Nat × Nat)} {t : Trace} {q : Nat → Nat} {n : Nat},
  (∀ s, f s = true → Works Q lt (rd (wk s).i) (wk s)) → CI Q wk f o chs own rd g0 gs u t q → g0.status = .running → MGo Q (rd 0) Stop n (own 0) g0 u → μ = (o false, (o true, (sumTo gs.size q, n))) →
  ∃ N gs' u' sl' t' o' own' g0' q', runNT Q N (crowd gs u sl) t = (.next (crowd gs' u' sl'), t') ∧ gs'.size = gs.size ∧ CI Q wk f o' chs own' rd g0' gs' u' t' q' ∧ g0'.status = .running ∧ ∀ v, Keeps (fun b => own' 0 b ∨ rd 0 b) u' v → Stop (own' 0) g0' v := by
 intro μ
 induction μ using (msR hwf).wf.induction with
 | h μ ih =>
 intro f o own g0 gs u sl t q n hW h hrun hM hμ
 have hcases : (∀ v, Keeps (fun b => own 0 b ∨ rd 0 b) u v → Stop (own 0) g0 v) ∨ ∃ n', n = n' + 1 ∧ ∀ v, Keeps (fun b => own 0 b ∨ rd 0 b) u v → ∃ g' u'', ∃ es : Array Event, ∃ own', stepG Q true g0 v = .go g' u'' es ∧ g'.status = .running ∧ Gd (own 0) (rd 0) own' v u'' es ∧ MGo Q (rd 0) Stop n' own' g' u'' := by
  cases n with
  | zero => exact .inl hM
  | succ n' => exact hM.imp id fun x => ⟨n', rfl, x.2⟩
 rcases hcases with hs | ⟨n', rfl, hs⟩
 ·exact ⟨0, gs, u, sl, t, o, own, g0, q, rfl, rfl, h, hrun, hs⟩
 obtain ⟨i, g, d, sl', hi, hg, hst⟩ := crowd_pick (P := Q) (w := u) (sl := sl) (h.awake hW) ⟨0, g0, h.zero, hrun⟩
 have hd := h.at hW d
 have hMd := hM.keep (Keeps.at _ u d)
 rcases Nat.eq_zero_or_pos i with rfl | hpos
 ·have e : g = g0 := by rw [h.zero] at hi; exact (Option.some.inj hi).symm
  subst e
  obtain ⟨g', u'', es, own', hgo, hr', gd, hM'⟩ := hs _ (Keeps.at _ u d)
  obtain ⟨gs', ops, h1, h2, h3⟩ := hd.zeroGo hW hr' hgo gd sl'
  have hM2 : MGo Q (rd 0) Stop n' (upd own 0 own' 0) g' u'' := by rw [upd_same]; exact hM'
  obtain ⟨N, gs2, u2, sl2, t2, o2, own2, g02, q2, r1, r2, r3⟩ := ih _ (by rw [hμ]; exact ms_last hwf _ (Nat.lt_succ_self n')) (sl := sl') hW h3 hr' hM2 (by rw [h1])
  exact ⟨N + 1, gs2, u2, sl2, t2, o2, own2, g02, q2, by simp only [runNT, hst, h2]; exact r1, r2.trans h1, r3⟩
 ·rcases hd.others hW hi hg hpos sl' with ⟨o', own', gs', u', ops, q', h1, h2, h3, h4, h5, h6⟩ | ⟨s, g2, z, k, _, _, _, _, _, hno⟩
  ·have hM2 : MGo Q (rd 0) Stop (n' + 1) (own' 0) g0 u' := by rw [h4]; exact hMd.keep h5
   have hμ2 : (msR hwf).rel (o' false, (o' true, (sumTo gs'.size q', n' + 1))) μ := by
    rw [hμ, h1]
    rcases h6 with ⟨rfl, h6⟩ | ⟨s, _, e, hl, _⟩
    ·exact ms_sum hwf h6 _ _
    ·exact ms_slot hwf e hl _ _ _ _
   obtain ⟨N, gs2, u2, sl2, t2, o2, own2, g02, q2, r1, r2, r3⟩ := ih _ hμ2 (sl := sl') hW h3 hrun hM2 rfl
   exact ⟨N + 1, gs2, u2, sl2, t2, o2, own2, g02, q2, by simp only [runNT, hst, h2]; exact r1, r2.trans h1, r3⟩
  ·exact absurd hrun hno
end
section
variable {Q : Program}
theorem no_wf : WellFounded (fun _ _ : Unit => False) := ⟨fun a => Acc.intro a fun _ h => h.elim⟩
theorem alone_to {Stop : (Nat → Prop) → Goroutine → World → Prop} {g0 : Goroutine} {gs : Array Goroutine} {u : World} {sl : Option (Nat × Nat)} {t : Trace} {n : Nat} (hF : Alone Q g0 gs u t) (hM : MGo Q (fun b => b < u.heap.size) Stop n (fun _ => False) g0 u) :
  ∃ N gs' u' sl' t' g0' ow, runNT Q N (crowd gs u sl) t = (.next (crowd gs' u' sl'), t') ∧ Alone Q g0' gs' u' t' ∧ Old u u' ∧ Neat ow (fun b => b < u.heap.size) u' ∧ Stop ow g0' u' := by
 obtain ⟨q, hL⟩ := hF.leave
 have c0 : CI (M := Unit) Q (fun _ => ⟨0, 0, undef, fun _ _ _ _ => False⟩) (fun _ => false) (fun _ => none) [] (fun _ _ => False) (fun _ b => b < u.heap.size) g0 gs u t q := CI.ofFrame hF.zero hF.run hL hF.past (fun b hb => hb.elim False.elim id)
 have n0 : Neat (fun _ => False) (fun b => b < u.heap.size) u := ⟨fun b hb => hb.elim False.elim id, fun b hb => hb.elim⟩
 obtain ⟨N, gs1, u1, sl1, t1, o1, own1, g1, q1, r1, r2, r3, r4, r5⟩ := to_here no_wf _ (sl := sl) (fun s hs => by cases hs) c0 hF.run (hM.keeps n0 (Keeps.refl _ _)) rfl
 obtain ⟨a1, a2, a3⟩ := r5 u1 (Keeps.refl _ _)
 obtain ⟨z, lv, ps⟩ := r3.toFrame (fun _ => rfl)
 exact ⟨N, gs1, u1, sl1, t1, g1, own1 0, r1, ⟨z, r4, ⟨q1, lv⟩, ps⟩, a3, a2, a1⟩
end
end Go.Proofs.Ytpeoabopeihadaa.Sim
/- A call whose lone run is known, made by goroutine 0 beside leavers. No program of the project in this text. -/
namespace Go.Proofs.Ytpeoabopeihadaa.Sim
open Go Go.Conc
open Go.ConcN (sumTo upd sumTo_upd upd_ne upd_same)
section
variable {Q : Program}
theorem alone_own {Stop : (Nat → Prop) → Goroutine → World → Prop} {g0 : Goroutine} {gs : Array Goroutine} {u : World} {sl : Option (Nat × Nat)} {t : Trace} {n : Nat} (hF : Alone Q g0 gs u t) (hM : MGo Q (fun _ => False) Stop n (fun b => b < u.heap.size) g0 u) :
  ∃ N gs' u' sl' t' g0' ow, runNT Q N (crowd gs u sl) t = (.next (crowd gs' u' sl'), t') ∧ Alone Q g0' gs' u' t' ∧ Stop ow g0' u' := by
 obtain ⟨q, hL⟩ := hF.leave
 have c0 : CI (M := Unit) Q (fun _ => ⟨0, 0, undef, fun _ _ _ _ => False⟩) (fun _ => false) (fun _ => none) [] (fun _ b => b < u.heap.size) (fun _ _ => False) g0 gs u t q := CI.ofFrame hF.zero hF.run hL hF.past (fun b hb => hb.elim id False.elim)
 obtain ⟨N, gs1, u1, sl1, t1, o1, own1, g1, q1, r1, r2, r3, r4, r5⟩ := to_here no_wf _ (sl := sl) (fun s hs => by cases hs) c0 hF.run hM rfl
 obtain ⟨z, lv, ps⟩ := r3.toFrame (fun _ => rfl)
 exact ⟨N, gs1, u1, sl1, t1, g1, own1 0, r1, ⟨z, r4, ⟨q1, lv⟩, ps⟩, r5 u1 (Keeps.refl _ _)⟩
end
section
variable [Glob] {P : Program}
variable {Post : Value → Array Obj → Prop} {rd own : Nat → Prop} {p : Ren} {s : St} {b : Frame} {bs : List Frame} {u : World}
theorem Mid.back (hc : Codes P) (hcut : ∀ f, Glob.ok f = true → Glob.cut f = false) (h : Mid P Post rd own p s b bs u) (ov : s.over) (main : Bool) (top : Frame) (cs : List Frame) :
  ∃ own' v v' q u', ∃ es : Array Event, bs = [] ∧ stepG (co P) main (gor b (top :: cs)) u = .go (gor (top.finish v') cs) u' es ∧ Post v s.w.heap ∧ V q v v' ∧ Gd own rd own' u u' es ∧ (∀ d c, q d = some c → own' c ∨ rd c) ∧ ∃ w1, w1.heap = s.w.heap ∧ WR q w1 u' ∧ Kp p q s.w s.w u u' := by
 obtain ⟨n, fr, v, w', e, hl, hp⟩ := h.ends u.tape u.drawn
 obtain ⟨ov1, ov2⟩ := ov
 have hb : bs = [] := by
  have := h.rel.sk
  rw [ov2] at this
  cases bs with
  | nil => rfl
  | cons x xs => exact this.elim
 have n0 : n = 0 := by
  rw [ov2, List.nil_append] at e
  exact end_any hc h.rel.fr ov1 (as2 := []) e
 subst n0
 rw [ov2, List.nil_append] at e
 simp only [runN, Stepped.next.injEq, lone, Machine.mk.injEq] at e
 have e2 := e.2.1
 simp at e2
 have e1 := e.1
 subst e2
 subst e1
 obtain ⟨f, xs, ys, k, m, d1, d2, d3, d4, d5, d6⟩ := h.rel.fr
 have hm : m = .returning := by
  have := ov1
  rw [d1] at this
  exact this
 subst hm
 obtain ⟨fn, c, h1, _, _, _, fn2, h2, _, _, h3, _⟩ := hc.2 f d3
 have h3 := h3 (hcut f d3)
 rw [d1] at hl
 obtain ⟨_, _, _, fn', h4, h5⟩ := hl
 have h4 : P.funcs[f]? = some fn' := h4
 rw [h1] at h4
 cases h4
 have h5 : (results fn xs).run P (wt s.w u.tape u.drawn) = .ok v (wt s.w u.tape u.drawn) := h5
 have hx := sr_results (P := P) fn d4
 cases hr : (results fn xs).runT P (wt s.w u.tape u.drawn) #[] with
 | mk r es =>
  have e0 : r = .ok v (wt s.w u.tape u.drawn) := by
   have := Sem.runT_fst P (results fn xs) (wt s.w u.tape u.drawn) #[]
   rw [hr] at this
   exact this.trans h5
  subst e0
  have hw0 : WR p (wt s.w u.tape u.drawn) u := ⟨h.rel.wr.blk, h.rel.wr.inj, h.rel.wr.big, h.rel.wr.dead⟩
  obtain ⟨q, v', u1, ds, ds', ea, f2, f3, f4, f5⟩ := sr_runs _ (fs := #[]) hx hw0 hr (fun i _ => rfl)
  have f6 := ea (co P) (.inr rfl)
  have f7 := seen_co hc d3 f ((#[] : Array Event) ++ ds'.toArray)
  have f5 : EL q (Fp p (wt s.w u.tape u.drawn)) es.toList ((#[] : Array Event) ++ ds'.toArray).toList := by
   rw [f2]
   simpa using f5
  have f8 := seen_rel (P := P) f f5
  obtain ⟨k1, k2⟩ := gd_of (w := wt s.w u.tape u.drawn) h.mine f4 f8
  refine ⟨_, v, v', q, u1, _, hb, ?_, hp, f3, k1, fun d c e => (k2 d c e).imp id (·.1), wt s.w u.tape u.drawn, rfl, f4.wr, ⟨f4.le, f4.size, Nat.le_refl _, f4.fresh, f4.other, f4.os, f4.tape, f4.out, f4.still⟩⟩
  rw [h3] at h2
  rw [d2, ← f7]
  simp only [stepG, gor, mkF, unwind, h2, f6, doReturn, GStep.after, Array.append_empty]
theorem enter_co (hc : Codes P) {f : FuncId} (o : Glob.ok f = true) (nc : Glob.cut f = false) (ys : Array Value) : Frame.enter (co P) f ys .normal = Frame.enter P f ys .normal := by
 obtain ⟨fn, _, h1, _, _, _, fn2, h2, _, _, h3, _⟩ := hc.2 f o
 rw [h3 nc] at h2
 simp only [Frame.enter, h1, h2]
theorem call_lone (hz : Zero P) (hG : Glob.size = P.globals.size) (hc : Codes P) (hcut : ∀ f, Glob.ok f = true → Glob.cut f = false) {s : St} {b : Frame} (hE : AllEnd P Post s.a s.as s.w) (hR : Rel P p s b [] u) {gs : Array Goroutine} {sl : Option (Nat × Nat)} {t : Trace} {top : Frame} {cs : List Frame} (hF : Alone (co P) (gor b (top :: cs)) gs u t) :
  ∃ N gs' u' sl' t' v v' q w1, runNT (co P) N (crowd gs u sl) t = (.next (crowd gs' u' sl'), t') ∧ Alone (co P) (gor (top.finish v') cs) gs' u' t' ∧ Post v w1.heap ∧ V q v v' ∧ WR q w1 u' ∧ Kp p q s.w w1 u u' := by
 obtain ⟨q, hL⟩ := hF.leave
 have hok : ∀ {p : Ren} {a b : Frame}, FR P p a b → Glob.cut b.fn = false := fun h => by
  obtain ⟨f, xs, ys, k, m, e1, e2, e3, _⟩ := h
  rw [e2]
  exact hcut _ e3
 have acc : Acc (Ahead P) s := ends_acc hz hG hc (Post := Post) ⟨hE, p, b, [], u, hR.gp, hR.wr, hR.fr, hR.sk⟩
 obtain ⟨N, s', p', gs', b', b2, bs', u', sl', t', q', e1, got, hend⟩ := plain_run hz hG hc (cs := top :: cs) (sl := sl) acc (sumTo gs.size q) hE hR (hok hR.fr) (fun x hx => by cases hx) hF.zero hL (Nat.le_refl _) hF.past
 have hend : s'.over ∧ b2 = b' := by
  rcases hend with h | ⟨g, ys, ⟨c1, _⟩, c2, _⟩
  ·exact h
  ·have := hok got.rel.fr
   rw [c2, enter_fn, c1] at this
   cases this
 obtain ⟨ov, rfl⟩ := hend
 have hM : Mid P Post (fun _ => False) (fun c => c < u'.heap.size) p' s' b2 bs' u' := ⟨got.ends, got.rel, fun d c e => .inl (got.rel.wr.lt e).2⟩
 have hbs : bs' = [] := by
  obtain ⟨_, _, _, _, _, _, h, _⟩ := hM.back hc hcut ov true top cs
  exact h
 subst hbs
 have hF1 : Alone (co P) (gor b2 (top :: cs)) gs' u' t' := ⟨got.zero, rfl, ⟨q', got.leave⟩, got.past⟩
 have walk : MGo (co P) (fun _ => False) (fun ow g v => ∃ x x' r w1, g = gor (top.finish x') cs ∧ Post x w1.heap ∧ V r x x' ∧ WR r w1 v ∧ Kp p' r s'.w w1 u' v) 1 (fun c => c < u'.heap.size) (gor b2 (top :: cs)) u' := by
  refine MGo.next rfl fun v k => ?_
  obtain ⟨own', x, x', r, v', es, _, a2, a3, a4, a5, a6, w1, a7, a8, a9⟩ := (hM.keep k).back hc hcut ov true top cs
  refine ⟨_, v', es, own', a2, rfl, a5, fun v2 k2 => ⟨x, x', r, w1, rfl, by rw [a7]; exact a3, a4, ⟨fun d c e => ?_, a8.inj, ⟨a8.big.1, Nat.le_trans a8.big.2 k2.size⟩, a8.dead⟩, ?_⟩⟩
  ·obtain ⟨o, o', h1, h2, h3⟩ := a8.blk d c e
   exact ⟨o, o', h1, by rw [k2.same c (a6 d c e)]; exact h2, h3⟩
  ·have sz := k.size
   have sz2 := a5.size
   have sz3 := k2.size
   refine ⟨a9.le, by omega, by rw [a7]; exact Nat.le_refl _, fun d c e => ?_, fun c hcl hno => ?_, k2.os.trans (a9.os.trans k.os), k2.tape.trans (a9.tape.trans k.tape), k2.out.trans (a9.out.trans k.out), fun d c e f => ⟨by rw [k2.same c (.inl (a5.le c (hM.rel.wr.lt e).2)), (a9.still d c e f).1, k.same c (.inl (hM.rel.wr.lt e).2)], by rw [a7]⟩⟩
   ·rcases a9.fresh d c e with h | ⟨h, h'⟩
    ·exact .inl h
    ·exact .inr ⟨h, by omega⟩
   ·rw [k2.same c (.inl (a5.le c hcl)), a9.other c (by omega) hno, k.same c (.inl hcl)]
 obtain ⟨N2, gs2, u2, sl2, t2, g2, ow, f1, f2, x, x', r, w1, rfl, f4, f5, f6, f7⟩ := alone_own (sl := sl') hF1 walk
 refine ⟨N + N2, gs2, u2, sl2, t2, x, x', r, w1, ?_, f2, f4, f5, f6, got.kp.trans f7⟩
 rw [runNT_add, e1]
 exact f1
end
end Go.Proofs.Ytpeoabopeihadaa.Sim
/- eir.Solve, walked by goroutine 0. -/
namespace Go.Proofs.Ytpeoabopeihadaa.Sim
open Go Go.Conc
abbrev V3 (f : Func) : Code := .seq (Rg f 3) (.seq (.seq (Rg f 4) (.cond (.tmp 18) (.seq (Rg f 5) .ret) .skip)) (.seq (Rg f 6) .ret))
abbrev V4 (f : Func) : Code := .seq (.seq (Rg f 4) (.cond (.tmp 18) (.seq (Rg f 5) .ret) .skip)) (.seq (Rg f 6) .ret)
theorem body9 : Try.f15.body = some (.seq (Rg Try.f15 0) (.seq (.seq (Rg Try.f15 1) (.cond (.tmp 10) (.seq (Rg Try.f15 2) .ret) .skip)) (V3 Try.f15))) := rfl
theorem op9_0_0 : ∃ t ps af, (opsAt Try.f15 0)[0]? = some { dst := some 2, op := .box 2 (.tmp 0), type := t, pos := ps, after := af, guard := none } := ⟨_, _, _, rfl⟩
theorem op9_0_1 : ∃ t ps af, (opsAt Try.f15 0)[1]? = some { dst := some 3, op := .box 22 (.tmp 1), type := t, pos := ps, after := af, guard := none } := ⟨_, _, _, rfl⟩
theorem op9_0_2 : ∃ t ps af, (opsAt Try.f15 0)[2]? = some { dst := some 4, op := .assign (.const (.int .i64 0)), type := t, pos := ps, after := af, guard := none } := ⟨_, _, _, rfl⟩
theorem op9_0_3 : ∃ t ps af, (opsAt Try.f15 0)[3]? = some { dst := some 5, op := .assign (.const (.int .i64 0)), type := t, pos := ps, after := af, guard := none } := ⟨_, _, _, rfl⟩
theorem op9_1_0 : ∃ t ps af, (opsAt Try.f15 1)[0]? = some { dst := some 7, op := .load 2 (.tmp 2), type := t, pos := ps, after := af, guard := none } := ⟨_, _, _, rfl⟩
theorem op9_1_1 : ∃ t ps af, (opsAt Try.f15 1)[1]? = some { dst := some 8, op := .load 22 (.tmp 3), type := t, pos := ps, after := af, guard := none } := ⟨_, _, _, rfl⟩
theorem op9_1_2 : ∃ t ps af, (opsAt Try.f15 1)[2]? = some { dst := some 9, op := .call { callee := .value (.func 46), args := #[(.tmp 7), (.tmp 8)], argTypes := #[2, 22] }, type := t, pos := ps, after := af, guard := none } := ⟨_, _, _, rfl⟩
theorem op9_1_3 : ∃ t ps af, (opsAt Try.f15 1)[3]? = some { dst := some 10, op := .unOp .not 4 (.tmp 9), type := t, pos := ps, after := af, guard := none } := ⟨_, _, _, rfl⟩
theorem op9_2_0 : ∃ t ps af, (opsAt Try.f15 2)[0]? = some { dst := some 4, op := .assign (.const (.int .i64 0)), type := t, pos := ps, after := af, guard := none } := ⟨_, _, _, rfl⟩
theorem op9_2_1 : ∃ t ps af, (opsAt Try.f15 2)[1]? = some { dst := some 5, op := .assign (.const (.int .i64 2)), type := t, pos := ps, after := af, guard := none } := ⟨_, _, _, rfl⟩
theorem op9_3_0 : ∃ t ps af, (opsAt Try.f15 3)[0]? = some { dst := some 11, op := .makeFunc (.func 48) #[] #[(.tmp 2), (.tmp 3)], type := t, pos := ps, after := af, guard := none } := ⟨_, _, _, rfl⟩
theorem op9_3_1 : ∃ t ps af, (opsAt Try.f15 3)[1]? = some { dst := some 12, op := .call { callee := .value (.func 47), args := #[.const (.int .i64 (-990000000001)), .const (.int .i64 10000000000001), (.tmp 11)], argTypes := #[2, 2, 92] }, type := t, pos := ps, after := af, guard := none } := ⟨_, _, _, rfl⟩
theorem op9_3_2 : ∃ t ps af, (opsAt Try.f15 3)[2]? = some { dst := some 6, op := .assign (.tmp 12), type := t, pos := ps, after := af, guard := none } := ⟨_, _, _, rfl⟩
theorem op9_4_0 : ∃ t ps af, (opsAt Try.f15 4)[0]? = some { dst := some 13, op := .move (.tmp 6), type := t, pos := ps, after := af, guard := none } := ⟨_, _, _, rfl⟩
theorem op9_4_1 : ∃ t ps af, (opsAt Try.f15 4)[1]? = some { dst := some 14, op := .binOp .lss 2 (.tmp 13) (.const (.int .i64 (-990000000000))) 2, type := t, pos := ps, after := af, guard := none } := ⟨_, _, _, rfl⟩
theorem op9_4_2 : ∃ t ps af, (opsAt Try.f15 4)[2]? = some { dst := some 15, op := .move (.tmp 14), type := t, pos := ps, after := af, guard := none } := ⟨_, _, _, rfl⟩
theorem op9_4_3 : ∃ t ps af, (opsAt Try.f15 4)[3]? = some { dst := some 16, op := .move (.tmp 6), type := t, pos := ps, after := af, guard := some (2, false) } := ⟨_, _, _, rfl⟩
theorem op9_4_4 : ∃ t ps af, (opsAt Try.f15 4)[4]? = some { dst := some 17, op := .binOp .eql 2 (.tmp 16) (.const (.int .i64 10000000000000)) 2, type := t, pos := ps, after := af, guard := some (2, false) } := ⟨_, _, _, rfl⟩
theorem op9_4_5 : ∃ t ps af, (opsAt Try.f15 4)[5]? = some { dst := some 18, op := .pick (.tmp 15) (.const (.bool true)) (.tmp 17), type := t, pos := ps, after := af, guard := none } := ⟨_, _, _, rfl⟩
theorem op9_5_0 : ∃ t ps af, (opsAt Try.f15 5)[0]? = some { dst := some 4, op := .assign (.const (.int .i64 0)), type := t, pos := ps, after := af, guard := none } := ⟨_, _, _, rfl⟩
theorem op9_5_1 : ∃ t ps af, (opsAt Try.f15 5)[1]? = some { dst := some 5, op := .assign (.const (.int .i64 13)), type := t, pos := ps, after := af, guard := none } := ⟨_, _, _, rfl⟩
theorem op9_6_0 : ∃ t ps af, (opsAt Try.f15 6)[0]? = some { dst := some 19, op := .move (.tmp 6), type := t, pos := ps, after := af, guard := none } := ⟨_, _, _, rfl⟩
theorem op9_6_1 : ∃ t ps af, (opsAt Try.f15 6)[1]? = some { dst := some 4, op := .assign (.tmp 19), type := t, pos := ps, after := af, guard := none } := ⟨_, _, _, rfl⟩
theorem op9_6_2 : ∃ t ps af, (opsAt Try.f15 6)[2]? = some { dst := some 5, op := .assign (.const (.int .i64 0)), type := t, pos := ps, after := af, guard := none } := ⟨_, _, _, rfl⟩
theorem tm9 (a b : Value) : #[a, b] ++ Array.replicate (Try.f15.ntmps - (#[a, b] : Array Value).size) undef = #[a, b, undef, undef, undef, undef, undef, undef, undef, undef, undef, undef, undef, undef, undef, undef, undef, undef, undef, undef] := by kernel_rfl
section
variable {ev : Operand → Value} {d : Option Nat} {t : TypeId} {ps : String} {af : Array Edge} {gd : Option (Nat × Bool)} {x y z : Operand} {u : World} {a b : Int}
theorem run_lss2 {B : Bool} (hx : ev x = .int .i64 a) (hy : ev y = .int .i64 b) (hc : decide (a < b) = B) : (execOp ev { dst := d, op := .binOp .lss 2 x y 2, type := t, pos := ps, after := af, guard := gd }).run Try.prog u = .ok (.value (.bool B)) u ∧ (execOp ev { dst := d, op := .binOp .lss 2 x y 2, type := t, pos := ps, after := af, guard := gd }).events Try.prog u #[] = #[] := by
 subst hc
 constructor <;> simp [execOp, go_sem, hx, hy]
theorem run_eql2 {B : Bool} (hx : ev x = .int .i64 a) (hy : ev y = .int .i64 b) (hc : decide (a = b) = B) : (execOp ev { dst := d, op := .binOp .eql 2 x y 2, type := t, pos := ps, after := af, guard := gd }).run Try.prog u = .ok (.value (.bool B)) u ∧ (execOp ev { dst := d, op := .binOp .eql 2 x y 2, type := t, pos := ps, after := af, guard := gd }).events Try.prog u #[] = #[] := by
 subst hc
 constructor
 ·simp [execOp, go_sem, hx, hy]
  rfl
 ·simp [execOp, go_sem, hx, hy]
theorem run_pick {B : Bool} {v : Value} (hx : ev x = .bool B) (hv : (if B then ev y else ev z) = v) : (execOp ev { dst := d, op := .pick x y z, type := t, pos := ps, after := af, guard := gd }).run Try.prog u = .ok (.value v) u ∧ (execOp ev { dst := d, op := .pick x y z, type := t, pos := ps, after := af, guard := gd }).events Try.prog u #[] = #[] := by
 subst hv
 cases B <;> constructor <;> simp [execOp, go_sem, hx]
theorem run_not {B C : Bool} (hx : ev x = .bool B) (hC : (!B) = C) : (execOp ev { dst := d, op := .unOp .not 4 x, type := t, pos := ps, after := af, guard := gd }).run Try.prog u = .ok (.value (.bool C)) u ∧ (execOp ev { dst := d, op := .unOp .not 4 x, type := t, pos := ps, after := af, guard := gd }).events Try.prog u #[] = #[] := by
 subst hC
 constructor <;> simp [execOp, go_sem, hx]
theorem run_mf19 {p q : Nat} (hx : ev x = pt p) (hy : ev y = pt q) : (execOp ev { dst := d, op := .makeFunc (.func 48) #[] #[x, y], type := t, pos := ps, after := af, guard := gd }).run Try.prog u = .ok (.value (holdsV p q)) u ∧ (execOp ev { dst := d, op := .makeFunc (.func 48) #[] #[x, y], type := t, pos := ps, after := af, guard := gd }).events Try.prog u #[] = #[] := by
 constructor <;> simp [execOp, go_sem, Instr.makeFunc, hx, hy]
theorem run_call18 {o l : Nat} (hf : ev (.func 47) = .func (.func 47) #[] #[]) (hx : ev x = .int .i64 a) (hy : ev y = .int .i64 b) (hz : ev z = holdsV o l) : (execOp ev { dst := d, op := .call { callee := .value (.func 47), args := #[x, y, z], argTypes := #[2, 2, 92] }, type := t, pos := ps, after := af, guard := gd }).run Try.prog u = .ok (.enter 47 #[.int .i64 a, .int .i64 b, holdsV o l]) u ∧ (execOp ev { dst := d, op := .call { callee := .value (.func 47), args := #[x, y, z], argTypes := #[2, 2, 92] }, type := t, pos := ps, after := af, guard := gd }).events Try.prog u #[] = #[] := by
 constructor <;> simp [execOp, go_sem, hx, hy, hz, hf, invoke, callFunc, Try.func47, Try.f47]
theorem run_call17 {ad : Option Addr} {n c : Nat} (hf : ev (.func 46) = .func (.func 46) #[] #[]) (hx : ev x = .int .i64 a) (hy : ev y = .slice ad n c) : (execOp ev { dst := d, op := .call { callee := .value (.func 46), args := #[x, y], argTypes := #[2, 22] }, type := t, pos := ps, after := af, guard := gd }).run Try.prog u = .ok (.enter 46 #[.int .i64 a, .slice ad n c]) u ∧ (execOp ev { dst := d, op := .call { callee := .value (.func 46), args := #[x, y], argTypes := #[2, 22] }, type := t, pos := ps, after := af, guard := gd }).events Try.prog u #[] = #[] := by
 constructor <;> simp [execOp, go_sem, hx, hy, hf, invoke, callFunc, Try.func46, Try.f46]
theorem run_box22 {ad : Option Addr} {n c : Nat} (h : ev x = .slice ad n c) : (execOp ev { dst := d, op := .box 22 x, type := t, pos := ps, after := af, guard := gd }).run Try.prog u = .ok (.value (pt u.heap.size)) (u.alloc (.cells #[.slice ad n c] 22)) := by simp [execOp, go_sem, h]
theorem evs_box22 {ad : Option Addr} {n c : Nat} (h : ev x = .slice ad n c) : ∀ e ∈ (execOp ev { dst := d, op := .box 22 x, type := t, pos := ps, after := af, guard := gd }).events Try.prog u #[], ∃ ad wr, e = ⟨.cell ad, wr, false⟩ ∧ ad.block = u.heap.size := by
 intro e he
 simp [execOp, go_sem, h] at he
theorem agg22 (u : World) : (_root_.Go.isAgg 22).run Try.prog u = .ok false u := by simp [_root_.Go.isAgg, go_sem, run_underlying Try.underlying22]
end
theorem MGo.skipT {rd own : Nat → Prop} {u : World} {cs : List Frame} {Stop : (Nat → Prop) → Goroutine → World → Prop} {n : Nat} {b : Frame} {S T : Array Value} {k : List Item} {ops : Array Oper} {i : Nat} {rest : List Nat} {o : Oper} {d : Nat} (ho : ops[i]? = some o) (hw : Region.wanted o (yielded ops S) = false) (hd : o.dst = some d) (hT : S.setIfInBounds d undef = T)
  (h : MGo Try.prog rd Stop n own (G (b.at ⟨T, []⟩ (.inRegion ops rest :: k)) cs) u) : MGo Try.prog rd Stop (n + 1) own (G (b.at ⟨S, []⟩ (.inRegion ops (i :: rest) :: k)) cs) u := by
 refine MGo.ctl (fun _ => stepG_unwanted (a := ⟨S, []⟩) ho hw) rfl rfl ?_
 have e : (Go.Act.put ⟨S, []⟩ o.dst undef) = ⟨T, []⟩ := by rw [hd, ← hT]; rfl
 rw [e]
 exact h
abbrev F1 (f : Func) (out : Int) (ad : Option Addr) (ln cp p q : Nat) : Frame := ((base 15).at ⟨#[.int .i64 out, .slice ad ln cp, pt p, pt q, .int .i64 0, .int .i64 0, undef, .int .i64 out, .slice ad ln cp, undef, undef, undef, undef, undef, undef, undef, undef, undef, undef, undef], []⟩ (.inRegion (opsAt f 1) [2, 3] :: .code (.cond (.tmp 10) (.seq (Rg f 2) .ret) .skip) :: [.code (V3 f)]))
abbrev F2 (f : Func) (out : Int) (ad : Option Addr) (ln cp p q : Nat) : Frame := ((base 15).at ⟨#[.int .i64 out, .slice ad ln cp, pt p, pt q, .int .i64 0, .int .i64 0, undef, .int .i64 out, .slice ad ln cp, .bool true, .bool false, holdsV p q, undef, undef, undef, undef, undef, undef, undef, undef], []⟩ (.inRegion (opsAt f 3) [1, 2] :: [.code (V4 f)]))
section
variable {rd own : Nat → Prop} {u : World} {cs : List Frame} {Stop : (Nat → Prop) → Goroutine → World → Prop} {m : Nat} {top : Frame} {out r : Int} {ad : Option Addr} {ln cp p q : Nat}
set_option maxRecDepth 4000 in
theorem slv_no (h : MGo Try.prog rd Stop m own (G (top.finish (two 0 2)) cs) u) : MGo Try.prog rd Stop (m + 10) own (G (Frame.finish (F1 Try.f15 out ad ln cp p q) (.bool false)) (top :: cs)) u := by
 obtain ⟨_, _, _, hop⟩ := op9_1_2
 refine MGo.endT (T := #[.int .i64 out, .slice ad ln cp, pt p, pt q, .int .i64 0, .int .i64 0, Z, .int .i64 out, .slice ad ln cp, .bool false, Z, Z, Z, Z, Z, Z, Z, Z, Z, Z]) hop rfl (by kernel_rfl) ?_
 clear hop
 obtain ⟨_, _, _, hop⟩ := op9_1_3
 refine MGo.pureT (d := 10) (v := .bool true) (T := #[.int .i64 out, .slice ad ln cp, pt p, pt q, .int .i64 0, .int .i64 0, Z, .int .i64 out, .slice ad ln cp, .bool false, .bool true, Z, Z, Z, Z, Z, Z, Z, Z, Z]) hop rfl (by decide) rfl (fun u' => (run_not (B := false) rfl rfl).1) (fun u' => (run_not (B := false) rfl rfl).2) (by kernel_rfl) ?_
 clear hop
 refine MGo.ctl (fun _ => stepG_region_end) rfl rfl ?_
 refine MGo.ctl (fun _ => stepG_cond (t := true) rfl) rfl rfl ?_
 refine MGo.ctl (fun _ => stepG_seq) rfl rfl ?_
 refine MGo.ctl (fun _ => stepG_region) rfl rfl ?_
 rw [show List.range (opsAt Try.f15 2).size = [0, 1] from by kernel_rfl]
 obtain ⟨_, _, _, hop⟩ := op9_2_0
 refine MGo.pureT (d := 4) (v := .int .i64 0) (T := #[.int .i64 out, .slice ad ln cp, pt p, pt q, .int .i64 0, .int .i64 0, Z, .int .i64 out, .slice ad ln cp, .bool false, .bool true, Z, Z, Z, Z, Z, Z, Z, Z, Z]) hop rfl (by decide) rfl (fun u' => run_assign rfl) (fun u' => evs_assign) (by kernel_rfl) ?_
 clear hop
 obtain ⟨_, _, _, hop⟩ := op9_2_1
 refine MGo.pureT (d := 5) (v := .int .i64 2) (T := #[.int .i64 out, .slice ad ln cp, pt p, pt q, .int .i64 0, .int .i64 2, Z, .int .i64 out, .slice ad ln cp, .bool false, .bool true, Z, Z, Z, Z, Z, Z, Z, Z, Z]) hop rfl (by decide) rfl (fun u' => run_assign rfl) (fun u' => evs_assign) (by kernel_rfl) ?_
 clear hop
 refine MGo.ctl (fun _ => stepG_region_end) rfl rfl ?_
 refine MGo.ctl (fun _ => stepG_ret') rfl rfl ?_
 exact MGo.leave rfl rfl Try.func15 (fun u' => by simp [results, Try.results15]) (fun u' => by simp [results, Try.results15]) h
set_option maxRecDepth 4000 in
theorem slv_yes (h : MGo Try.prog rd Stop m own (G (Frame.enter Try.prog 47 #[.int .i64 (-990000000001), .int .i64 10000000000001, holdsV p q] .normal) ((F2 Try.f15 out ad ln cp p q) :: cs)) u) : MGo Try.prog rd Stop (m + 8) own (G (Frame.finish (F1 Try.f15 out ad ln cp p q) (.bool true)) cs) u := by
 obtain ⟨_, _, _, hop⟩ := op9_1_2
 refine MGo.endT (T := #[.int .i64 out, .slice ad ln cp, pt p, pt q, .int .i64 0, .int .i64 0, Z, .int .i64 out, .slice ad ln cp, .bool true, Z, Z, Z, Z, Z, Z, Z, Z, Z, Z]) hop rfl (by kernel_rfl) ?_
 clear hop
 obtain ⟨_, _, _, hop⟩ := op9_1_3
 refine MGo.pureT (d := 10) (v := .bool false) (T := #[.int .i64 out, .slice ad ln cp, pt p, pt q, .int .i64 0, .int .i64 0, Z, .int .i64 out, .slice ad ln cp, .bool true, .bool false, Z, Z, Z, Z, Z, Z, Z, Z, Z]) hop rfl (by decide) rfl (fun u' => (run_not (B := true) rfl rfl).1) (fun u' => (run_not (B := true) rfl rfl).2) (by kernel_rfl) ?_
 clear hop
 refine MGo.ctl (fun _ => stepG_region_end) rfl rfl ?_
 refine MGo.ctl (fun _ => stepG_cond (t := false) rfl) rfl rfl ?_
 refine MGo.ctl (fun _ => stepG_skip) rfl rfl ?_
 refine MGo.ctl (fun _ => stepG_seq) rfl rfl ?_
 refine MGo.ctl (fun _ => stepG_region) rfl rfl ?_
 rw [show List.range (opsAt Try.f15 3).size = [0, 1, 2] from by kernel_rfl]
 obtain ⟨_, _, _, hop⟩ := op9_3_0
 refine MGo.pureT (d := 11) (v := holdsV p q) (T := #[.int .i64 out, .slice ad ln cp, pt p, pt q, .int .i64 0, .int .i64 0, Z, .int .i64 out, .slice ad ln cp, .bool true, .bool false, holdsV p q, Z, Z, Z, Z, Z, Z, Z, Z]) hop rfl (by decide) rfl (fun u' => (run_mf19 rfl rfl).1) (fun u' => (run_mf19 rfl rfl).2) (by kernel_rfl) ?_
 clear hop
 obtain ⟨_, _, _, hop⟩ := op9_3_1
 refine MGo.enter hop rfl (by decide) (fun u' => (run_call18 rfl rfl rfl rfl).1) (fun u' => (run_call18 rfl rfl rfl rfl).2) ?_
 clear hop
 exact h
set_option maxRecDepth 4000 in
theorem slv_low (h1 : decide (r < -990000000000) = true) (h : MGo Try.prog rd Stop m own (G (top.finish (two 0 13)) cs) u) : MGo Try.prog rd Stop (m + 20) own (G (Frame.finish (F2 Try.f15 out ad ln cp p q) (.int .i64 r)) (top :: cs)) u := by
 obtain ⟨_, _, _, hop⟩ := op9_3_1
 refine MGo.endT (T := #[.int .i64 out, .slice ad ln cp, pt p, pt q, .int .i64 0, .int .i64 0, Z, .int .i64 out, .slice ad ln cp, .bool true, .bool false, holdsV p q, .int .i64 r, Z, Z, Z, Z, Z, Z, Z]) hop rfl (by kernel_rfl) ?_
 clear hop
 obtain ⟨_, _, _, hop⟩ := op9_3_2
 refine MGo.pureT (d := 6) (v := .int .i64 r) (T := #[.int .i64 out, .slice ad ln cp, pt p, pt q, .int .i64 0, .int .i64 0, .int .i64 r, .int .i64 out, .slice ad ln cp, .bool true, .bool false, holdsV p q, .int .i64 r, Z, Z, Z, Z, Z, Z, Z]) hop rfl (by decide) rfl (fun u' => run_assign rfl) (fun u' => evs_assign) (by kernel_rfl) ?_
 clear hop
 refine MGo.ctl (fun _ => stepG_region_end) rfl rfl ?_
 refine MGo.ctl (fun _ => stepG_seq) rfl rfl ?_
 refine MGo.ctl (fun _ => stepG_seq) rfl rfl ?_
 refine MGo.ctl (fun _ => stepG_region) rfl rfl ?_
 rw [show List.range (opsAt Try.f15 4).size = [0, 1, 2, 3, 4, 5] from by kernel_rfl]
 obtain ⟨_, _, _, hop⟩ := op9_4_0
 refine MGo.pureT (d := 13) (v := .int .i64 r) (T := #[.int .i64 out, .slice ad ln cp, pt p, pt q, .int .i64 0, .int .i64 0, .int .i64 r, .int .i64 out, .slice ad ln cp, .bool true, .bool false, holdsV p q, .int .i64 r, .int .i64 r, Z, Z, Z, Z, Z, Z]) hop (by kernel_rfl) (by decide) rfl (fun u' => run_move rfl) (fun u' => evs_move) (by kernel_rfl) ?_
 clear hop
 obtain ⟨_, _, _, hop⟩ := op9_4_1
 refine MGo.pureT (d := 14) (v := .bool true) (T := #[.int .i64 out, .slice ad ln cp, pt p, pt q, .int .i64 0, .int .i64 0, .int .i64 r, .int .i64 out, .slice ad ln cp, .bool true, .bool false, holdsV p q, .int .i64 r, .int .i64 r, .bool true, Z, Z, Z, Z, Z]) hop (by kernel_rfl) (by decide) rfl (fun u' => (run_lss2 rfl rfl h1).1) (fun u' => (run_lss2 rfl rfl h1).2) (by kernel_rfl) ?_
 clear hop
 obtain ⟨_, _, _, hop⟩ := op9_4_2
 refine MGo.pureT (d := 15) (v := .bool true) (T := #[.int .i64 out, .slice ad ln cp, pt p, pt q, .int .i64 0, .int .i64 0, .int .i64 r, .int .i64 out, .slice ad ln cp, .bool true, .bool false, holdsV p q, .int .i64 r, .int .i64 r, .bool true, .bool true, Z, Z, Z, Z]) hop (by kernel_rfl) (by decide) rfl (fun u' => run_move rfl) (fun u' => evs_move) (by kernel_rfl) ?_
 clear hop
 obtain ⟨_, _, _, hop⟩ := op9_4_3
 refine MGo.skipT (d := 16) (T := #[.int .i64 out, .slice ad ln cp, pt p, pt q, .int .i64 0, .int .i64 0, .int .i64 r, .int .i64 out, .slice ad ln cp, .bool true, .bool false, holdsV p q, .int .i64 r, .int .i64 r, .bool true, .bool true, Z, Z, Z, Z]) hop (by kernel_rfl) rfl (by kernel_rfl) ?_
 clear hop
 obtain ⟨_, _, _, hop⟩ := op9_4_4
 refine MGo.skipT (d := 17) (T := #[.int .i64 out, .slice ad ln cp, pt p, pt q, .int .i64 0, .int .i64 0, .int .i64 r, .int .i64 out, .slice ad ln cp, .bool true, .bool false, holdsV p q, .int .i64 r, .int .i64 r, .bool true, .bool true, Z, Z, Z, Z]) hop (by kernel_rfl) rfl (by kernel_rfl) ?_
 clear hop
 obtain ⟨_, _, _, hop⟩ := op9_4_5
 refine MGo.pureT (d := 18) (v := .bool true) (T := #[.int .i64 out, .slice ad ln cp, pt p, pt q, .int .i64 0, .int .i64 0, .int .i64 r, .int .i64 out, .slice ad ln cp, .bool true, .bool false, holdsV p q, .int .i64 r, .int .i64 r, .bool true, .bool true, Z, Z, .bool true, Z]) hop (by kernel_rfl) (by decide) rfl (fun u' => (run_pick (B := true) rfl rfl).1) (fun u' => (run_pick (B := true) rfl rfl).2) (by kernel_rfl) ?_
 clear hop
 refine MGo.ctl (fun _ => stepG_region_end) rfl rfl ?_
 refine MGo.ctl (fun _ => stepG_cond (t := true) rfl) rfl rfl ?_
 refine MGo.ctl (fun _ => stepG_seq) rfl rfl ?_
 refine MGo.ctl (fun _ => stepG_region) rfl rfl ?_
 rw [show List.range (opsAt Try.f15 5).size = [0, 1] from by kernel_rfl]
 obtain ⟨_, _, _, hop⟩ := op9_5_0
 refine MGo.pureT (d := 4) (v := .int .i64 0) (T := #[.int .i64 out, .slice ad ln cp, pt p, pt q, .int .i64 0, .int .i64 0, .int .i64 r, .int .i64 out, .slice ad ln cp, .bool true, .bool false, holdsV p q, .int .i64 r, .int .i64 r, .bool true, .bool true, Z, Z, .bool true, Z]) hop rfl (by decide) rfl (fun u' => run_assign rfl) (fun u' => evs_assign) (by kernel_rfl) ?_
 clear hop
 obtain ⟨_, _, _, hop⟩ := op9_5_1
 refine MGo.pureT (d := 5) (v := .int .i64 13) (T := #[.int .i64 out, .slice ad ln cp, pt p, pt q, .int .i64 0, .int .i64 13, .int .i64 r, .int .i64 out, .slice ad ln cp, .bool true, .bool false, holdsV p q, .int .i64 r, .int .i64 r, .bool true, .bool true, Z, Z, .bool true, Z]) hop rfl (by decide) rfl (fun u' => run_assign rfl) (fun u' => evs_assign) (by kernel_rfl) ?_
 clear hop
 refine MGo.ctl (fun _ => stepG_region_end) rfl rfl ?_
 refine MGo.ctl (fun _ => stepG_ret') rfl rfl ?_
 exact MGo.leave rfl rfl Try.func15 (fun u' => by simp [results, Try.results15]) (fun u' => by simp [results, Try.results15]) h
set_option maxRecDepth 4000 in
theorem slv_top (h1 : decide (r < -990000000000) = false) (h2 : decide (r = 10000000000000) = true) (h : MGo Try.prog rd Stop m own (G (top.finish (two 0 13)) cs) u) : MGo Try.prog rd Stop (m + 20) own (G (Frame.finish (F2 Try.f15 out ad ln cp p q) (.int .i64 r)) (top :: cs)) u := by
 obtain ⟨_, _, _, hop⟩ := op9_3_1
 refine MGo.endT (T := #[.int .i64 out, .slice ad ln cp, pt p, pt q, .int .i64 0, .int .i64 0, Z, .int .i64 out, .slice ad ln cp, .bool true, .bool false, holdsV p q, .int .i64 r, Z, Z, Z, Z, Z, Z, Z]) hop rfl (by kernel_rfl) ?_
 clear hop
 obtain ⟨_, _, _, hop⟩ := op9_3_2
 refine MGo.pureT (d := 6) (v := .int .i64 r) (T := #[.int .i64 out, .slice ad ln cp, pt p, pt q, .int .i64 0, .int .i64 0, .int .i64 r, .int .i64 out, .slice ad ln cp, .bool true, .bool false, holdsV p q, .int .i64 r, Z, Z, Z, Z, Z, Z, Z]) hop rfl (by decide) rfl (fun u' => run_assign rfl) (fun u' => evs_assign) (by kernel_rfl) ?_
 clear hop
 refine MGo.ctl (fun _ => stepG_region_end) rfl rfl ?_
 refine MGo.ctl (fun _ => stepG_seq) rfl rfl ?_
 refine MGo.ctl (fun _ => stepG_seq) rfl rfl ?_
 refine MGo.ctl (fun _ => stepG_region) rfl rfl ?_
 rw [show List.range (opsAt Try.f15 4).size = [0, 1, 2, 3, 4, 5] from by kernel_rfl]
 obtain ⟨_, _, _, hop⟩ := op9_4_0
 refine MGo.pureT (d := 13) (v := .int .i64 r) (T := #[.int .i64 out, .slice ad ln cp, pt p, pt q, .int .i64 0, .int .i64 0, .int .i64 r, .int .i64 out, .slice ad ln cp, .bool true, .bool false, holdsV p q, .int .i64 r, .int .i64 r, Z, Z, Z, Z, Z, Z]) hop (by kernel_rfl) (by decide) rfl (fun u' => run_move rfl) (fun u' => evs_move) (by kernel_rfl) ?_
 clear hop
 obtain ⟨_, _, _, hop⟩ := op9_4_1
 refine MGo.pureT (d := 14) (v := .bool false) (T := #[.int .i64 out, .slice ad ln cp, pt p, pt q, .int .i64 0, .int .i64 0, .int .i64 r, .int .i64 out, .slice ad ln cp, .bool true, .bool false, holdsV p q, .int .i64 r, .int .i64 r, .bool false, Z, Z, Z, Z, Z]) hop (by kernel_rfl) (by decide) rfl (fun u' => (run_lss2 rfl rfl h1).1) (fun u' => (run_lss2 rfl rfl h1).2) (by kernel_rfl) ?_
 clear hop
 obtain ⟨_, _, _, hop⟩ := op9_4_2
 refine MGo.pureT (d := 15) (v := .bool false) (T := #[.int .i64 out, .slice ad ln cp, pt p, pt q, .int .i64 0, .int .i64 0, .int .i64 r, .int .i64 out, .slice ad ln cp, .bool true, .bool false, holdsV p q, .int .i64 r, .int .i64 r, .bool false, .bool false, Z, Z, Z, Z]) hop (by kernel_rfl) (by decide) rfl (fun u' => run_move rfl) (fun u' => evs_move) (by kernel_rfl) ?_
 clear hop
 obtain ⟨_, _, _, hop⟩ := op9_4_3
 refine MGo.pureT (d := 16) (v := .int .i64 r) (T := #[.int .i64 out, .slice ad ln cp, pt p, pt q, .int .i64 0, .int .i64 0, .int .i64 r, .int .i64 out, .slice ad ln cp, .bool true, .bool false, holdsV p q, .int .i64 r, .int .i64 r, .bool false, .bool false, .int .i64 r, Z, Z, Z]) hop (by kernel_rfl) (by decide) rfl (fun u' => run_move rfl) (fun u' => evs_move) (by kernel_rfl) ?_
 clear hop
 obtain ⟨_, _, _, hop⟩ := op9_4_4
 refine MGo.pureT (d := 17) (v := .bool true) (T := #[.int .i64 out, .slice ad ln cp, pt p, pt q, .int .i64 0, .int .i64 0, .int .i64 r, .int .i64 out, .slice ad ln cp, .bool true, .bool false, holdsV p q, .int .i64 r, .int .i64 r, .bool false, .bool false, .int .i64 r, .bool true, Z, Z]) hop (by kernel_rfl) (by decide) rfl (fun u' => (run_eql2 rfl rfl h2).1) (fun u' => (run_eql2 rfl rfl h2).2) (by kernel_rfl) ?_
 clear hop
 obtain ⟨_, _, _, hop⟩ := op9_4_5
 refine MGo.pureT (d := 18) (v := .bool true) (T := #[.int .i64 out, .slice ad ln cp, pt p, pt q, .int .i64 0, .int .i64 0, .int .i64 r, .int .i64 out, .slice ad ln cp, .bool true, .bool false, holdsV p q, .int .i64 r, .int .i64 r, .bool false, .bool false, .int .i64 r, .bool true, .bool true, Z]) hop (by kernel_rfl) (by decide) rfl (fun u' => (run_pick (B := false) rfl rfl).1) (fun u' => (run_pick (B := false) rfl rfl).2) (by kernel_rfl) ?_
 clear hop
 refine MGo.ctl (fun _ => stepG_region_end) rfl rfl ?_
 refine MGo.ctl (fun _ => stepG_cond (t := true) rfl) rfl rfl ?_
 refine MGo.ctl (fun _ => stepG_seq) rfl rfl ?_
 refine MGo.ctl (fun _ => stepG_region) rfl rfl ?_
 rw [show List.range (opsAt Try.f15 5).size = [0, 1] from by kernel_rfl]
 obtain ⟨_, _, _, hop⟩ := op9_5_0
 refine MGo.pureT (d := 4) (v := .int .i64 0) (T := #[.int .i64 out, .slice ad ln cp, pt p, pt q, .int .i64 0, .int .i64 0, .int .i64 r, .int .i64 out, .slice ad ln cp, .bool true, .bool false, holdsV p q, .int .i64 r, .int .i64 r, .bool false, .bool false, .int .i64 r, .bool true, .bool true, Z]) hop rfl (by decide) rfl (fun u' => run_assign rfl) (fun u' => evs_assign) (by kernel_rfl) ?_
 clear hop
 obtain ⟨_, _, _, hop⟩ := op9_5_1
 refine MGo.pureT (d := 5) (v := .int .i64 13) (T := #[.int .i64 out, .slice ad ln cp, pt p, pt q, .int .i64 0, .int .i64 13, .int .i64 r, .int .i64 out, .slice ad ln cp, .bool true, .bool false, holdsV p q, .int .i64 r, .int .i64 r, .bool false, .bool false, .int .i64 r, .bool true, .bool true, Z]) hop rfl (by decide) rfl (fun u' => run_assign rfl) (fun u' => evs_assign) (by kernel_rfl) ?_
 clear hop
 refine MGo.ctl (fun _ => stepG_region_end) rfl rfl ?_
 refine MGo.ctl (fun _ => stepG_ret') rfl rfl ?_
 exact MGo.leave rfl rfl Try.func15 (fun u' => by simp [results, Try.results15]) (fun u' => by simp [results, Try.results15]) h
set_option maxRecDepth 4000 in
theorem slv_ok (h1 : decide (r < -990000000000) = false) (h2 : decide (r = 10000000000000) = false) (h : MGo Try.prog rd Stop m own (G (top.finish (two r 0)) cs) u) : MGo Try.prog rd Stop (m + 22) own (G (Frame.finish (F2 Try.f15 out ad ln cp p q) (.int .i64 r)) (top :: cs)) u := by
 obtain ⟨_, _, _, hop⟩ := op9_3_1
 refine MGo.endT (T := #[.int .i64 out, .slice ad ln cp, pt p, pt q, .int .i64 0, .int .i64 0, Z, .int .i64 out, .slice ad ln cp, .bool true, .bool false, holdsV p q, .int .i64 r, Z, Z, Z, Z, Z, Z, Z]) hop rfl (by kernel_rfl) ?_
 clear hop
 obtain ⟨_, _, _, hop⟩ := op9_3_2
 refine MGo.pureT (d := 6) (v := .int .i64 r) (T := #[.int .i64 out, .slice ad ln cp, pt p, pt q, .int .i64 0, .int .i64 0, .int .i64 r, .int .i64 out, .slice ad ln cp, .bool true, .bool false, holdsV p q, .int .i64 r, Z, Z, Z, Z, Z, Z, Z]) hop rfl (by decide) rfl (fun u' => run_assign rfl) (fun u' => evs_assign) (by kernel_rfl) ?_
 clear hop
 refine MGo.ctl (fun _ => stepG_region_end) rfl rfl ?_
 refine MGo.ctl (fun _ => stepG_seq) rfl rfl ?_
 refine MGo.ctl (fun _ => stepG_seq) rfl rfl ?_
 refine MGo.ctl (fun _ => stepG_region) rfl rfl ?_
 rw [show List.range (opsAt Try.f15 4).size = [0, 1, 2, 3, 4, 5] from by kernel_rfl]
 obtain ⟨_, _, _, hop⟩ := op9_4_0
 refine MGo.pureT (d := 13) (v := .int .i64 r) (T := #[.int .i64 out, .slice ad ln cp, pt p, pt q, .int .i64 0, .int .i64 0, .int .i64 r, .int .i64 out, .slice ad ln cp, .bool true, .bool false, holdsV p q, .int .i64 r, .int .i64 r, Z, Z, Z, Z, Z, Z]) hop (by kernel_rfl) (by decide) rfl (fun u' => run_move rfl) (fun u' => evs_move) (by kernel_rfl) ?_
 clear hop
 obtain ⟨_, _, _, hop⟩ := op9_4_1
 refine MGo.pureT (d := 14) (v := .bool false) (T := #[.int .i64 out, .slice ad ln cp, pt p, pt q, .int .i64 0, .int .i64 0, .int .i64 r, .int .i64 out, .slice ad ln cp, .bool true, .bool false, holdsV p q, .int .i64 r, .int .i64 r, .bool false, Z, Z, Z, Z, Z]) hop (by kernel_rfl) (by decide) rfl (fun u' => (run_lss2 rfl rfl h1).1) (fun u' => (run_lss2 rfl rfl h1).2) (by kernel_rfl) ?_
 clear hop
 obtain ⟨_, _, _, hop⟩ := op9_4_2
 refine MGo.pureT (d := 15) (v := .bool false) (T := #[.int .i64 out, .slice ad ln cp, pt p, pt q, .int .i64 0, .int .i64 0, .int .i64 r, .int .i64 out, .slice ad ln cp, .bool true, .bool false, holdsV p q, .int .i64 r, .int .i64 r, .bool false, .bool false, Z, Z, Z, Z]) hop (by kernel_rfl) (by decide) rfl (fun u' => run_move rfl) (fun u' => evs_move) (by kernel_rfl) ?_
 clear hop
 obtain ⟨_, _, _, hop⟩ := op9_4_3
 refine MGo.pureT (d := 16) (v := .int .i64 r) (T := #[.int .i64 out, .slice ad ln cp, pt p, pt q, .int .i64 0, .int .i64 0, .int .i64 r, .int .i64 out, .slice ad ln cp, .bool true, .bool false, holdsV p q, .int .i64 r, .int .i64 r, .bool false, .bool false, .int .i64 r, Z, Z, Z]) hop (by kernel_rfl) (by decide) rfl (fun u' => run_move rfl) (fun u' => evs_move) (by kernel_rfl) ?_
 clear hop
 obtain ⟨_, _, _, hop⟩ := op9_4_4
 refine MGo.pureT (d := 17) (v := .bool false) (T := #[.int .i64 out, .slice ad ln cp, pt p, pt q, .int .i64 0, .int .i64 0, .int .i64 r, .int .i64 out, .slice ad ln cp, .bool true, .bool false, holdsV p q, .int .i64 r, .int .i64 r, .bool false, .bool false, .int .i64 r, .bool false, Z, Z]) hop (by kernel_rfl) (by decide) rfl (fun u' => (run_eql2 rfl rfl h2).1) (fun u' => (run_eql2 rfl rfl h2).2) (by kernel_rfl) ?_
 clear hop
 obtain ⟨_, _, _, hop⟩ := op9_4_5
 refine MGo.pureT (d := 18) (v := .bool false) (T := #[.int .i64 out, .slice ad ln cp, pt p, pt q, .int .i64 0, .int .i64 0, .int .i64 r, .int .i64 out, .slice ad ln cp, .bool true, .bool false, holdsV p q, .int .i64 r, .int .i64 r, .bool false, .bool false, .int .i64 r, .bool false, .bool false, Z]) hop (by kernel_rfl) (by decide) rfl (fun u' => (run_pick (B := false) rfl rfl).1) (fun u' => (run_pick (B := false) rfl rfl).2) (by kernel_rfl) ?_
 clear hop
 refine MGo.ctl (fun _ => stepG_region_end) rfl rfl ?_
 refine MGo.ctl (fun _ => stepG_cond (t := false) rfl) rfl rfl ?_
 refine MGo.ctl (fun _ => stepG_skip) rfl rfl ?_
 refine MGo.ctl (fun _ => stepG_seq) rfl rfl ?_
 refine MGo.ctl (fun _ => stepG_region) rfl rfl ?_
 rw [show List.range (opsAt Try.f15 6).size = [0, 1, 2] from by kernel_rfl]
 obtain ⟨_, _, _, hop⟩ := op9_6_0
 refine MGo.pureT (d := 19) (v := .int .i64 r) (T := #[.int .i64 out, .slice ad ln cp, pt p, pt q, .int .i64 0, .int .i64 0, .int .i64 r, .int .i64 out, .slice ad ln cp, .bool true, .bool false, holdsV p q, .int .i64 r, .int .i64 r, .bool false, .bool false, .int .i64 r, .bool false, .bool false, .int .i64 r]) hop rfl (by decide) rfl (fun u' => run_move rfl) (fun u' => evs_move) (by kernel_rfl) ?_
 clear hop
 obtain ⟨_, _, _, hop⟩ := op9_6_1
 refine MGo.pureT (d := 4) (v := .int .i64 r) (T := #[.int .i64 out, .slice ad ln cp, pt p, pt q, .int .i64 r, .int .i64 0, .int .i64 r, .int .i64 out, .slice ad ln cp, .bool true, .bool false, holdsV p q, .int .i64 r, .int .i64 r, .bool false, .bool false, .int .i64 r, .bool false, .bool false, .int .i64 r]) hop rfl (by decide) rfl (fun u' => run_assign rfl) (fun u' => evs_assign) (by kernel_rfl) ?_
 clear hop
 obtain ⟨_, _, _, hop⟩ := op9_6_2
 refine MGo.pureT (d := 5) (v := .int .i64 0) (T := #[.int .i64 out, .slice ad ln cp, pt p, pt q, .int .i64 r, .int .i64 0, .int .i64 r, .int .i64 out, .slice ad ln cp, .bool true, .bool false, holdsV p q, .int .i64 r, .int .i64 r, .bool false, .bool false, .int .i64 r, .bool false, .bool false, .int .i64 r]) hop rfl (by decide) rfl (fun u' => run_assign rfl) (fun u' => evs_assign) (by kernel_rfl) ?_
 clear hop
 refine MGo.ctl (fun _ => stepG_region_end) rfl rfl ?_
 refine MGo.ctl (fun _ => stepG_ret') rfl rfl ?_
 exact MGo.leave rfl rfl Try.func15 (fun u' => by simp [results, Try.results15]) (fun u' => by simp [results, Try.results15]) h
end
end Go.Proofs.Ytpeoabopeihadaa.Sim
/- A call that only reads what was there leaves it as it was. No program of the project in this text. -/
namespace Go.Proofs.Ytpeoabopeihadaa.Sim
open Go Go.Conc
section
variable [Glob] {P : Program}
theorem old_of {p q : Ren} {w w1 u u1 : World} (k : Kp p q w w1 u u1) (h : ∀ d c, p d = some c → Fz w d) : Old u u1 := by
 refine ⟨k.size, fun c hc => ?_, k.os, k.tape, k.out⟩
 by_cases hx : ∃ d, p d = some c
 ·obtain ⟨d, e⟩ := hx
  exact (k.still d c e (h d c e)).1
 ·exact k.other c hc fun d e => hx ⟨d, e⟩
end
end Go.Proofs.Ytpeoabopeihadaa.Sim
/- eir.Solve, run by goroutine 0 beside leavers. -/
namespace Go.Proofs.Ytpeoabopeihadaa.Sim
open Go Go.Conc
structure AtMay (own0 : Nat → Prop) (B : Nat) (out : Int) (ad : Option Addr) (ln cp : Nat) (cs : List Frame) (g : Goroutine) (v : World) (p q : Nat) : Prop where
 order : B ≤ p ∧ p < q
 atP : v.heap[p]? = some (.cells #[.int .i64 out] 2 (0, 0))
 atQ : v.heap[q]? = some (.cells #[.slice ad ln cp] 22 (0, 0))
 here : g = G (Frame.enter Try.prog 46 #[.int .i64 out, .slice ad ln cp] .normal) (F1 Try.f15 out ad ln cp p q :: cs)
section
variable [Glob] {rd own : Nat → Prop} {u : World} {cs : List Frame} {out : Int} {ad : Option Addr} {ln cp : Nat}
theorem slv_in (hl : ∀ d, own d ∨ rd d → d < u.heap.size) :
  ∃ m, MGo Try.prog rd (fun ow g v => ∃ p q, AtMay own u.heap.size out ad ln cp cs g v p q) m own (G (Frame.enter Try.prog 15 #[.int .i64 out, .slice ad ln cp] .normal) cs) u := by
 refine ⟨14, ?_⟩
 rw [enter_at _ Try.func15 body9, tm9]
 refine MGo.ctl (fun _ => stepG_seq) rfl rfl ?_
 refine MGo.ctl (fun _ => stepG_region) rfl rfl ?_
 rw [show List.range (opsAt Try.f15 0).size = [0, 1, 2, 3] from by kernel_rfl]
 obtain ⟨_, _, _, hop⟩ := op9_0_0
 refine MGo.alloc (F := pt) (x := .cells #[.int .i64 out] 2 (0, 0)) hop rfl (by decide) hl (fun u' => run_box2 rfl) (fun u' => evs_box2 rfl) fun p u1 b1 x1 k1 l1 => ?_
 clear hop
 obtain ⟨_, _, _, hop⟩ := op9_0_1
 refine MGo.alloc (F := pt) (x := .cells #[.slice ad ln cp] 22 (0, 0)) hop rfl (by decide) l1 (fun u' => run_box22 rfl) (fun u' => evs_box22 rfl) fun q u2 b2 x2 k2 l2 => ?_
 clear hop
 have o1 : p < q := by
  have := (Array.getElem?_eq_some_iff.1 x1).1
  omega
 have x1' : u2.heap[p]? = some (.cells #[.int .i64 out] 2 (0, 0)) := (k2.same p (.inl (.inr rfl))).trans x1
 show MGo Try.prog rd _ 10 _ (G ((base 15).at ⟨#[.int .i64 out, .slice ad ln cp, pt p, pt q, undef, undef, undef, undef, undef, undef, undef, undef, undef, undef, undef, undef, undef, undef, undef, undef], []⟩ _) cs) u2
 obtain ⟨_, _, _, hop⟩ := op9_0_2
 refine MGo.pureT (d := 4) (v := .int .i64 0) (T := #[.int .i64 out, .slice ad ln cp, pt p, pt q, .int .i64 0, Z, Z, Z, Z, Z, Z, Z, Z, Z, Z, Z, Z, Z, Z, Z]) hop rfl (by decide) rfl (fun u' => run_assign rfl) (fun u' => evs_assign) (by kernel_rfl) ?_
 clear hop
 obtain ⟨_, _, _, hop⟩ := op9_0_3
 refine MGo.pureT (d := 5) (v := .int .i64 0) (T := #[.int .i64 out, .slice ad ln cp, pt p, pt q, .int .i64 0, .int .i64 0, Z, Z, Z, Z, Z, Z, Z, Z, Z, Z, Z, Z, Z, Z]) hop rfl (by decide) rfl (fun u' => run_assign rfl) (fun u' => evs_assign) (by kernel_rfl) ?_
 clear hop
 refine MGo.ctl (fun _ => stepG_region_end) rfl rfl ?_
 refine MGo.ctl (fun _ => stepG_seq) rfl rfl ?_
 refine MGo.ctl (fun _ => stepG_seq) rfl rfl ?_
 refine MGo.ctl (fun _ => stepG_region) rfl rfl ?_
 rw [show List.range (opsAt Try.f15 1).size = [0, 1, 2, 3] from by kernel_rfl]
 have hp : ((own p ∨ p = p) ∨ p = q) ∨ rd p := .inl (.inl (.inr rfl))
 have hq : ((own q ∨ q = p) ∨ q = q) ∨ rd q := .inl (.inr rfl)
 obtain ⟨_, _, _, hop⟩ := op9_1_0
 refine MGo.value (v := .int .i64 out) hop rfl (by decide) (fun u' k => ld_run rfl (cell_one ((k.same p hp).trans x1')) (agg2 _) hp) ?_
 clear hop
 obtain ⟨_, _, _, hop⟩ := op9_1_1
 refine MGo.value (v := .slice ad ln cp) hop rfl (by decide) (fun u' k => ld_run rfl (cell_one ((k.same q hq).trans x2)) (agg22 _) hq) ?_
 clear hop
 show MGo Try.prog rd _ 2 _ (G ((base 15).at ⟨#[.int .i64 out, .slice ad ln cp, pt p, pt q, .int .i64 0, .int .i64 0, undef, .int .i64 out, .slice ad ln cp, undef, undef, undef, undef, undef, undef, undef, undef, undef, undef, undef], []⟩ _) cs) u2
 obtain ⟨_, _, _, hop⟩ := op9_1_2
 refine MGo.enter hop rfl (by decide) (fun u' => (run_call17 rfl rfl rfl).1) (fun u' => (run_call17 rfl rfl rfl).2) ?_
 clear hop
 exact MGo.stop fun v k => ⟨p, q, ⟨b1, o1⟩, (k.same p hp).trans x1', (k.same q hq).trans x2, rfl⟩
end
section
variable [Glob] {P : Program}
def Found (cov : Int → Bool) (may : Bool) (r e : Int) : Prop :=
 (may = false ∧ r = 0 ∧ e = 2) ∨ (may = true ∧ ∃ z, -990000000001 ≤ z ∧ z < 10000000000001 ∧ (z = -990000000001 ∨ cov z = true) ∧ (z + 1 = 10000000000001 ∨ cov (z + 1) = false) ∧ ((z < -990000000000 ∧ r = 0 ∧ e = 13) ∨ (z = 10000000000000 ∧ r = 0 ∧ e = 13) ∨ (-990000000000 ≤ z ∧ z ≠ 10000000000000 ∧ r = z ∧ e = 0)))
theorem solve_run (T : Told P) {out : Int} {ad : Option Addr} {ln cp : Nat} {may : Bool} {cov : Int → Bool} {S : Nat → Prop} {g0 : Goroutine} {gs : Array Goroutine} {u : World} {sl : Option (Nat × Nat)} {t : Trace} {top : Frame} {cs : List Frame}
  (h17 : ∀ u', Old u u' → ∃ s p, AllEnd P (fun v _ => v = .bool may) s.a s.as s.w ∧ Rel P p s (Frame.enter Try.prog 46 #[.int .i64 out, .slice ad ln cp] .normal) [] u' ∧ ∀ d c, p d = some c → Fz s.w d)
  (hq : may = true → ∀ u' p q, Old u u' → u.heap.size ≤ p → p < q → u'.heap[p]? = some (.cells #[.int .i64 out] 2 (0, 0)) → u'.heap[q]? = some (.cells #[.slice ad ln cp] 22 (0, 0)) → ∀ n, -990000000001 < n → n < 10000000000001 → Asks P (fun b => S b ∨ b = p ∨ b = q) u' p q n (cov n))
  (mono : ∀ a b, -990000000001 < a → a ≤ b → b < 10000000000001 → cov b = true → cov a = true) (hS : ∀ b, S b → b < u.heap.size)
  (hF : Alone Try.prog g0 gs u t) (hlead : Leads Try.prog g0 (G (Frame.enter Try.prog 15 #[.int .i64 out, .slice ad ln cp] .normal) (top :: cs))) :
  ∃ r e N gs' u' sl' t' g0', runNT Try.prog N (crowd gs u sl) t = (.next (crowd gs' u' sl'), t') ∧ Alone Try.prog g0' gs' u' t' ∧ Leads Try.prog g0' (G (top.finish (two r e)) cs) ∧ Old u u' ∧ Found cov may r e := by
 obtain ⟨K, hlead⟩ := hlead
 obtain ⟨m, hm⟩ := slv_in (rd := fun b => b < u.heap.size) (own := fun _ => False) (u := u) (cs := top :: cs) (out := out) (ad := ad) (ln := ln) (cp := cp) (fun b hb => hb.elim False.elim id)
 obtain ⟨N1, gs1, u1, sl1, t1, g1, ow, e1, F1', old1, _, p, q, am⟩ := alone_to (sl := sl) hF (hlead _ _ _ _ _ hm)
 obtain rfl := am.here
 obtain ⟨s, ρ, hE, hR, hT⟩ := h17 u1 old1
 have hco := T.co
 obtain ⟨N2, gs2, u2, sl2, t2, v, v', ρ2, w1, e2, F2', hp, hv, hw1, hk⟩ := call_lone T.zero T.size T.codes T.cut hE hR (sl := sl1) (gs := gs1) (t := t1) (top := F1 Try.f15 out ad ln cp p q) (cs := top :: cs) (by rw [hco]; exact F1')
 rw [hco] at e2 F2'
 obtain rfl := hp
 obtain rfl := v_bool hv
 have old2 : Old u1 u2 := old_of hk hT
 have old12 : Old u u2 := old1.trans old2
 have hrun12 : ∀ {N gs' u' sl' t'}, runNT Try.prog N (crowd gs2 u2 sl2) t2 = (.next (crowd gs' u' sl'), t') → runNT Try.prog (N1 + (N2 + N)) (crowd gs u sl) t = (.next (crowd gs' u' sl'), t') := fun h => by
  rw [runNT_add, e1]
  show runNT _ (N2 + _) _ _ = _
  rw [runNT_add, e2]
  exact h
 have F2' : Alone Try.prog (G (Frame.finish (F1 Try.f15 out ad ln cp p q) (.bool may)) (top :: cs)) gs2 u2 t2 := F2'
 cases may with
 | false => exact ⟨0, 2, N1 + (N2 + 0), gs2, u2, sl2, t2, _, hrun12 rfl, F2', ⟨_, fun _ _ _ _ _ h => slv_no h⟩, old12, .inl ⟨rfl, rfl, rfl⟩⟩
 | true =>
  have lp : p < u1.heap.size := (Array.getElem?_eq_some_iff.1 am.atP).1
  have lq : q < u1.heap.size := (Array.getElem?_eq_some_iff.1 am.atQ).1
  have atP : u2.heap[p]? = _ := (old2.same p lp).trans am.atP
  have atQ : u2.heap[q]? = _ := (old2.same q lq).trans am.atQ
  have sz := old2.size
  obtain ⟨z, N3, gs3, u3, sl3, t3, g3, e3, F3, lead3, old3, z1, z2, z3, z4⟩ := last_run T (A := -990000000001) (B := 10000000000001) (by omega) (by omega) (by omega) (hq rfl u2 p q old12 am.order.1 am.order.2 atP atQ) mono (fun b hb => by
   rcases hb with hb | rfl | rfl
   ·exact Nat.lt_of_lt_of_le (hS b hb) old12.size
   ·omega
   ·omega) (sl := sl2) F2' ⟨_, fun _ _ _ _ _ h => slv_yes h⟩ (fun _ _ => rfl) (Nat.le_refl _)
  have run := hrun12 e3
  have oldA : Old u u3 := old12.trans old3
  by_cases h1 : z < -990000000000
  ·exact ⟨0, 13, _, gs3, u3, sl3, t3, g3, run, F3, lead3.trans ⟨_, fun _ _ _ _ _ h => slv_low (by simpa using h1) h⟩, oldA, .inr ⟨rfl, z, z1, z2, z3, z4, .inl ⟨h1, rfl, rfl⟩⟩⟩
  ·by_cases h2 : z = 10000000000000
   ·exact ⟨0, 13, _, gs3, u3, sl3, t3, g3, run, F3, lead3.trans ⟨_, fun _ _ _ _ _ h => slv_top (by simpa using h1) (by simpa using h2) h⟩, oldA, .inr ⟨rfl, z, z1, z2, z3, z4, .inr (.inl ⟨h2, rfl, rfl⟩)⟩⟩
   ·exact ⟨z, 0, _, gs3, u3, sl3, t3, g3, run, F3, lead3.trans ⟨_, fun _ _ _ _ _ h => slv_ok (by simpa using h1) (by simpa using h2) h⟩, oldA, .inr ⟨rfl, z, z1, z2, z3, z4, .inr (.inr ⟨by omega, h2, rfl, rfl⟩)⟩⟩
end
end Go.Proofs.Ytpeoabopeihadaa.Sim
