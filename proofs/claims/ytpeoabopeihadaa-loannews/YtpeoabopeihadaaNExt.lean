/- A lone run that enters the solver in one goroutine and returns at every tape: what was handed is a number and a row of numbers. -/
import Derived.Test.YtpeoabopeihadaaNQC
import Derived.Conc.Own5
set_option linter.unusedVariables false
set_option linter.unusedSimpArgs false
set_option linter.unusedSectionVars false
namespace Go.Proofs.Ytpeoabopeihadaa.Sim
open Go Go.Conc
section
variable [Glob] {P : Program} {Post : Value → Array Obj → Prop}
theorem inv_step (hz : Zero P) (hG : Glob.size = P.globals.size) (hc : Codes P) {s : St} (h : Inv P Post s) (no : ¬s.over) :
  ∃ s' es, stepG P true (gor s.a (s.as ++ [floor])) s.w = .go (gor s'.a (s'.as ++ [floor])) s'.w es ∧ Inv P Post s' ∧ ∀ c, s'.a.mode ≠ .panicking c := by
 obtain ⟨H, p, b, bs, u, hg, hw, ha, hs⟩ := h
 have hw0 : WR p s.w (wt u s.w.tape s.w.drawn) := ⟨hw.blk, hw.inj, hw.big, hw.dead⟩
 obtain ⟨q, a1, b1, as1, bs1, w1, u1, es1, es1', g2, g3, g4, g5, g6, g7, g8, _⟩ := own_step (main := true) (cs := [floor]) hz hG hc hg hw0 ha hs no H
 exact ⟨⟨a1, as1, w1⟩, es1, g8, ⟨g7, q, b1, bs1, u1, hg.le g5.le, g5.wr, g3, g4⟩, fr_mode g3⟩
theorem inv_go (hz : Zero P) (hG : Glob.size = P.globals.size) (hc : Codes P) {f : FuncId} {T : Array Value} {k : List Item} {as : List Frame} {w : World} (h : Inv P Post ⟨(base f).at ⟨T, []⟩ k, as, w⟩) {a' : Frame} {w' : World} {es : Array Event}
  (e : stepG P true (G ((base f).at ⟨T, []⟩ k) (as ++ [floor])) w = .go (G a' (as ++ [floor])) w' es) : Inv P Post ⟨a', as, w'⟩ := by
 obtain ⟨s', es', h1, h2, _⟩ := inv_step hz hG hc h (fun hv => by cases hv.1)
 have h1 : stepG P true (G ((base f).at ⟨T, []⟩ k) (as ++ [floor])) w = .go (gor s'.a (s'.as ++ [floor])) s'.w es' := h1
 rw [e] at h1
 have i1 := GStep.go.inj h1
 have i2 := i1.1
 simp only [G, gor, Goroutine.mk.injEq, List.append_cancel_right_eq] at i2
 obtain ⟨j1, j2, _⟩ := i2
 have j3 := i1.2.1
 obtain ⟨a1, as1, w1⟩ := s'
 simp only at j1 j2 j3 h2
 subst j1
 subst j2
 subst j3
 exact h2
theorem inv_ends (hz : Zero P) (hG : Glob.size = P.globals.size) (hc : Codes P) {f : FuncId} {T : Array Value} {k : List Item} {as : List Frame} {w : World} (h : Inv P Post ⟨(base f).at ⟨T, []⟩ k, as, w⟩) {o : Outcome} {w' : World} {es : Array Event}
  (e : stepG P true (G ((base f).at ⟨T, []⟩ k) (as ++ [floor])) w = .ended o w' es) : False := by
 obtain ⟨s', es', h1, h2, _⟩ := inv_step hz hG hc h (fun hv => by cases hv.1)
 have h1 : stepG P true (G ((base f).at ⟨T, []⟩ k) (as ++ [floor])) w = .go (gor s'.a (s'.as ++ [floor])) s'.w es' := h1
 rw [e] at h1
 cases h1
theorem inv_fine (hz : Zero P) (hG : Glob.size = P.globals.size) (hc : Codes P) {f : FuncId} {T : Array Value} {ops : Array Oper} {i : Nat} {rest : List Nat} {k : List Item} {as : List Frame} {w : World} (h : Inv P Post ⟨(base f).at ⟨T, []⟩ (.inRegion ops (i :: rest) :: k), as, w⟩) {o : Oper} (ho : ops[i]? = some o)
  (hw : Region.wanted o (yielded ops T) = true) {x : Halt} {w1 : World} (hr : (execOp (Go.Act.eval ⟨T, []⟩) o).run P w = .halt x w1) : False := by
 obtain ⟨s', es', h1, _, hn⟩ := inv_step hz hG hc h (fun hv => by cases hv.1)
 obtain ⟨H, p, b, bs, u, hg, hwr, ha, hs⟩ := h
 have h1 : stepG P true (G ((base f).at ⟨T, []⟩ (.inRegion ops (i :: rest) :: k)) (as ++ [floor])) w = .go (gor s'.a (s'.as ++ [floor])) s'.w es' := h1
 rw [stepG_oper ho hw] at h1
 obtain ⟨f', xs, ys, k', m', e1, e2, e3, e4, e5, e6⟩ := ha
 have e1 : (base f).at ⟨T, []⟩ (.inRegion ops (i :: rest) :: k) = mkF f' xs k' m' := e1
 have t1 : T = xs := congrArg Frame.tmps e1
 subst t1
 have t2 : .inRegion ops (i :: rest) :: k = k' := congrArg Frame.todo e1
 subst t2
 have hops : opsOk P ops = true := (todo_cons.1 e5).1
 have hER : ER2 p (Go.Act.eval ⟨T, []⟩) (Go.Act.eval ⟨ys, []⟩) := eval_rel (f := f) (k := k) (m := .run) hg e4
 rcases ops_at hops ho with hok | hok
 case inr =>
  obtain ⟨m, hd⟩ := dead_run (P := P) hwr (r := Go.Act.eval ⟨T, []⟩) (fun _ => rfl) hok
  simp only [stepG.apply, if_true, hd, GStep.after] at h1
  cases h1
 have hx := sr_execOp hz hG hc.bodies hER (fun _ => ⟨rfl, rfl⟩) hok
 cases hrt : (execOp (Go.Act.eval ⟨T, []⟩) o).runT P w #[] with
 | mk r es =>
 have hr2 : r = .halt x w1 := by
  have := congrArg Prod.fst hrt
  rw [Sem.runT_fst] at this
  exact this.symm.trans hr
 subst hr2
 have ok := sr_halts _ hx hwr hrt
 cases x with
 | panic v =>
  simp only [stepG.apply, if_true, hrt, GStep.after] at h1
  have i2 := (GStep.go.inj h1).1
  have := congrArg (fun g : Goroutine => g.frame) i2
  exact hn _ (congrArg Frame.mode this.symm)
 | stuck m =>
  simp only [stepG.apply, if_true, hrt, GStep.after] at h1
  cases h1
 | unsupported m =>
  cases m with
  | initOrder _ => exact ok.elim
  | _ =>
   simp only [stepG.apply, if_true, hrt, GStep.after] at h1
   cases h1
 | _ => exact ok.elim
theorem inv_val (hz : Zero P) (hG : Glob.size = P.globals.size) (hc : Codes P) {f : FuncId} {T T' : Array Value} {ops : Array Oper} {i : Nat} {rest : List Nat} {k : List Item} {as : List Frame} {w : World} (h : Inv P Post ⟨(base f).at ⟨T, []⟩ (.inRegion ops (i :: rest) :: k), as, w⟩) {o : Oper} {d : Nat} {v : Value} (ho : ops[i]? = some o)
  (hw : Region.wanted o (yielded ops T) = true) (hd : o.dst = some d) (hr : (execOp (Go.Act.eval ⟨T, []⟩) o).run P w = .ok (.value v) w) (hT : T.setIfInBounds d v = T') : Inv P Post ⟨(base f).at ⟨T', []⟩ (.inRegion ops rest :: k), as, w⟩ := by
 have e : (Go.Act.put ⟨T, []⟩ o.dst v) = ⟨T', []⟩ := by rw [hd, ← hT]; rfl
 have := inv_go hz hG hc h (stepG_value (a := ⟨T, []⟩) ho hw (fun e => by cases e) hr)
 rw [e] at this
 exact this
end
end Go.Proofs.Ytpeoabopeihadaa.Sim
