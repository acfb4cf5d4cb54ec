/- How a related computation halts; bodies, frames and stacks held against one another. No program of the project in this text. -/
import Derived.Test.YtpeoabopeihadaaNQA
import Derived.Conc.Beside
set_option linter.unusedVariables false
set_option linter.unusedSimpArgs false
set_option linter.unusedSectionVars false
namespace Go.Proofs.Ytpeoabopeihadaa.Sim
open Go
section
variable [Glob] {P : Program} {p : Ren}
theorem Dead.halts {α : Type} : ∀ {s : Sem α}, Dead P s → ∀ {w w1 : World} {es es1 : Array Event} {h : Halt}, s.runT P w es = (.halt h w1, es1) → okHalt h := by
 intro s
 induction s with
 | new o k ih => intro d w w1 es es1 h e; simp only [Dead, Sem.runT] at d e; exact ih _ (d _) e
 | sys c k ih => intro d w w1 es es1 h e; simp only [Dead, Sem.runT] at d e; exact ih _ (d _) e
 | program k ih => intro d w w1 es es1 h e; simp only [Dead, Sem.runT] at d e; exact ih P d e
 | choose q k ih =>
  intro d w w1 es es1 h e
  simp only [Dead, Sem.runT] at d e
  split at e
  ·exact ih _ (d _) e
  ·exact ih _ (d _) e
 | mark m k ih => intro d w w1 es es1 h e; simp only [Dead, Sem.runT] at d e; exact ih d e
 | frozen a k ih => intro d w w1 es es1 h e; simp only [Dead, Sem.runT] at d e; exact ih _ (d _) e
 | shape r k ih => intro d w w1 es es1 h e; simp only [Dead, Sem.runT] at d e; exact ih _ (d _) e
 | halt x =>
  intro d w w1 es es1 h e
  simp only [Dead, Sem.runT, Prod.mk.injEq, Result.halt.injEq] at d e
  rw [← e.1.1]
  exact d
 | _ => intro d; simp [Dead] at d
theorem sr_halts {α β : Type} {Q : Ren → α → β → Prop} : ∀ (s : Sem α) {s' : Sem β} {p : Ren} {w u : World} {es es1 : Array Event} {h : Halt} {w1 : World}, SR P Q p s s' → WR p w u → s.runT P w es = (.halt h w1, es1) → okHalt h := by
 intro s
 induction s with
 | pure a => intro s' p w u es es1 h w1 _ _ e; simp [Sem.runT] at e
 | load m a k ih =>
  intro s' p w u es es1 h w1 hs hw e
  cases m <;> cases s' <;> try simp only [SR] at hs
  rename_i m' a' k'
  cases m' <;> simp only [SR] at hs
  simp only [Sem.runT] at e
  cases hc : w.cell? a with
  | some v =>
   obtain ⟨v', _, hv⟩ := hw.cell hs.1 hc
   simp only [hc] at e
   exact ih v (hs.2 v v' hv) hw e
  | none =>
   obtain ⟨o, o', h1, _, h3⟩ := hw.blk _ _ hs.1.1
   rcases h3 with ⟨xs, t, fz, ys, gz, rfl, _, _, _⟩ | ⟨x, x', l, rfl, _, _⟩ <;> simp [hc, World.farLoad, h1, World.noCell] at e <;> (rw [← e.1.1]; trivial)
 | store m a v k ih =>
  intro s' p w u es es1 h w1 hs hw e
  cases m <;> cases s' <;> try simp only [SR] at hs
  rename_i m' a' v' k'
  cases m' <;> simp only [SR] at hs
  cases hc : w.cell? a with
  | some x =>
   by_cases o : OneV v
   ·cases hf : w.frozen? a with
    | false =>
     rw [runT_store o hc hf] at e
     exact ih hs.2.2 (hw.set hs.1 hs.2.1 hc) e
    | true =>
     cases v with
     | agg c => exact absurd rfl (o.1 c)
     | tuple c => exact absurd rfl (o.2 c)
     | _ => simp [Sem.runT, hc, hf] at e; rw [← e.1.1]; trivial
   ·cases v with
    | agg c => simp [Sem.runT] at e; rw [← e.1.1]; trivial
    | tuple c => simp [Sem.runT] at e; rw [← e.1.1]; trivial
    | _ => exact absurd ⟨fun _ => by simp, fun _ => by simp⟩ o
  | none =>
   obtain ⟨o, o', h1, _, h3⟩ := hw.blk _ _ hs.1.1
   rcases h3 with ⟨xs, t, fz, ys, gz, rfl, _, _, _⟩ | ⟨x, x', l, rfl, _, _⟩ <;> cases v <;> simp [Sem.runT, hc, World.farStore, h1, World.noCell] at e <;> (rw [← e.1.1]; trivial)
 | new o k ih =>
  intro s' p w u es es1 h w1 hs hw e
  cases s' <;> simp only [SR] at hs
  obtain ⟨hl, hk⟩ := hs
  simp only [Sem.runT] at e
  exact ih _ (hk _ _ hw.big hw.fresh.1 hw.fresh.2) (new_eff hw hl).wr e
 | choose q k ih =>
  intro s' p w u es es1 h w1 hs hw e
  cases s' <;> simp only [SR] at hs
  simp only [Sem.runT] at e
  split at e
  ·exact ih _ (hs.2 _) hw e
  ·exact ih _ (hs.2 _) (drew_eff hw).wr e
 | program k ih =>
  intro s' p w u es es1 h w1 hs hw e
  cases s' <;> simp only [SR] at hs <;> simp only [Sem.runT] at e
  all_goals first
   | exact hs.halts e
   | (rcases hs with hs | hs
      ·exact ih P hs.1 hw e
      ·exact hs.halts e)
 | mark m k ih =>
  intro s' p w u es es1 h w1 hs hw e
  cases s' <;> simp only [SR] at hs
  simp only [Sem.runT] at e
  exact ih hs.2.2 hw e
 | shape r k ih =>
  intro s' p w u es es1 h w1 hs hw e
  cases s' <;> simp only [SR] at hs
  simp only [Sem.runT] at e
  exact ih _ (hs.2 _) hw e
 | getObj r k ih =>
  intro s' p w u es es1 h w1 hs hw e
  cases s' <;> simp only [SR] at hs
  obtain ⟨o, o', h1, h2, h3⟩ := hw.blk _ _ hs.1
  rcases h3 with ⟨xs, t, fz, ys, gz, rfl, rfl, _, _⟩ | ⟨a, a', l, rfl, rfl, ha⟩
  ·simp only [Sem.runT, h1, Prod.mk.injEq, Result.halt.injEq] at e
   rw [← e.1.1]
   trivial
  ·simp only [Sem.runT, h1] at e
   exact ih _ (hs.2 a a' l ha) hw e
 | halt x =>
  intro s' p w u es es1 h w1 hs hw e
  have hs : okHalt x := by cases s' <;> simpa only [SR] using hs
  simp only [Sem.runT, Prod.mk.injEq, Result.halt.injEq] at e
  rw [← e.1.1]
  exact hs
 | frozen a k ih =>
  intro s' p w u es es1 h w1 hs hw e
  have hs : ∀ b, Dead P (k b) := by cases s' <;> simpa only [SR] using hs
  simp only [Sem.runT] at e
  exact (hs _).halts e
 | freeze a n k ih => intro s' p w u es es1 h w1 hs; cases s' <;> simp [SR] at hs
 | setObj r o k ih => intro s' p w u es es1 h w1 hs; cases s' <;> simp [SR] at hs
 | sys c k ih =>
  intro s' p w u es es1 h w1 hs hw e
  have hs : ∀ b, Dead P (k b) := by cases s' <;> simpa only [SR] using hs
  simp only [Sem.runT] at e
  exact (hs _).halts e
theorem sr_post {α β : Type} {Q : Ren → α → β → Prop} : ∀ (s : Sem α) {s' : Sem β} {p : Ren} {w u : World} {es es1 : Array Event} {a : α} {w1 : World}, SR P Q p s s' → WR p w u → s.runT P w es = (.ok a w1, es1) → ∃ q b, Q q a b := by
 intro s
 induction s with
 | pure a =>
  intro s' p w u es es1 a w1 hs _ h
  cases s' <;> simp only [SR] at hs
  simp only [Sem.runT, Prod.mk.injEq, Result.ok.injEq] at h
  rw [← h.1.1]
  exact ⟨_, _, hs⟩
 | load m a k ih =>
  intro s' p w u es es1 r w1 hs hw h
  cases m <;> cases s' <;> try simp only [SR] at hs
  rename_i m' a' k'
  cases m' <;> simp only [SR] at hs
  simp only [Sem.runT] at h
  cases hc : w.cell? a with
  | some v =>
   obtain ⟨v', _, hv⟩ := hw.cell hs.1 hc
   simp only [hc] at h
   exact ih v (hs.2 v v' hv) hw h
  | none =>
   exact (far_load hw hs.1 hc h).elim
 | store m a v k ih =>
  intro s' p w u es es1 r w1 hs hw h
  cases m <;> cases s' <;> try simp only [SR] at hs
  rename_i m' a' v' k'
  cases m' <;> simp only [SR] at hs
  cases hc : w.cell? a with
  | some x =>
   obtain ⟨o, hf⟩ := store_ok hc h
   rw [runT_store o hc hf] at h
   exact ih hs.2.2 (hw.set hs.1 hs.2.1 hc) h
  | none =>
   exact (far_store hw hs.1 hc h).elim
 | new o k ih =>
  intro s' p w u es es1 r w1 hs hw h
  cases s' <;> simp only [SR] at hs
  obtain ⟨hl, hk⟩ := hs
  simp only [Sem.runT] at h
  exact ih _ (hk _ _ hw.big hw.fresh.1 hw.fresh.2) (new_eff hw hl).wr h
 | choose q k ih =>
  intro s' p w u es es1 r w1 hs hw h
  cases s' <;> simp only [SR] at hs
  simp only [Sem.runT] at h
  split at h
  ·exact ih _ (hs.2 _) hw h
  ·exact ih _ (hs.2 _) (drew_eff hw).wr h
 | program k ih =>
  intro s' p w u es es1 r w1 hs hw h
  cases s' <;> simp only [SR] at hs <;> simp only [Sem.runT] at h
  all_goals first
   | exact absurd h hs.run
   | (rcases hs with hs | hs
      ·exact ih P hs.1 hw h
      ·exact absurd h hs.run)
 | mark m k ih =>
  intro s' p w u es es1 r w1 hs hw h
  cases s' <;> simp only [SR] at hs
  simp only [Sem.runT] at h
  exact ih hs.2.2 hw h
 | shape r k ih =>
  intro s' p w u es es1 x w1 hs hw h
  cases s' <;> simp only [SR] at hs
  simp only [Sem.runT] at h
  exact ih _ (hs.2 _) hw h
 | getObj r k ih =>
  intro s' p w u es es1 x w1 hs hw h
  cases s' <;> simp only [SR] at hs
  obtain ⟨o, o', h1, h2, h3⟩ := hw.blk _ _ hs.1
  rcases h3 with ⟨xs, t, fz, ys, gz, rfl, rfl, _, _⟩ | ⟨a, a', l, rfl, rfl, ha⟩
  ·simp only [Sem.runT, h1, Prod.mk.injEq, reduceCtorEq, false_and] at h
  ·simp only [Sem.runT, h1] at h
   exact ih _ (hs.2 a a' l ha) hw h
 | halt x => intro s' p w u es es1 r w1 hs hw h; simp [Sem.runT] at h
 | frozen a k ih =>
  intro s' p w u es es1 r w1 hs hw h
  have hs : ∀ b, Dead P (k b) := by cases s' <;> simpa only [SR] using hs
  simp only [Sem.runT] at h
  exact absurd h (hs _).run
 | freeze a n k ih => intro s' p w u es es1 r w1 hs; cases s' <;> simp [SR] at hs
 | setObj r o k ih => intro s' p w u es es1 r w1 hs; cases s' <;> simp [SR] at hs
 | sys c k ih =>
  intro s' p w u es es1 r w1 hs hw h
  have hs : ∀ b, Dead P (k b) := by cases s' <;> simpa only [SR] using hs
  simp only [Sem.runT] at h
  exact absurd h (hs _).run
end
end Go.Proofs.Ytpeoabopeihadaa.Sim
/- Bodies, frames and stacks held against one another, and one step of them. No program of the project in this text. -/
namespace Go.Proofs.Ytpeoabopeihadaa.Sim
open Go
section
variable [Glob] {P : Program} {p : Ren}
def deadLoad (P : Program) : Op → Bool
 | .load t (.global g) => Glob.dead g && (match P.underlying t with | some (.interface _) => true | _ => false)
 | _ => false
def opsOk (P : Program) (ops : Array Oper) : Bool := ops.toList.all (fun o => opOk P o.op || deadLoad P o.op)
def codeOk (P : Program) : Code → Bool
 | .region _ ops _ => opsOk P ops
 | .seq a b => codeOk P a && codeOk P b
 | .cond c a b => operOk c && (codeOk P a && codeOk P b)
 | .block _ a => codeOk P a
 | .loop a => codeOk P a
 | .scope a => codeOk P a
 | .rangeFunc _ _ _ _ => false
 | _ => true
def itemOk (P : Program) : Item → Bool
 | .code c => codeOk P c
 | .inBlock _ => true
 | .inLoop a => codeOk P a
 | .inScope a => codeOk P a
 | .inRegion ops _ => opsOk P ops
 | _ => false
def todoOk (P : Program) (k : List Item) : Bool := k.all (itemOk P)
theorem todo_cons {i : Item} {k : List Item} : todoOk P (i :: k) = true ↔ itemOk P i = true ∧ todoOk P k = true := by simp [todoOk]
def mkF (f : FuncId) (xs : Array Value) (k : List Item) (m : FrameMode) : Frame := { fn := f, tmps := xs, todo := k, defers := [], mode := m, kind := .normal }
def Codes (P : Program) : Prop := Hooks P ∧ ∀ f, Glob.ok f = true → ∃ fn c, P.funcs[f]? = some fn ∧ fn.body = some c ∧ codeOk P c = true ∧ (fn.name == "runtime.NumGoroutine") = false ∧ ∃ fn2, (co P).funcs[f]? = some fn2 ∧ fn2.body.isNone = false ∧ (fn2.name == "runtime.NumGoroutine") = false ∧ (Glob.cut f = false → fn2 = fn) ∧ ∀ g : FuncId, ((co P).funcs[g]?).any (fun f : Func => f.norace) = (P.funcs[g]?).any (fun f : Func => f.norace)
theorem Codes.bodies (h : Codes P) : Bodies P := ⟨h.1, fun f o => by
 obtain ⟨fn, c, h1, h2, _, h4, fn2, h5, h6, h7, _⟩ := h.2 f o
 exact ⟨⟨fn, h1, by simp [h2], h4⟩, fn2, h5, h6, h7⟩⟩
def FR (P : Program) (p : Ren) (a b : Frame) : Prop := ∃ f xs ys k m, a = mkF f xs k m ∧ b = mkF f ys k m ∧ Glob.ok f = true ∧ LR (V p) xs.toList ys.toList ∧ todoOk P k = true ∧ (m = .run ∨ m = .returning)
theorem FR.le {p q : Ren} (l : Le p q) {a b : Frame} (h : FR P p a b) : FR P q a b := by
 obtain ⟨f, xs, ys, k, m, h1, h2, h3, h4, h5, h6⟩ := h
 exact ⟨f, xs, ys, k, m, h1, h2, h3, LR.mono (fun _ _ z => z.le l) h4, h5, h6⟩
def SKR (P : Program) (p : Ren) : List Frame → List Frame → Prop
 | [], [] => True
 | a :: as, b :: bs => FR P p a b ∧ SKR P p as bs
 | _, _ => False
theorem SKR.le {p q : Ren} (l : Le p q) : ∀ {as bs : List Frame}, SKR P p as bs → SKR P q as bs
 | [], [], _ => trivial
 | _ :: _, _ :: _, h => ⟨h.1.le l, SKR.le l h.2⟩
theorem LR.getD {R : Value → Value → Prop} {xs ys : Array Value} (h : LR R xs.toList ys.toList) (i : Nat) {d : Value} (hd : R d d) : R (xs.getD i d) (ys.getD i d) := by
 cases e : xs[i]? with
 | none =>
  have e2 := LR.none h e
  simp only [Array.getD_eq_getD_getElem?, e, e2, Option.getD]
  exact hd
 | some x =>
  obtain ⟨y, e2, k⟩ := LR.arr h e
  simp only [Array.getD_eq_getD_getElem?, e, e2, Option.getD]
  exact k
theorem V.undef (p : Ren) : V p undef undef := ⟨1, .inl rfl⟩
def GP (p : Ren) : Prop := ∀ g, Glob.glob g = true → p g = some g
theorem GP.le {p q : Ren} (h : GP p) (l : Le p q) : GP q := fun g e => l _ _ (h g e)
theorem eval_rel (hg : GP p) {f : FuncId} {xs ys : Array Value} {k : List Item} {m : FrameMode} (h : LR (V p) xs.toList ys.toList) : ER2 p (mkF f xs k m).eval (mkF f ys k m).eval := by
 intro x o
 cases x with
 | tmp t => exact LR.getD h t (V.undef p)
 | const v => exact plain_v o
 | global g => exact V.pointer (a := some _) (b := some _) ⟨hg g o, rfl, rfl, fun _ => rfl⟩
 | func f => exact V.func (f := .func f) (by simpa [operOk, okFn] using o) (by trivial) (by trivial)
def Sh (f : FuncId) (bs : List Frame) (b1 : Frame) (bs1 : List Frame) : Prop := (b1.fn = f ∧ bs1 = bs) ∨ (∃ x : Frame, x.fn = f ∧ bs1 = x :: bs) ∨ ∃ y, bs = y :: bs1 ∧ b1.fn = y.fn
def CB (P : Program) (f : FuncId) (bs0 : List Frame) (b b2 : Frame) : Prop := (b2 = b ∧ (b.fn = f ∨ Glob.cut b.fn = false ∨ ∃ y ∈ bs0, b.fn = y.fn)) ∨ ∃ g ys, (Glob.cut g = true ∧ ys.size = ary g) ∧ b = Frame.enter P g ys .normal ∧ b2 = Frame.enter (co P) g ys .normal
structure Went (P : Program) (p : Ren) (w u : World) (cs cs' : List Frame) (f : FuncId) (bs0 : List Frame) (s s' s'' : GStep) : Prop where
 went : ∃ q a b as bs w1 u1 es es', s = .go { frame := a, callers := as ++ cs, status := .running, dying := none } w1 es ∧ s' = .go { frame := b, callers := bs ++ cs', status := .running, dying := none } u1 es' ∧
  FR P q a b ∧ SKR P q as bs ∧ Eff p q w w1 u u1 ∧ EL q (Fp p w) es.toList es'.toList ∧ (Glob.cut f = false → ∃ b2, s'' = .go { frame := b2, callers := bs ++ cs', status := .running, dying := none } u1 es' ∧ CB P f bs0 b b2 ∧ Sh f bs0 b bs)
def Lost (fr : Frame) (cs : List Frame) (s : GStep) : Prop := (∃ o w es, s = .ended o w es) ∨ ∃ c w es, s = .go { frame := fr.raise c, callers := cs, status := .running, dying := none } w es
theorem went_to {f : FuncId} {xs ys : Array Value} {k : List Item} {m : FrameMode} {w u : World} {as bs cs cs' : List Frame} (o : Glob.ok f = true) (h : LR (V p) xs.toList ys.toList) (hk : todoOk P k = true) (hm : m = .run ∨ m = .returning) (hs : SKR P p as bs) (hw : WR p w u) :
  Went P p w u cs cs' f bs (.go { frame := mkF f xs k m, callers := as ++ cs, status := .running, dying := none } w) (.go { frame := mkF f ys k m, callers := bs ++ cs', status := .running, dying := none } u) (.go { frame := mkF f ys k m, callers := bs ++ cs', status := .running, dying := none } u) :=
 ⟨p, _, _, as, bs, w, u, #[], #[], rfl, rfl, ⟨f, xs, ys, k, m, rfl, rfl, o, h, hk, hm⟩, hs, Eff.refl hw, trivial, fun _ => ⟨_, rfl, .inl ⟨rfl, .inl rfl⟩, .inl ⟨rfl, rfl⟩⟩⟩
theorem exit_ok {id : Nat} : ∀ {k r : List Item}, todoOk P k = true → exitTo id k = some r → todoOk P r = true
 | [], r, _, e => by simp [exitTo] at e
 | i :: k, r, h, e => by
  have hk := (todo_cons.1 h).2
  cases i with
  | inBlock j =>
   simp only [exitTo] at e
   split at e
   ·cases e; exact hk
   ·exact exit_ok hk e
  | _ => simp only [exitTo] at e; exact exit_ok hk e
theorem label_ok : ∀ {c r : Code} {l : Nat}, codeOk P c = true → findLabel c l = some r → codeOk P r = true
 | .seq a b, r, l, h, e => by
  simp only [codeOk, Bool.and_eq_true] at h
  simp only [findLabel] at e
  split at e
  ·next x hx =>
   cases e
   simp only [codeOk, Bool.and_eq_true]
   exact ⟨label_ok h.1 hx, h.2⟩
  ·exact label_ok h.2 e
 | .label _, r, l, h, e => by
  simp only [findLabel] at e
  split at e
  ·cases e; rfl
  ·cases e
 | .skip, r, l, h, e => by simp [findLabel] at e
 | .region _ _ _, r, l, h, e => by simp [findLabel] at e
 | .cond _ _ _, r, l, h, e => by simp [findLabel] at e
 | .block _ _, r, l, h, e => by simp [findLabel] at e
 | .loop _, r, l, h, e => by simp [findLabel] at e
 | .scope _, r, l, h, e => by simp [findLabel] at e
 | .exit _, r, l, h, e => by simp [findLabel] at e
 | .goto _, r, l, h, e => by simp [findLabel] at e
 | .ret, r, l, h, e => by simp [findLabel] at e
 | .refuse _, r, l, h, e => by simp [findLabel] at e
 | .rangeFunc _ _ _ _, r, l, h, e => by simp [findLabel] at e
theorem goto_ok {l : Nat} : ∀ {k r : List Item}, todoOk P k = true → gotoIn l k = some r → todoOk P r = true
 | [], r, _, e => by simp [gotoIn] at e
 | i :: k, r, h, e => by
  have hk := todo_cons.1 h
  cases i with
  | inScope c =>
   simp only [gotoIn] at e
   split at e
   ·next x hx =>
    cases e
    exact todo_cons.2 ⟨label_ok hk.1 hx, h⟩
   ·exact goto_ok hk.2 e
  | _ => simp only [gotoIn] at e; exact goto_ok hk.2 e
end
end Go.Proofs.Ytpeoabopeihadaa.Sim
/- One step of a running body, of two stacks held against one another. No program of the project in this text. -/
namespace Go.Proofs.Ytpeoabopeihadaa.Sim
open Go
section
variable [Glob] {P : Program} {p : Ren}
theorem V.yes {x y : Value} (h : V p x y) (b : Bool) : x = .bool b ↔ y = .bool b := by
 obtain ⟨n, h⟩ := h.split
 constructor
 ·intro e
  subst e
  cases y <;> simp only [VR] at h
  rw [h]
 ·intro e
  subst e
  cases x <;> simp only [VR] at h
  rw [h]
theorem yielded_rel (ops : Array Oper) {xs ys : Array Value} (h : LR (V p) xs.toList ys.toList) : yielded ops xs = yielded ops ys := by
 funext j
 unfold yielded
 cases e : (ops[j]?).bind (·.dst) with
 | none => rfl
 | some d =>
  simp only [Option.bind_some]
  cases e1 : xs[d]? with
  | none => rw [LR.none h e1]
  | some x =>
   obtain ⟨y, e2, k⟩ := LR.arr h e1
   rw [e2]
   obtain ⟨n, k⟩ := k.split
   cases x <;> cases y <;> first | rfl | (simp only [VR] at k; done) | (simp only [VR] at k; subst k; rfl)
theorem ops_at {ops : Array Oper} (h : opsOk P ops = true) {i : Nat} {o : Oper} (e : ops[i]? = some o) : opOk P o.op = true ∨ deadLoad P o.op = true := by
 rw [← Array.getElem?_toList] at e
 have := List.all_eq_true.1 h o (List.mem_of_getElem? e)
 simpa using this
theorem dead_run {w u : World} (hw : WR p w u) {r : Operand → Value} (hr : ∀ g, r (.global g) = .pointer (some ⟨g, 0, none⟩)) {o : Oper} (h : deadLoad P o.op = true) : ∃ m, (execOp r o).runT P w #[] = (.halt (.stuck m) w, #[]) := by
 unfold deadLoad at h
 split at h
 ·next t g ho =>
  simp only [Bool.and_eq_true] at h
  obtain ⟨_, tt, fz, hh⟩ := hw.dead g h.1
  cases hu : P.underlying t with
  | none => rw [hu] at h; simp at h
  | some c =>
   rw [hu] at h
   cases c <;> simp at h
   have e : execOp r o = (do pure (.value (← Instr.loadAt t (.pointer (some ⟨g, 0, none⟩))))) := by simp only [execOp, ho, hr]
   have c0 : w.cell? ⟨g, 0, none⟩ = none := by simp [World.cell?, hh]
   obtain ⟨m, c1⟩ : ∃ m, w.farLoad P ⟨g, 0, none⟩ (Mode.plain == .atomic) = .error (.stuck m) := by
    simp only [World.farLoad, World.noCell, hh]
    exact ⟨_, rfl⟩
   refine ⟨m, ?_⟩
   rw [e]
   simp only [Instr.loadAt, Instr.sureAddr, loadVar, isAgg, underlying, program, bind, Sem.bind, pure, Sem.runT, hu, load, Bool.false_eq_true, if_false, c0, c1]
 ·cases h
theorem finish_rel {f : FuncId} {xs ys : Array Value} {ops : Array Oper} {i : Nat} {rest : List Nat} {k : List Item} {v u : Value} (h : LR (V p) xs.toList ys.toList) (hv : V p v u) :
  ∃ zs us, (mkF f xs (.inRegion ops (i :: rest) :: k) .run).finish v = mkF f zs (.inRegion ops rest :: k) .run ∧ (mkF f ys (.inRegion ops (i :: rest) :: k) .run).finish u = mkF f us (.inRegion ops rest :: k) .run ∧ LR (V p) zs.toList us.toList := by
 unfold Frame.finish mkF
 dsimp only
 cases e : (ops[i]?).bind (·.dst) with
 | none => exact ⟨xs, ys, rfl, rfl, h⟩
 | some d =>
  refine ⟨_, _, rfl, rfl, ?_⟩
  rw [toList_set, toList_set]
  exact LR.set _ h hv
theorem fold_rel {q : Ren} {G : Nat → Prop} {F : Bool × Array Event → Event → Bool × Array Event} (hF : ∀ x y e e', x.1 = y.1 ∧ EL q G x.2.toList y.2.toList → ER q G e e' → (F x e).1 = (F y e').1 ∧ EL q G (F x e).2.toList (F y e').2.toList) :
  ∀ {l m : List Event} {x y : Bool × Array Event}, EL q G l m → x.1 = y.1 ∧ EL q G x.2.toList y.2.toList → (l.foldl F x).1 = (m.foldl F y).1 ∧ EL q G (l.foldl F x).2.toList (m.foldl F y).2.toList
 | [], [], _, _, _, k => k
 | e :: l, e' :: m, x, y, h, k => fold_rel hF (l := l) (m := m) h.2 (hF x y e e' k h.1)
theorem seen_rel {q : Ren} {G : Nat → Prop} (fn : FuncId) {es fs : Array Event} (h : EL q G es.toList fs.toList) : EL q G (seen P fn es).toList (seen P fn fs).toList := by
 unfold seen
 dsimp only
 rw [← Array.foldl_toList, ← Array.foldl_toList]
 refine (fold_rel ?hstep h ?hinit).2
 case hinit => exact ⟨rfl, trivial⟩
 rintro ⟨b, K⟩ ⟨b', K'⟩ e e' ⟨rfl, k⟩ h1
 have push : EL q G (K.push e).toList (K'.push e').toList := by
  rw [Array.toList_push, Array.toList_push]
  exact EL.append k ⟨h1, trivial⟩
 rcases h1 with ⟨a, a', e1, e2, _, _⟩ | ⟨⟨mk, mo, e1⟩, e2⟩ | ⟨c, d, e1, e2, _⟩
 ·rw [e1, e2] at push ⊢
  cases b
  ·exact ⟨rfl, push⟩
  ·exact ⟨rfl, k⟩
 ·subst e2
  rw [e1] at push ⊢
  cases mk with
  | extern g => exact ⟨rfl, k⟩
  | noRoom =>
   cases b
   ·exact ⟨rfl, push⟩
   ·exact ⟨rfl, push⟩
  | _ => exact mo.elim
 ·rw [e1, e2] at push ⊢
  cases b
  ·exact ⟨rfl, push⟩
  ·exact ⟨rfl, k⟩
theorem LR.reps {q : Ren} : ∀ n : Nat, LR (V q) (List.replicate n undef) (List.replicate n undef)
 | 0 => trivial
 | n + 1 => ⟨V.undef q, LR.reps n⟩
theorem enter_rel {q : Ren} (hc : Codes P) {g : FuncId} (o : Glob.ok g = true) {xs ys : Array Value} (h : LR (V q) xs.toList ys.toList) :
  ∃ zs us c, Frame.enter P g xs .normal = mkF g zs [.code c] .run ∧ Frame.enter P g ys .normal = mkF g us [.code c] .run ∧ LR (V q) zs.toList us.toList ∧ todoOk P [.code c] = true := by
 obtain ⟨fn, c, h1, h2, h3, _⟩ := hc.2 g o
 have hl := LR.len h
 simp only [Array.length_toList] at hl
 refine ⟨xs ++ Array.replicate (fn.ntmps - xs.size) undef, ys ++ Array.replicate (fn.ntmps - ys.size) undef, c, ?_, ?_, ?_, ?_⟩
 ·simp [Frame.enter, mkF, h1, h2]
 ·simp [Frame.enter, mkF, h1, h2]
 ·rw [← hl, Array.toList_append, Array.toList_append, Array.toList_replicate]
  exact LR.append h (LR.reps _)
 ·exact todo_cons.2 ⟨h3, rfl⟩
theorem seen_co (hc : Codes P) {g : FuncId} (o : Glob.ok g = true) (f : FuncId) (es : Array Event) : seen (co P) f es = seen P f es := by
 obtain ⟨_, _, _, _, _, _, _, _, _, _, _, hn⟩ := hc.2 g o
 unfold seen
 simp only [hn]
theorem enter_cb (hc : Codes P) {g : FuncId} (o : Glob.ok g = true) (f : FuncId) (bs0 : List Frame) (ys : Array Value) (hn : Glob.cut g = true → ys.size = ary g) : CB P f bs0 (Frame.enter P g ys .normal) (Frame.enter (co P) g ys .normal) := by
 cases e : Glob.cut g with
 | true => exact .inr ⟨g, ys, ⟨e, hn e⟩, rfl, rfl⟩
 | false =>
  obtain ⟨fn, _, h1, _, _, _, fn2, h2, _, _, h3, _⟩ := hc.2 g o
  rw [h3 e] at h2
  refine .inl ⟨?_, .inr (.inl e)⟩
  simp only [Frame.enter, h1, h2]
theorem apply_rel (hz : Zero P) (hG : Glob.size = P.globals.size) (hc : Codes P) (hg : GP p) {w u : World} (hw : WR p w u) {main main' : Bool} {f : FuncId} (o : Glob.ok f = true) {xs ys : Array Value} (h : LR (V p) xs.toList ys.toList)
  {ops : Array Oper} {i : Nat} {rest : List Nat} {k : List Item} (hk : todoOk P (.inRegion ops rest :: k) = true) {as bs cs cs' : List Frame} (hs : SKR P p as bs) {s s' : Sem Next} (hx : SR P NX p s s') (al : ∀ g w1 es, stepG.apply P true (mkF f xs (.inRegion ops (i :: rest) :: k) .run) (as ++ cs) none s w = .go g w1 es → ∀ i, w.drawn + i < w1.drawn → w.tape (w.drawn + i) = u.tape (u.drawn + i)) :
  Went P p w u cs cs' f bs (stepG.apply P true (mkF f xs (.inRegion ops (i :: rest) :: k) .run) (as ++ cs) none s w) (stepG.apply P true (mkF f ys (.inRegion ops (i :: rest) :: k) .run) (bs ++ cs') none s' u) (stepG.apply (co P) true (mkF f ys (.inRegion ops (i :: rest) :: k) .run) (bs ++ cs') none s' u) ∨
   Lost (mkF f xs (.inRegion ops (i :: rest) :: k) .run) (as ++ cs) (stepG.apply P true (mkF f xs (.inRegion ops (i :: rest) :: k) .run) (as ++ cs) none s w) := by
 cases hr : s.runT P w #[] with
 | mk r es =>
 cases r with
 | ok nx w1 =>
  refine .inl ?_
  have al : ∀ i, w.drawn + i < w1.drawn → w.tape (w.drawn + i) = u.tape (u.drawn + i) := by
   obtain ⟨q, ny, e3⟩ := sr_post s hx hw hr
   cases nx with
   | value v => exact al _ w1 _ (by simp only [stepG.apply, if_true, hr, GStep.after]; rfl)
   | skip => exact al _ w1 _ (by simp only [stepG.apply, if_true, hr, GStep.after]; rfl)
   | enter g args => exact al _ w1 _ (by simp only [stepG.apply, if_true, hr, GStep.after]; rfl)
   | _ => cases ny <;> simp only [NX] at e3
  obtain ⟨q, ny, u1, ds, ds', ea, e2, e3, e4, e5⟩ := sr_runs s (fs := #[]) hx hw hr al
  have e1 := ea P (.inl rfl)
  have e6 := ea (co P) (.inr rfl)
  have e7 := seen_co hc o f ((#[] : Array Event) ++ ds'.toArray)
  have e5 : EL q (Fp p w) es.toList ((#[] : Array Event) ++ ds'.toArray).toList := by
   rw [e2]
   simpa using e5
  have h5 := seen_rel (P := P) f e5
  have hs := hs.le e4.le
  have h := LR.mono (fun _ _ k => V.le e4.le k) h
  cases nx with
  | value v =>
   cases ny <;> simp only [NX] at e3
   rename_i v'
   obtain ⟨zs, us, f1, f2, f3⟩ := finish_rel (p := q) (f := f) (ops := ops) (i := i) (rest := rest) (k := k) h e3
   refine ⟨q, _, _, as, bs, w1, u1, _, _, ?_, ?_, ⟨f, zs, us, _, .run, f1, f2, o, f3, hk, .inl rfl⟩, hs, e4, h5, fun _ => ⟨_, ?_, .inl ⟨rfl, .inl (by rw [f2]; rfl)⟩, .inl ⟨by rw [f2]; rfl, rfl⟩⟩⟩
   ·simp only [stepG.apply, if_true, hr, GStep.after]; rfl
   ·simp only [stepG.apply, if_true, e1, GStep.after]; rfl
   ·rw [← e7]; simp only [stepG.apply, if_true, e6, GStep.after]; rfl
  | skip =>
   cases ny <;> simp only [NX] at e3
   obtain ⟨zs, us, f1, f2, f3⟩ := finish_rel (p := q) (f := f) (ops := ops) (i := i) (rest := rest) (k := k) h (V.undef q)
   refine ⟨q, _, _, as, bs, w1, u1, _, _, ?_, ?_, ⟨f, zs, us, _, .run, f1, f2, o, f3, hk, .inl rfl⟩, hs, e4, h5, fun _ => ⟨_, ?_, .inl ⟨rfl, .inl (by rw [f2]; rfl)⟩, .inl ⟨by rw [f2]; rfl, rfl⟩⟩⟩
   ·simp only [stepG.apply, if_true, hr, GStep.after]; rfl
   ·simp only [stepG.apply, if_true, e1, GStep.after]; rfl
   ·rw [← e7]; simp only [stepG.apply, if_true, e6, GStep.after]; rfl
  | enter g args =>
   cases ny <;> simp only [NX] at e3
   rename_i g' args'
   obtain ⟨rfl, og, ha, hn⟩ := e3
   obtain ⟨zs, us, c, f1, f2, f3, f4⟩ := enter_rel hc og ha
   have top : FR P q (mkF f xs (.inRegion ops (i :: rest) :: k) .run) (mkF f ys (.inRegion ops (i :: rest) :: k) .run) := ⟨f, xs, ys, _, .run, rfl, rfl, o, h, by
    have := todo_cons.1 hk
    exact todo_cons.2 this, .inl rfl⟩
   refine ⟨q, _, _, _ :: as, _ :: bs, w1, u1, _, _, ?_, ?_, ⟨g, zs, us, [.code c], .run, f1, f2, og, f3, f4, .inl rfl⟩, ⟨top, hs⟩, e4, h5, fun _ => ⟨_, ?_, enter_cb hc og _ _ args' hn, .inr (.inl ⟨_, rfl, rfl⟩)⟩⟩
   ·simp only [stepG.apply, if_true, hr, GStep.after]; rfl
   ·simp only [stepG.apply, if_true, e1, GStep.after]; rfl
   ·rw [← e7]; simp only [stepG.apply, if_true, e6, GStep.after]; rfl
  | _ => cases ny <;> simp only [NX] at e3
 | halt x w1 =>
  refine .inr ?_
  have ok := sr_halts s hx hw hr
  cases x with
  | panic v =>
   refine .inr ⟨?_, ?_, ?_, ?hh⟩
   case hh =>
    simp only [stepG.apply, if_true, hr, GStep.after]
    rfl
  | stuck m =>
   refine .inl ⟨?_, ?_, ?_, ?hh⟩
   case hh =>
    simp only [stepG.apply, if_true, hr, GStep.after]
    rfl
  | unsupported m =>
   cases m with
   | initOrder _ => exact ok.elim
   | _ =>
    refine .inl ⟨?_, ?_, ?_, ?hh⟩
    case hh =>
     simp only [stepG.apply, if_true, hr, GStep.after]
     rfl
  | _ => exact ok.elim
end
end Go.Proofs.Ytpeoabopeihadaa.Sim
/- One step of two stacks held against one another. No program of the project in this text. -/
namespace Go.Proofs.Ytpeoabopeihadaa.Sim
open Go
section
variable [Glob] {P : Program} {p : Ren}
def gor (a : Frame) (cs : List Frame) : Goroutine := { frame := a, callers := cs, status := .running, dying := none }
theorem lost_ended {fr : Frame} {cs : List Frame} {o : Outcome} {w : World} {es : Array Event} : Lost fr cs (.ended o w es) := .inl ⟨_, _, _, rfl⟩
theorem step_run (hz : Zero P) (hG : Glob.size = P.globals.size) (hc : Codes P) (hg : GP p) {w u : World} (hw : WR p w u) {main main' : Bool} {f : FuncId} (o : Glob.ok f = true) {xs ys : Array Value} (h : LR (V p) xs.toList ys.toList)
  {k : List Item} (hk : todoOk P k = true) {as bs cs cs' : List Frame} (hs : SKR P p as bs) (al : ∀ g w1 es, stepG P main (gor (mkF f xs k .run) (as ++ cs)) w = .go g w1 es → ∀ i, w.drawn + i < w1.drawn → w.tape (w.drawn + i) = u.tape (u.drawn + i)) :
  Went P p w u cs cs' f bs (stepG P main (gor (mkF f xs k .run) (as ++ cs)) w) (stepG P main' (gor (mkF f ys k .run) (bs ++ cs')) u) (stepG (co P) main' (gor (mkF f ys k .run) (bs ++ cs')) u) ∨
   Lost (mkF f xs k .run) (as ++ cs) (stepG P main (gor (mkF f xs k .run) (as ++ cs)) w) := by
 cases k with
 | nil => exact .inl (went_to (k := []) (m := .returning) o h hk (.inr rfl) hs hw)
 | cons it k =>
  obtain ⟨h1, h2⟩ := todo_cons.1 hk
  cases it with
  | inBlock _ => exact .inl (went_to (k := k) (m := .run) o h h2 (.inl rfl) hs hw)
  | inScope _ => exact .inl (went_to (k := k) (m := .run) o h h2 (.inl rfl) hs hw)
  | inLoop a => exact .inl (went_to (k := .code a :: .inLoop a :: k) (m := .run) o h (todo_cons.2 ⟨h1, hk⟩) (.inl rfl) hs hw)
  | code c =>
   cases c with
   | skip => exact .inl (went_to (k := k) (m := .run) o h h2 (.inl rfl) hs hw)
   | label _ => exact .inl (went_to (k := k) (m := .run) o h h2 (.inl rfl) hs hw)
   | ret => exact .inl (went_to (k := .code .ret :: k) (m := .returning) o h hk (.inr rfl) hs hw)
   | seq a b =>
    simp only [itemOk, codeOk, Bool.and_eq_true] at h1
    exact .inl (went_to (k := .code a :: .code b :: k) (m := .run) o h (todo_cons.2 ⟨h1.1, todo_cons.2 ⟨h1.2, h2⟩⟩) (.inl rfl) hs hw)
   | cond c a b =>
    simp only [itemOk, codeOk, Bool.and_eq_true] at h1
    have hv := eval_rel (f := f) (k := .code (.cond c a b) :: k) (m := .run) hg h c h1.1
    cases e : (mkF f xs (.code (.cond c a b) :: k) .run).eval c with
    | bool d =>
     have e2 := (hv.yes d).1 e
     cases d with
     | true =>
      have s1 : stepG P main (gor (mkF f xs (.code (.cond c a b) :: k) .run) (as ++ cs)) w = .go (gor (mkF f xs (.code a :: k) .run) (as ++ cs)) w := by
       simp only [stepG, stepG.exec, gor, mkF] at e ⊢
       simp only [e]
       rfl
      have s2 : stepG P main' (gor (mkF f ys (.code (.cond c a b) :: k) .run) (bs ++ cs')) u = .go (gor (mkF f ys (.code a :: k) .run) (bs ++ cs')) u := by
       simp only [stepG, stepG.exec, gor, mkF] at e2 ⊢
       simp only [e2]
       rfl
      have s3 : stepG (co P) main' (gor (mkF f ys (.code (.cond c a b) :: k) .run) (bs ++ cs')) u = .go (gor (mkF f ys (.code a :: k) .run) (bs ++ cs')) u := by
       simp only [stepG, stepG.exec, gor, mkF] at e2 ⊢
       simp only [e2]
       rfl
      rw [s1, s2, s3]
      exact .inl (went_to (k := .code a :: k) (m := .run) o h (todo_cons.2 ⟨h1.2.1, h2⟩) (.inl rfl) hs hw)
     | false =>
      have s1 : stepG P main (gor (mkF f xs (.code (.cond c a b) :: k) .run) (as ++ cs)) w = .go (gor (mkF f xs (.code b :: k) .run) (as ++ cs)) w := by
       simp only [stepG, stepG.exec, gor, mkF] at e ⊢
       simp only [e]
       rfl
      have s2 : stepG P main' (gor (mkF f ys (.code (.cond c a b) :: k) .run) (bs ++ cs')) u = .go (gor (mkF f ys (.code b :: k) .run) (bs ++ cs')) u := by
       simp only [stepG, stepG.exec, gor, mkF] at e2 ⊢
       simp only [e2]
       rfl
      have s3 : stepG (co P) main' (gor (mkF f ys (.code (.cond c a b) :: k) .run) (bs ++ cs')) u = .go (gor (mkF f ys (.code b :: k) .run) (bs ++ cs')) u := by
       simp only [stepG, stepG.exec, gor, mkF] at e2 ⊢
       simp only [e2]
       rfl
      rw [s1, s2, s3]
      exact .inl (went_to (k := .code b :: k) (m := .run) o h (todo_cons.2 ⟨h1.2.2, h2⟩) (.inl rfl) hs hw)
    | _ =>
     refine .inr ?_
     simp only [stepG, stepG.exec, gor, mkF] at e ⊢
     simp only [e]
     exact lost_ended
   | block id a => exact .inl (went_to (k := .code a :: .inBlock id :: k) (m := .run) o h (todo_cons.2 ⟨h1, todo_cons.2 ⟨rfl, h2⟩⟩) (.inl rfl) hs hw)
   | loop a => exact .inl (went_to (k := .code a :: .inLoop a :: k) (m := .run) o h (todo_cons.2 ⟨h1, todo_cons.2 ⟨h1, h2⟩⟩) (.inl rfl) hs hw)
   | scope a => exact .inl (went_to (k := .code a :: .inScope a :: k) (m := .run) o h (todo_cons.2 ⟨h1, todo_cons.2 ⟨h1, h2⟩⟩) (.inl rfl) hs hw)
   | exit id =>
    cases e : exitTo id k with
    | none =>
     refine .inr ?_
     simp only [stepG, stepG.exec, gor, mkF, e]
     exact lost_ended
    | some r =>
     have s1 : stepG P main (gor (mkF f xs (.code (.exit id) :: k) .run) (as ++ cs)) w = .go (gor (mkF f xs r .run) (as ++ cs)) w := by
      simp only [stepG, stepG.exec, gor, mkF, e]
      rfl
     have s2 : stepG P main' (gor (mkF f ys (.code (.exit id) :: k) .run) (bs ++ cs')) u = .go (gor (mkF f ys r .run) (bs ++ cs')) u := by
      simp only [stepG, stepG.exec, gor, mkF, e]
      rfl
     have s3 : stepG (co P) main' (gor (mkF f ys (.code (.exit id) :: k) .run) (bs ++ cs')) u = .go (gor (mkF f ys r .run) (bs ++ cs')) u := by
      simp only [stepG, stepG.exec, gor, mkF, e]
      rfl
     rw [s1, s2, s3]
     exact .inl (went_to (k := r) (m := .run) o h (exit_ok h2 e) (.inl rfl) hs hw)
   | goto l =>
    cases e : gotoIn l k with
    | none =>
     refine .inr ?_
     simp only [stepG, stepG.exec, gor, mkF, e]
     exact lost_ended
    | some r =>
     have s1 : stepG P main (gor (mkF f xs (.code (.goto l) :: k) .run) (as ++ cs)) w = .go (gor (mkF f xs r .run) (as ++ cs)) w := by
      simp only [stepG, stepG.exec, gor, mkF, e]
      rfl
     have s2 : stepG P main' (gor (mkF f ys (.code (.goto l) :: k) .run) (bs ++ cs')) u = .go (gor (mkF f ys r .run) (bs ++ cs')) u := by
      simp only [stepG, stepG.exec, gor, mkF, e]
      rfl
     have s3 : stepG (co P) main' (gor (mkF f ys (.code (.goto l) :: k) .run) (bs ++ cs')) u = .go (gor (mkF f ys r .run) (bs ++ cs')) u := by
      simp only [stepG, stepG.exec, gor, mkF, e]
      rfl
     rw [s1, s2, s3]
     exact .inl (went_to (k := r) (m := .run) o h (goto_ok h2 e) (.inl rfl) hs hw)
   | refuse _ => exact .inr lost_ended
   | rangeFunc _ _ _ _ => simp [itemOk, codeOk] at h1
   | region id ops draw =>
    cases draw with
    | false => exact .inl (went_to (k := .inRegion ops (List.range ops.size) :: k) (m := .run) o h (todo_cons.2 ⟨h1, h2⟩) (.inl rfl) hs hw)
    | true =>
     refine .inl ?_
     have a0 := al _ { w with drawn := w.drawn + 1 } _ rfl 0 (by show w.drawn + 0 < w.drawn + 1; omega)
     simp only [Nat.add_zero] at a0
     have s1 : stepG P main (gor (mkF f xs (.code (.region id ops true) :: k) .run) (as ++ cs)) w = .go (gor (mkF f xs (.inRegion ops (Region.schedule (P.follows .mixedOrders) ops (u.tape u.drawn (.order f id))) :: k) .run) (as ++ cs)) { w with drawn := w.drawn + 1 } := by
      rw [← a0]
      rfl
     have s2 : stepG P main' (gor (mkF f ys (.code (.region id ops true) :: k) .run) (bs ++ cs')) u = .go (gor (mkF f ys (.inRegion ops (Region.schedule (P.follows .mixedOrders) ops (u.tape u.drawn (.order f id))) :: k) .run) (bs ++ cs')) { u with drawn := u.drawn + 1 } := rfl
     have s3 : stepG (co P) main' (gor (mkF f ys (.code (.region id ops true) :: k) .run) (bs ++ cs')) u = .go (gor (mkF f ys (.inRegion ops (Region.schedule (P.follows .mixedOrders) ops (u.tape u.drawn (.order f id))) :: k) .run) (bs ++ cs')) { u with drawn := u.drawn + 1 } := rfl
     rw [s1, s2, s3]
     exact ⟨p, _, _, as, bs, _, _, #[], #[], rfl, rfl, ⟨f, xs, ys, _, .run, rfl, rfl, o, h, todo_cons.2 ⟨h1, h2⟩, .inl rfl⟩, hs, drew_eff hw, trivial, fun _ => ⟨_, rfl, .inl ⟨rfl, .inl rfl⟩, .inl ⟨rfl, rfl⟩⟩⟩
  | inRegion ops l =>
   cases l with
   | nil => exact .inl (went_to (k := k) (m := .run) o h h2 (.inl rfl) hs hw)
   | cons i rest =>
    have hy := yielded_rel ops h
    cases e : ((ops[i]?).map (Region.wanted · (yielded ops xs))).getD false with
    | false =>
     refine .inl ?_
     obtain ⟨zs, us, f1, f2, f3⟩ := finish_rel (p := p) (f := f) (ops := ops) (i := i) (rest := rest) (k := k) h (V.undef p)
     have s1 : stepG P main (gor (mkF f xs (.inRegion ops (i :: rest) :: k) .run) (as ++ cs)) w = .go (gor ((mkF f xs (.inRegion ops (i :: rest) :: k) .run).finish undef) (as ++ cs)) w := by
      simp only [stepG, stepG.exec, gor, mkF, e]
      rfl
     have s2 : stepG P main' (gor (mkF f ys (.inRegion ops (i :: rest) :: k) .run) (bs ++ cs')) u = .go (gor ((mkF f ys (.inRegion ops (i :: rest) :: k) .run).finish undef) (bs ++ cs')) u := by
      rw [hy] at e
      simp only [stepG, stepG.exec, gor, mkF, e]
      rfl
     have s3 : stepG (co P) main' (gor (mkF f ys (.inRegion ops (i :: rest) :: k) .run) (bs ++ cs')) u = .go (gor ((mkF f ys (.inRegion ops (i :: rest) :: k) .run).finish undef) (bs ++ cs')) u := by
      rw [hy] at e
      simp only [stepG, stepG.exec, gor, mkF, e]
      rfl
     rw [s1, s2, s3, f1, f2]
     exact went_to (k := .inRegion ops rest :: k) (m := .run) o f3 (todo_cons.2 ⟨h1, h2⟩) (.inl rfl) hs hw
    | true =>
     cases e1 : ops[i]? with
     | none => simp [e1] at e
     | some op =>
      have s1 : stepG P main (gor (mkF f xs (.inRegion ops (i :: rest) :: k) .run) (as ++ cs)) w = stepG.apply P true (mkF f xs (.inRegion ops (i :: rest) :: k) .run) (as ++ cs) none (execOp (mkF f xs (.inRegion ops (i :: rest) :: k) .run).eval op) w := by
       rw [e1] at e
       simp only [stepG, stepG.exec, gor, mkF, stepG.oper, Frame.oper?, e1]
       exact if_pos e
      have s2 : stepG P main' (gor (mkF f ys (.inRegion ops (i :: rest) :: k) .run) (bs ++ cs')) u = stepG.apply P true (mkF f ys (.inRegion ops (i :: rest) :: k) .run) (bs ++ cs') none (execOp (mkF f ys (.inRegion ops (i :: rest) :: k) .run).eval op) u := by
       rw [hy, e1] at e
       simp only [stepG, stepG.exec, gor, mkF, stepG.oper, Frame.oper?, e1]
       exact if_pos e
      have s3 : stepG (co P) main' (gor (mkF f ys (.inRegion ops (i :: rest) :: k) .run) (bs ++ cs')) u = stepG.apply (co P) true (mkF f ys (.inRegion ops (i :: rest) :: k) .run) (bs ++ cs') none (execOp (mkF f ys (.inRegion ops (i :: rest) :: k) .run).eval op) u := by
       rw [hy, e1] at e
       simp only [stepG, stepG.exec, gor, mkF, stepG.oper, Frame.oper?, e1]
       exact if_pos e
      rcases ops_at h1 e1 with h1' | h1'
      case inr =>
       obtain ⟨m, hd⟩ := dead_run (P := P) hw (r := (mkF f xs (.inRegion ops (i :: rest) :: k) .run).eval) (fun _ => rfl) h1'
       refine .inr ?_
       rw [s1]
       simp only [stepG.apply, if_true, hd, GStep.after]
       exact lost_ended
      rw [s1, s2, s3]
      exact apply_rel (main := main) (main' := main') (rest := rest) hz hG hc hg hw o h (todo_cons.2 ⟨h1, h2⟩) hs (sr_execOp hz hG hc.bodies (eval_rel hg h) (fun _ => ⟨rfl, rfl⟩) h1') (fun g w1 es e => al g w1 es (s1.trans e))
  | _ => simp [itemOk] at h1
end
end Go.Proofs.Ytpeoabopeihadaa.Sim
/- A frame that returns, of two stacks held against one another. No program of the project in this text. -/
namespace Go.Proofs.Ytpeoabopeihadaa.Sim
open Go
section
variable [Glob] {P : Program} {p : Ren}
theorem sr_list {α : Type} {f g : α → Sem Value} : ∀ (l : List α) {p : Ren}, (∀ q a, Le p q → SR P (fun q x y => V q x y) q (f a) (g a)) → SR P (fun q x y => LR (V q) x y) p (l.mapM f) (l.mapM g)
 | [], p, _ => by simp only [List.mapM_nil]; exact sr_pure trivial
 | a :: l, p, h => by
  rw [List.mapM_cons, List.mapM_cons]
  refine sr_bind (h p a (Le.refl _)) (fun q x y l1 hx => ?_)
  refine sr_bind (sr_list l (fun q2 a2 l2 => h q2 a2 (l1.trans l2))) (fun q2 xs ys l2 hxs => ?_)
  exact sr_pure ⟨hx.le l2, hxs⟩
theorem sr_arr {α : Type} {f g : α → Sem Value} (l : Array α) (h : ∀ q a, Le p q → SR P (fun q x y => V q x y) q (f a) (g a)) : SR P (fun q x y => LR (V q) x.toList y.toList) p (l.mapM f) (l.mapM g) := by
 rw [Array.mapM_eq_mapM_toList, Array.mapM_eq_mapM_toList, ← bind_pure_comp, ← bind_pure_comp]
 exact sr_bind (sr_list _ h) (fun q x y _ k => sr_pure k)
theorem sr_results (fn : Func) {xs ys : Array Value} (h : LR (V p) xs.toList ys.toList) : SR P (fun q x y => V q x y) p (results fn xs) (results fn ys) := by
 unfold results
 refine sr_bind (sr_arr _ (fun q a l => ?_)) (fun q vs us l k => ?_)
 ·have h := LR.mono (fun _ _ k => V.le l k) h
  cases a with
  | tmp t => exact sr_pure (LR.getD h t (V.undef q))
  | cell a t => exact sr_bind (sr_asAddr (LR.getD h a (V.undef q))) (fun q2 x y _ k => sr_loadVar t k)
 ·refine sr_pure ?_
  have hl := LR.len k
  simp only [Array.length_toList] at hl
  by_cases e : vs.size = 1
  ·have e2 : us.size = 1 := by omega
   rw [dif_pos e, dif_pos e2]
   obtain ⟨y, h1, h2⟩ := LR.arr (i := 0) (x := vs[0]) k (by simp)
   rw [Array.getElem?_eq_getElem (by omega)] at h1
   cases h1
   exact h2
  ·have e2 : ¬us.size = 1 := by omega
   rw [dif_neg e, dif_neg e2]
   exact V.tuple k
theorem finish_fr {a b : Frame} (h : FR P p a b) {v u : Value} (hv : V p v u) : FR P p (a.finish v) (b.finish u) := by
 have h0 := h
 obtain ⟨f, xs, ys, k, m, rfl, rfl, h3, h4, h5, h6⟩ := h
 cases k with
 | nil => exact h0
 | cons it k =>
  obtain ⟨h7, h8⟩ := todo_cons.1 h5
  cases it with
  | inRegion ops l =>
   cases l with
   | nil => exact h0
   | cons i rest =>
    cases e : (ops[i]?).bind (·.dst) with
    | none =>
     refine ⟨f, xs, ys, .inRegion ops rest :: k, m, ?_, ?_, h3, h4, todo_cons.2 ⟨h7, h8⟩, h6⟩ <;> simp [Frame.finish, mkF, e]
    | some d =>
     refine ⟨f, xs.setIfInBounds d v, ys.setIfInBounds d u, .inRegion ops rest :: k, m, ?_, ?_, h3, ?_, todo_cons.2 ⟨h7, h8⟩, h6⟩
     ·simp [Frame.finish, mkF, e]
     ·simp [Frame.finish, mkF, e]
     ·rw [toList_set, toList_set]
      exact LR.set _ h4 hv
  | code _ => exact h0
  | inBlock _ => exact h0
  | inLoop _ => exact h0
  | inScope _ => exact h0
  | _ => simp [itemOk] at h7
theorem finish_fn (a : Frame) (v : Value) : (a.finish v).fn = a.fn := by
 unfold Frame.finish
 split <;> first | rfl | (split <;> rfl)
theorem step_ret {w u : World} (hw : WR p w u) {main main' : Bool} {f : FuncId} (hc : Codes P) (o : Glob.ok f = true) {xs ys : Array Value} (h : LR (V p) xs.toList ys.toList)
  {k : List Item} {a b : Frame} {as bs cs cs' : List Frame} (ha : FR P p a b) (hs : SKR P p as bs) (al : ∀ g w1 es, stepG P main (gor (mkF f xs k .returning) (a :: as ++ cs)) w = .go g w1 es → ∀ i, w.drawn + i < w1.drawn → w.tape (w.drawn + i) = u.tape (u.drawn + i)) :
  Went P p w u cs cs' f (b :: bs) (stepG P main (gor (mkF f xs k .returning) (a :: as ++ cs)) w) (stepG P main' (gor (mkF f ys k .returning) (b :: bs ++ cs')) u) (stepG (co P) main' (gor (mkF f ys k .returning) (b :: bs ++ cs')) u) ∨
   Lost (mkF f xs k .returning) (a :: as ++ cs) (stepG P main (gor (mkF f xs k .returning) (a :: as ++ cs)) w) := by
 obtain ⟨fn, c, h1, _, _, _, fn2, h2, _, _, h3, _⟩ := hc.2 f o
 have hx := sr_results (P := P) fn h
 cases hr : (results fn xs).runT P w #[] with
 | mk r es =>
 cases r with
 | ok v w1 =>
  refine .inl ?_
  have s0 : stepG P main (gor (mkF f xs k .returning) (a :: as ++ cs)) w = .go (gor (a.finish v) (as ++ cs)) w1 (seen P f es) := by
   simp only [stepG, gor, mkF, unwind, h1, hr, doReturn, GStep.after, List.cons_append, Array.append_empty]
  obtain ⟨q, v', u1, ds, ds', ea, e2, e3, e4, e5⟩ := sr_runs _ (fs := #[]) hx hw hr (al _ w1 _ s0)
  have e1 := ea P (.inl rfl)
  have e6 := ea (co P) (.inr rfl)
  have e7 := seen_co hc o f ((#[] : Array Event) ++ ds'.toArray)
  have e5 : EL q (Fp p w) es.toList ((#[] : Array Event) ++ ds'.toArray).toList := by
   rw [e2]
   simpa using e5
  have h5 := seen_rel (P := P) f e5
  refine ⟨q, _, _, as, bs, w1, u1, _, _, ?_, ?_, finish_fr (ha.le e4.le) e3, hs.le e4.le, e4, h5, fun nc => ⟨_, ?_, .inl ⟨rfl, .inr (.inr ⟨b, List.mem_cons_self .., finish_fn _ _⟩)⟩, .inr (.inr ⟨b, rfl, finish_fn _ _⟩)⟩⟩
  ·simp only [stepG, gor, mkF, unwind, h1, hr, doReturn, GStep.after, List.cons_append, Array.append_empty]
  ·simp only [stepG, gor, mkF, unwind, h1, e1, doReturn, GStep.after, List.cons_append, Array.append_empty]
  ·rw [h3 nc] at h2; rw [← e7]; simp only [stepG, gor, mkF, unwind, h2, e6, doReturn, GStep.after, List.cons_append, Array.append_empty]
 | halt x w1 =>
  refine .inr ?_
  cases x <;>
   (refine .inl ⟨?_, ?_, ?_, ?hh⟩
    case hh =>
     simp only [stepG, gor, mkF, unwind, h1, hr, GStep.after]
     rfl)
end
end Go.Proofs.Ytpeoabopeihadaa.Sim
/- A lone run that returns to its floor never panics; so each of its steps is one that a related stack takes too. No program of the project in this text. -/
namespace Go.Proofs.Ytpeoabopeihadaa.Sim
open Go
section
variable [Glob] {P : Program} {p : Ren}
def floor : Frame := { fn := 0, tmps := #[], todo := [.code (.refuse "floor")], defers := [{ target := .nil, args := #[] }], mode := .run, kind := .normal }
structure Pan (P : Program) (x : Frame) : Prop where
 mode : ∃ c, x.mode = .panicking c
 defers : x.defers = []
 fn : ∃ fn, P.funcs[x.fn]? = some fn
theorem raise_pan {p : Ren} (hc : Codes P) {a b : Frame} (h : FR P p a b) (c : List PanicEntry) : ∃ d, Pan P (a.raise c) ∧ (a.raise c).mode = .panicking d := by
 obtain ⟨f, xs, ys, k, m, rfl, rfl, h3, h4, h5, h6⟩ := h
 obtain ⟨fn, _, h7, _⟩ := hc.2 f h3
 rcases h6 with rfl | rfl
 ·exact ⟨_, ⟨⟨_, rfl⟩, rfl, fn, h7⟩, rfl⟩
 ·exact ⟨_, ⟨⟨_, rfl⟩, rfl, fn, h7⟩, rfl⟩
theorem step_pan {x y : Frame} {cs : List Frame} {w : World} (h : Pan P x) : ∃ c, step P (lone x (y :: cs) w) = .next (lone (y.raise c) cs w) := by
 obtain ⟨⟨c, hm⟩, hd, fn, hf⟩ := h
 exact ⟨c, step_leave_panicked (P := P) ⟨hm, hd, fn, hf⟩⟩
theorem floor_ends {c : List PanicEntry} {w : World} : ∃ o w', step P (lone (floor.raise c) [] w) = .ended o w' := by
 refine ⟨?_, ?_, ?hh⟩
 case hh =>
  apply step_lone_ended
  simp only [stepG, floor, Frame.raise, unwind, callDeferred]
  rfl
theorem no_panic (hc : Codes P) : ∀ {as bs : List Frame} {q : Ren} {x : Frame} {n : Nat} {w w' : World} {fr : Frame}, SKR P q as bs → Pan P x → fr.mode = .returning → runN P n (lone x (as ++ [floor]) w) ≠ .next (lone fr [floor] w')
 | as, bs, q, x, 0, w, w', fr, hs, hx, hm, e => by
  simp only [runN, Stepped.next.injEq, lone, Machine.mk.injEq] at e
  obtain ⟨c, h⟩ := hx.mode
  have : x = fr := by
   have := e.2.1
   simp at this
   exact this.1
  rw [this, hm] at h
  cases h
 | [], bs, q, x, n + 1, w, w', fr, hs, hx, hm, e => by
  obtain ⟨c, h1⟩ := step_pan (y := floor) (cs := []) (w := w) hx
  simp only [List.nil_append, runN, h1] at e
  cases n with
  | zero =>
   simp [runN, lone] at e
  | succ n =>
   obtain ⟨o, w2, h2⟩ := floor_ends (P := P) (c := c) (w := w)
   simp only [runN, h2] at e
   cases e
 | a :: as, [], q, x, n + 1, w, w', fr, hs, hx, hm, e => hs.elim
 | a :: as, b :: bs, q, x, n + 1, w, w', fr, hs, hx, hm, e => by
  obtain ⟨c, h1⟩ := step_pan (y := a) (cs := as ++ [floor]) (w := w) hx
  simp only [List.cons_append, runN, h1] at e
  obtain ⟨d, h2, _⟩ := raise_pan hc hs.1 c
  exact no_panic hc hs.2 h2 hm e
theorem next_lone {a a1 : Frame} {cs as1 : List Frame} {w w1 : World} {es : Array Event} (h : stepG P true (gor a cs) w = .go (gor a1 as1) w1 es) : step P (lone a cs w) = .next (lone a1 as1 w1) := by
 apply step_lone_go
 show (stepG P true (gor a cs) w).bare = _
 rw [h]
 rfl
theorem ended_lone {a : Frame} {cs : List Frame} {w w1 : World} {es : Array Event} {o : Outcome} (h : stepG P true (gor a cs) w = .ended o w1 es) : step P (lone a cs w) = .ended o w1 := by
 apply step_lone_ended
 show (stepG P true (gor a cs) w).bare = _
 rw [h]
 rfl
theorem sim_one (hz : Zero P) (hG : Glob.size = P.globals.size) (hc : Codes P) (hg : GP p) {w u : World} (hw : WR p w u) {main : Bool} {a b : Frame} {as bs cs : List Frame} (ha : FR P p a b) (hs : SKR P p as bs)
  {n : Nat} {fr : Frame} {w' : World} (hm : fr.mode = .returning) (no : ¬(a.mode = .returning ∧ as = [])) (al : ∀ g w1 es, stepG P true (gor a (as ++ [floor])) w = .go g w1 es → ∀ i, w.drawn + i < w1.drawn → w.tape (w.drawn + i) = u.tape (u.drawn + i)) (e : runN P n (lone a (as ++ [floor]) w) = .next (lone fr [floor] w')) :
  ∃ q a1 b1 as1 bs1 w1 u1 es es' n', stepG P true (gor a (as ++ [floor])) w = .go (gor a1 (as1 ++ [floor])) w1 es ∧ stepG P main (gor b (bs ++ cs)) u = .go (gor b1 (bs1 ++ cs)) u1 es' ∧
   FR P q a1 b1 ∧ SKR P q as1 bs1 ∧ Eff p q w w1 u u1 ∧ EL q (Fp p w) es.toList es'.toList ∧ n = n' + 1 ∧ runN P n' (lone a1 (as1 ++ [floor]) w1) = .next (lone fr [floor] w') ∧ (Glob.cut a.fn = false → ∃ b2, stepG (co P) main (gor b (bs ++ cs)) u = .go (gor b2 (bs1 ++ cs)) u1 es' ∧ CB P a.fn bs b1 b2 ∧ Sh a.fn bs b1 bs1) := by
 have key : Went P p w u [floor] cs a.fn bs (stepG P true (gor a (as ++ [floor])) w) (stepG P main (gor b (bs ++ cs)) u) (stepG (co P) main (gor b (bs ++ cs)) u) ∨ Lost a (as ++ [floor]) (stepG P true (gor a (as ++ [floor])) w) := by
  obtain ⟨f, xs, ys, k, m, rfl, rfl, h3, h4, h5, h6⟩ := ha
  rcases h6 with rfl | rfl
  ·exact step_run hz hG hc hg hw h3 h4 h5 hs al
  ·cases as with
   | nil => exact absurd ⟨rfl, rfl⟩ no
   | cons x as =>
    cases bs with
    | nil => exact hs.elim
    | cons y bs => exact step_ret hw hc h3 h4 hs.1 hs.2 al
 cases n with
 | zero =>
  exfalso
  simp only [runN, Stepped.next.injEq, lone, Machine.mk.injEq] at e
  have e2 := e.2.1
  simp at e2
  exact no ⟨by rw [e2.1]; exact hm, e2.2⟩
 | succ n =>
  rcases key with ⟨q, a1, b1, as1, bs1, w1, u1, es, es', g1, g2, g3, g4, g5, g6, g7⟩ | ⟨o, w1, es, g⟩ | ⟨c, w1, es, g⟩
  ·have s1 := next_lone (a1 := a1) (as1 := as1 ++ [floor]) g1
   simp only [runN, s1] at e
   exact ⟨q, a1, b1, as1, bs1, w1, u1, es, es', n, g1, g2, g3, g4, g5, g6, rfl, e, g7⟩
  ·have s1 := ended_lone g
   simp only [runN, s1] at e
   cases e
  ·have s1 := next_lone (a1 := a.raise c) (as1 := as ++ [floor]) g
   simp only [runN, s1] at e
   obtain ⟨d, h2, _⟩ := raise_pan hc ha c
   exact absurd e (no_panic hc hs h2 hm)
end
end Go.Proofs.Ytpeoabopeihadaa.Sim
/- Whole lone runs that return, of two stacks held against one another. No program of the project in this text. -/
namespace Go.Proofs.Ytpeoabopeihadaa.Sim
open Go
section
variable [Glob] {P : Program} {p : Ren}
theorem floor_over {v : Value} {w : World} : ∃ o w', step P (lone (floor.finish v) [] w) = .ended o w' := by
 refine ⟨?_, ?_, ?hh⟩
 case hh =>
  apply step_lone_ended
  simp only [stepG, floor, Frame.finish, stepG.exec]
  rfl
theorem end_here (hc : Codes P) {a b : Frame} (ha : FR P p a b) (hm : a.mode = .returning) {n : Nat} {w w' : World} {fr : Frame} (e : runN P n (lone a [floor] w) = .next (lone fr [floor] w')) : n = 0 ∧ fr = a ∧ w' = w := by
 cases n with
 | zero =>
  simp only [runN, Stepped.next.injEq, lone, Machine.mk.injEq] at e
  have e2 := e.2.1
  simp at e2
  exact ⟨rfl, e2.symm, e.1.symm⟩
 | succ n =>
  exfalso
  obtain ⟨f, xs, ys, k, m, rfl, rfl, h3, h4, h5, h6⟩ := ha
  have hm : m = .returning := hm
  subst hm
  obtain ⟨fn, c, h1, _, _, _⟩ := hc.2 f h3
  cases hr : (results fn xs).runT P w #[] with
  | mk r es =>
  cases r with
  | ok v w1 =>
   have s1 : stepG P true (gor (mkF f xs k .returning) [floor]) w = .go (gor (floor.finish v) []) w1 (seen P f es) := by
    simp only [stepG, gor, mkF, unwind, h1, hr, doReturn, GStep.after, Array.append_empty]
   have s2 := next_lone s1
   simp only [runN, s2] at e
   cases n with
   | zero => simp [runN, lone] at e
   | succ n =>
    obtain ⟨o, w2, h2⟩ := floor_over (P := P) (v := v) (w := w1)
    simp only [runN, h2] at e
    cases e
  | halt x w1 =>
   have s1 : ∃ o w2 es2, stepG P true (gor (mkF f xs k .returning) [floor]) w = .ended o w2 es2 := by
    cases x <;>
     (refine ⟨?_, ?_, ?_, ?hh⟩
      case hh =>
       simp only [stepG, gor, mkF, unwind, h1, hr, GStep.after]
       rfl)
   obtain ⟨o, w2, es2, s1⟩ := s1
   have s2 := ended_lone s1
   simp only [runN, s2] at e
   cases e
theorem Eff.al {p q : Ren} {w w1 u u1 : World} (h : Eff p q w w1 u u1) (al : ∀ i, w.tape (w.drawn + i) = u.tape (u.drawn + i)) : ∀ i, w1.tape (w1.drawn + i) = u1.tape (u1.drawn + i) := by
 intro i
 have a := al (w1.drawn - w.drawn + i)
 have m := h.more
 have d := h.drawn
 rw [h.ltape, h.tape, d]
 rw [show w.drawn + (w1.drawn - w.drawn + i) = w1.drawn + i by omega, show u.drawn + (w1.drawn - w.drawn + i) = u.drawn + (w1.drawn - w.drawn) + i by omega] at a
 exact a
end
end Go.Proofs.Ytpeoabopeihadaa.Sim
/- A computation hangs, of its tape, on the draws that it uses alone. No program of the project in this text. -/
namespace Go.Proofs.Ytpeoabopeihadaa.Sim
open Go
section
variable [Glob] {P : Program} {p : Ren}
def wt (w : World) (t : Tape) (d : Nat) : World := { w with tape := t, drawn := d }
theorem tape_sem {α β : Type} {Q : Ren → α → β → Prop} : ∀ (s : Sem α) {s' : Sem β} {p : Ren} {w u : World} {es es1 : Array Event} {a : α} {w1 : World}, SR P Q p s s' → WR p w u → s.runT P w es = (.ok a w1, es1) →
  ∀ (t2 : Tape) (d2 : Nat), (∀ i, w.drawn + i < w1.drawn → w.tape (w.drawn + i) = t2 (d2 + i)) → s.runT P (wt w t2 d2) es = (.ok a (wt w1 t2 (d2 + (w1.drawn - w.drawn))), es1) := by
 intro s
 induction s with
 | pure a =>
  intro s' p w u es es1 a w1 hs _ h t2 d2 al
  simp only [Sem.runT, Prod.mk.injEq, Result.ok.injEq] at h
  obtain ⟨⟨rfl, rfl⟩, rfl⟩ := h
  simp [Sem.runT]
 | load m a k ih =>
  intro s' p w u es es1 r w1 hs hw h t2 d2 al
  cases m <;> cases s' <;> try simp only [SR] at hs
  rename_i m' a' k'
  cases m' <;> simp only [SR] at hs
  simp only [Sem.runT] at h ⊢
  cases hc : w.cell? a with
  | some v =>
   obtain ⟨v', _, hv⟩ := hw.cell hs.1 hc
   have hc2 : (wt w t2 d2).cell? a = some v := hc
   simp only [hc] at h
   simp only [hc2]
   exact ih v (hs.2 v v' hv) hw h t2 d2 al
  | none =>
   exact (far_load hw hs.1 hc h).elim
 | store m a v k ih =>
  intro s' p w u es es1 r w1 hs hw h t2 d2 al
  cases m <;> cases s' <;> try simp only [SR] at hs
  rename_i m' a' v' k'
  cases m' <;> simp only [SR] at hs
  cases hc : w.cell? a with
  | some x =>
   obtain ⟨o, hf⟩ := store_ok hc h
   rw [runT_store o hc hf] at h
   have hc2 : (wt w t2 d2).cell? a = some x := hc
   have hf2 : (wt w t2 d2).frozen? a = false := hf
   rw [runT_store o hc2 hf2]
   exact ih hs.2.2 (hw.set hs.1 hs.2.1 hc) h t2 d2 al
  | none =>
   exact (far_store hw hs.1 hc h).elim
 | new o k ih =>
  intro s' p w u es es1 r w1 hs hw h t2 d2 al
  cases s' <;> simp only [SR] at hs
  obtain ⟨hl, hk⟩ := hs
  simp only [Sem.runT] at h ⊢
  exact ih _ (hk _ _ hw.big hw.fresh.1 hw.fresh.2) (new_eff hw hl).wr h t2 d2 al
 | choose q k ih =>
  intro s' p w u es es1 r w1 hs hw h t2 d2 al
  cases s' <;> simp only [SR] at hs
  simp only [Sem.runT] at h ⊢
  split at h
  ·next hq =>
   rw [if_pos hq]
   exact ih _ (hs.2 _) hw h t2 d2 al
  ·next hq =>
   rw [if_neg hq]
   have e1 := drew_eff hw
   have hm := sr_mono _ (hs.2 _) e1.wr h
   simp only at hm
   have a0 := al 0 (by omega)
   simp only [Nat.add_zero] at a0
   have h2 := ih _ (hs.2 _) e1.wr h t2 (d2 + 1) (fun i hi => by
    have := al (i + 1) (by simp only at hi; omega)
    rw [show w.drawn + (i + 1) = w.drawn + 1 + i by omega, show d2 + (i + 1) = d2 + 1 + i by omega] at this
    exact this)
   rw [a0] at h2
   have e2 : d2 + 1 + (w1.drawn - (w.drawn + 1)) = d2 + (w1.drawn - w.drawn) := by omega
   simp only [e2] at h2
   exact h2
 | program k ih =>
  intro s' p w u es es1 r w1 hs hw h t2 d2 al
  cases s' <;> simp only [SR] at hs <;> simp only [Sem.runT] at h ⊢
  all_goals first
   | exact absurd h hs.run
   | (rcases hs with hs | hs
      ·exact ih P hs.1 hw h t2 d2 al
      ·exact absurd h hs.run)
 | mark m k ih =>
  intro s' p w u es es1 r w1 hs hw h t2 d2 al
  cases s' <;> simp only [SR] at hs
  simp only [Sem.runT] at h ⊢
  exact ih hs.2.2 hw h t2 d2 al
 | shape r k ih =>
  intro s' p w u es es1 x w1 hs hw h t2 d2 al
  cases s' <;> simp only [SR] at hs
  simp only [Sem.runT] at h ⊢
  exact ih _ (hs.2 _) hw h t2 d2 al
 | getObj r k ih =>
  intro s' p w u es es1 x w1 hs hw h t2 d2 al
  cases s' <;> simp only [SR] at hs
  obtain ⟨o, o', h1, h2, h3⟩ := hw.blk _ _ hs.1
  have h1' : (wt w t2 d2).heap[r]? = some o := h1
  rcases h3 with ⟨xs, t, fz, ys, gz, rfl, rfl, _, _⟩ | ⟨a, a', l, rfl, rfl, ha⟩
  ·simp only [Sem.runT, h1, Prod.mk.injEq, reduceCtorEq, false_and] at h
  ·simp only [Sem.runT, h1] at h
   simp only [Sem.runT, h1']
   exact ih _ (hs.2 a a' l ha) hw h t2 d2 al
 | halt x => intro s' p w u es es1 r w1 hs hw h; simp [Sem.runT] at h
 | frozen a k ih =>
  intro s' p w u es es1 r w1 hs hw h
  have hs : ∀ b, Dead P (k b) := by cases s' <;> simpa only [SR] using hs
  simp only [Sem.runT] at h
  exact absurd h (hs _).run
 | freeze a n k ih => intro s' p w u es es1 r w1 hs; cases s' <;> simp [SR] at hs
 | setObj r o k ih => intro s' p w u es es1 r w1 hs; cases s' <;> simp [SR] at hs
 | sys c k ih =>
  intro s' p w u es es1 r w1 hs hw h
  have hs : ∀ b, Dead P (k b) := by cases s' <;> simpa only [SR] using hs
  simp only [Sem.runT] at h
  exact absurd h (hs _).run
end
end Go.Proofs.Ytpeoabopeihadaa.Sim
/- A step of a stack hangs, of its tape, on the draws that it uses alone. No program of the project in this text. -/
namespace Go.Proofs.Ytpeoabopeihadaa.Sim
open Go
section
variable [Glob] {P : Program} {p : Ren}
theorem tape_same {main : Bool} {x y g : Goroutine} {w w1 : World} {es : Array Event} {t2 : Tape} {d2 : Nat} (f : ∀ w, stepG P main y w = .go x w) (h : stepG P main y w = .go g w1 es) : stepG P main y (wt w t2 d2) = .go g (wt w1 t2 (d2 + (w1.drawn - w.drawn))) es := by
 rw [f] at h
 cases h
 rw [f]
 simp
theorem tape_apply {w u : World} (hw : WR p w u) {f : FuncId} {xs : Array Value} {ops : Array Oper} {i : Nat} {rest : List Nat} {k : List Item} {cs : List Frame} {s s' : Sem Next} (hx : SR P NX p s s') {g : Goroutine} {w1 : World} {es : Array Event}
  (h : stepG.apply P true (mkF f xs (.inRegion ops (i :: rest) :: k) .run) cs none s w = .go g w1 es) (hn : ∀ c, g.frame.mode ≠ .panicking c) {t2 : Tape} {d2 : Nat} (al : ∀ i, w.drawn + i < w1.drawn → w.tape (w.drawn + i) = t2 (d2 + i)) :
  stepG.apply P true (mkF f xs (.inRegion ops (i :: rest) :: k) .run) cs none s (wt w t2 d2) = .go g (wt w1 t2 (d2 + (w1.drawn - w.drawn))) es := by
 cases hr : s.runT P w #[] with
 | mk r es0 =>
 cases r with
 | ok nx w2 =>
  obtain ⟨q, ny, e3⟩ := sr_post s hx hw hr
  cases nx with
  | value v =>
   simp only [stepG.apply, if_true, hr, GStep.after] at h
   cases h
   have h2 := tape_sem s hx hw hr t2 d2 al
   simp only [stepG.apply, if_true, h2, GStep.after]
  | skip =>
   simp only [stepG.apply, if_true, hr, GStep.after] at h
   cases h
   have h2 := tape_sem s hx hw hr t2 d2 al
   simp only [stepG.apply, if_true, h2, GStep.after]
  | enter g args =>
   simp only [stepG.apply, if_true, hr, GStep.after] at h
   cases h
   have h2 := tape_sem s hx hw hr t2 d2 al
   simp only [stepG.apply, if_true, h2, GStep.after]
  | _ => cases ny <;> simp only [NX] at e3
 | halt x w2 =>
  have ok := sr_halts s hx hw hr
  cases x with
  | panic v =>
   simp only [stepG.apply, if_true, hr, GStep.after] at h
   cases h
   exact absurd rfl (hn _)
  | stuck m => simp only [stepG.apply, if_true, hr, GStep.after] at h; cases h
  | unsupported m =>
   cases m with
   | initOrder _ => exact ok.elim
   | _ => simp only [stepG.apply, if_true, hr, GStep.after] at h; cases h
  | _ => exact ok.elim
theorem tape_ret (hc : Codes P) {w u : World} (hw : WR p w u) {main : Bool} {f : FuncId} (o : Glob.ok f = true) {xs ys : Array Value} (hx : LR (V p) xs.toList ys.toList) {k : List Item} {a : Frame} {cs : List Frame} {g : Goroutine} {w1 : World} {es : Array Event}
  (h : stepG P main (gor (mkF f xs k .returning) (a :: cs)) w = .go g w1 es) {t2 : Tape} {d2 : Nat} (al : ∀ i, w.drawn + i < w1.drawn → w.tape (w.drawn + i) = t2 (d2 + i)) :
  stepG P main (gor (mkF f xs k .returning) (a :: cs)) (wt w t2 d2) = .go g (wt w1 t2 (d2 + (w1.drawn - w.drawn))) es := by
 obtain ⟨fn, c, h1, _, _, _⟩ := hc.2 f o
 have hr2 := sr_results (P := P) fn hx
 cases hr : (results fn xs).runT P w #[] with
 | mk r es0 =>
 cases r with
 | ok v w2 =>
  simp only [stepG, gor, mkF, unwind, h1, hr, doReturn, GStep.after] at h
  cases h
  have h2 := tape_sem _ hr2 hw hr t2 d2 al
  simp only [stepG, gor, mkF, unwind, h1, h2, doReturn, GStep.after]
 | halt x w2 =>
  cases x <;> simp only [stepG, gor, mkF, unwind, h1, hr, GStep.after] at h <;> cases h
theorem tape_code (hz : Zero P) (hG : Glob.size = P.globals.size) (hc : Codes P) (hg : GP p) {w u : World} (hw : WR p w u) {main : Bool} {f : FuncId} {xs ys : Array Value} (hx : LR (V p) xs.toList ys.toList)
  {k : List Item} (hk : todoOk P k = true) {cs : List Frame} {g : Goroutine} {w1 : World} {es : Array Event}
  (h : stepG P main (gor (mkF f xs k .run) cs) w = .go g w1 es) (hn : ∀ c, g.frame.mode ≠ .panicking c) {t2 : Tape} {d2 : Nat} (al : ∀ i, w.drawn + i < w1.drawn → w.tape (w.drawn + i) = t2 (d2 + i)) :
  stepG P main (gor (mkF f xs k .run) cs) (wt w t2 d2) = .go g (wt w1 t2 (d2 + (w1.drawn - w.drawn))) es := by
 cases k with
 | nil => exact tape_same (fun w => rfl) h
 | cons it k =>
  obtain ⟨h1, h2⟩ := todo_cons.1 hk
  cases it with
  | inBlock _ => exact tape_same (fun w => rfl) h
  | inScope _ => exact tape_same (fun w => rfl) h
  | inLoop a => exact tape_same (fun w => rfl) h
  | code c =>
   cases c with
   | skip => exact tape_same (fun w => rfl) h
   | label _ => exact tape_same (fun w => rfl) h
   | ret => exact tape_same (fun w => rfl) h
   | seq a b => exact tape_same (fun w => rfl) h
   | block id a => exact tape_same (fun w => rfl) h
   | loop a => exact tape_same (fun w => rfl) h
   | scope a => exact tape_same (fun w => rfl) h
   | cond c a b =>
    cases e : (mkF f xs (.code (.cond c a b) :: k) .run).eval c with
    | bool d =>
     refine tape_same (x := gor (mkF f xs (.code (if d then a else b) :: k) .run) cs) (fun w => ?_) h
     simp only [stepG, stepG.exec, gor, mkF] at e ⊢
     simp only [e]
    | _ =>
     exfalso
     simp only [stepG, stepG.exec, gor, mkF] at e h
     simp only [e] at h
     cases h
   | exit id =>
    cases e : exitTo id k with
    | none =>
     simp only [stepG, stepG.exec, gor, mkF, e] at h
     cases h
    | some r =>
     refine tape_same (x := gor (mkF f xs r .run) cs) (fun w => ?_) h
     simp only [stepG, stepG.exec, gor, mkF, e]
     rfl
   | goto l =>
    cases e : gotoIn l k with
    | none =>
     simp only [stepG, stepG.exec, gor, mkF, e] at h
     cases h
    | some r =>
     refine tape_same (x := gor (mkF f xs r .run) cs) (fun w => ?_) h
     simp only [stepG, stepG.exec, gor, mkF, e]
     rfl
   | refuse _ => cases h
   | rangeFunc _ _ _ _ => simp [itemOk, codeOk] at h1
   | region id ops draw =>
    cases draw with
    | false => exact tape_same (fun w => rfl) h
    | true =>
     have s1 : ∀ w : World, stepG P main (gor (mkF f xs (.code (.region id ops true) :: k) .run) cs) w = .go (gor (mkF f xs (.inRegion ops (Region.schedule (P.follows .mixedOrders) ops (w.tape w.drawn (.order f id))) :: k) .run) cs) { w with drawn := w.drawn + 1 } := fun w => rfl
     rw [s1] at h
     cases h
     have a0 := al 0 (by show w.drawn + 0 < w.drawn + 1; omega)
     simp only [Nat.add_zero] at a0
     rw [s1, a0]
     have : w.drawn + 1 - w.drawn = 1 := by omega
     simp only [wt, this]
  | inRegion ops l =>
   cases l with
   | nil => exact tape_same (fun w => rfl) h
   | cons i rest =>
    cases e : ((ops[i]?).map (Region.wanted · (yielded ops xs))).getD false with
    | false =>
     refine tape_same (x := gor ((mkF f xs (.inRegion ops (i :: rest) :: k) .run).finish undef) cs) (fun w => ?_) h
     simp only [stepG, stepG.exec, gor, mkF, e]
     rfl
    | true =>
     cases e1 : ops[i]? with
     | none => simp [e1] at e
     | some op =>
      have s1 : ∀ w : World, stepG P main (gor (mkF f xs (.inRegion ops (i :: rest) :: k) .run) cs) w = stepG.apply P true (mkF f xs (.inRegion ops (i :: rest) :: k) .run) cs none (execOp (mkF f xs (.inRegion ops (i :: rest) :: k) .run).eval op) w := by
       intro w
       rw [e1] at e
       simp only [stepG, stepG.exec, gor, mkF, stepG.oper, Frame.oper?, e1]
       exact if_pos e
      rw [s1] at h ⊢
      rcases ops_at h1 e1 with h1' | h1'
      case inr =>
       exfalso
       obtain ⟨m, hd⟩ := dead_run (P := P) hw (r := (mkF f xs (.inRegion ops (i :: rest) :: k) .run).eval) (fun _ => rfl) h1'
       simp only [stepG.apply, if_true, hd, GStep.after] at h
       cases h
      exact tape_apply hw (sr_execOp hz hG hc.bodies (eval_rel hg hx) (fun _ => ⟨rfl, rfl⟩) h1') h hn al
  | _ => simp [itemOk] at h1
end
end Go.Proofs.Ytpeoabopeihadaa.Sim
/- A stack whose lone run returns at every tape: a related stack takes a step in any company, and it is so again. No program of the project in this text. -/
namespace Go.Proofs.Ytpeoabopeihadaa.Sim
open Go
section
variable [Glob] {P : Program} {p : Ren}
theorem WR.tape {w u : World} (h : WR p w u) (t t' : Tape) (d d' : Nat) : WR p (wt w t d) (wt u t' d') := ⟨h.blk, h.inj, h.big, h.dead⟩
theorem tape_go (hz : Zero P) (hG : Glob.size = P.globals.size) (hc : Codes P) (hg : GP p) {w u : World} (hw : WR p w u) {main : Bool} {a b : Frame} {as bs cs : List Frame} (ha : FR P p a b) (hs : SKR P p as bs) (no : ¬(a.mode = .returning ∧ as = [])) {g : Goroutine} {w1 : World} {es : Array Event}
  (h : stepG P main (gor a (as ++ cs)) w = .go g w1 es) (hn : ∀ c, g.frame.mode ≠ .panicking c) {t2 : Tape} {d2 : Nat} (al : ∀ i, w.drawn + i < w1.drawn → w.tape (w.drawn + i) = t2 (d2 + i)) :
  stepG P main (gor a (as ++ cs)) (wt w t2 d2) = .go g (wt w1 t2 (d2 + (w1.drawn - w.drawn))) es := by
 obtain ⟨f, xs, ys, k, m, rfl, rfl, h3, h4, h5, h6⟩ := ha
 rcases h6 with rfl | rfl
 ·exact tape_code hz hG hc hg hw h4 h5 h hn al
 ·cases as with
  | nil => exact absurd ⟨rfl, rfl⟩ no
  | cons x as => exact tape_ret hc hw h3 h4 h al
theorem fr_mode {a b : Frame} (h : FR P p a b) : ∀ c, a.mode ≠ .panicking c := by
 obtain ⟨f, xs, ys, k, m, rfl, rfl, h3, h4, h5, h6⟩ := h
 intro c e
 rcases h6 with rfl | rfl <;> cases e
theorem tape_leave {w u : World} (hw : WR p w u) {a b : Frame} (ha : FR P p a b) {v : Value} (h : a.leaving P w (.returned v)) (t : Tape) (d : Nat) : a.leaving P (wt w t d) (.returned v) := by
 obtain ⟨f, xs, ys, k, m, rfl, rfl, h3, h4, h5, h6⟩ := ha
 obtain ⟨g1, g2, g3, fn, g4, g5⟩ := h
 refine ⟨g1, g2, g3, fn, g4, ?_⟩
 have hx := sr_results (P := P) fn h4
 cases hr : (results fn xs).runT P w #[] with
 | mk r es =>
  have e0 : r = .ok v w := by
   have := Sem.runT_fst P (results fn xs) w #[]
   rw [hr] at this
   exact this.trans g5
  subst e0
  have h2 := tape_sem _ hx hw hr t d (fun i hi => by omega)
  have := Sem.runT_fst P (results fn xs) (wt w t d) #[]
  rw [h2] at this
  rw [Nat.sub_self, Nat.add_zero] at this
  exact this.symm
theorem tape_run (hz : Zero P) (hG : Glob.size = P.globals.size) (hc : Codes P) : ∀ (n : Nat) {p : Ren} {w u : World} {a b : Frame} {as bs : List Frame} {fr : Frame} {w' : World}, GP p → WR p w u → FR P p a b → SKR P p as bs →
  fr.mode = .returning → runN P n (lone a (as ++ [floor]) w) = .next (lone fr [floor] w') → ∀ (t2 : Tape) (d2 : Nat), (∀ i, w.tape (w.drawn + i) = t2 (d2 + i)) →
  ∃ d' q fr' u', runN P n (lone a (as ++ [floor]) (wt w t2 d2)) = .next (lone fr [floor] (wt w' t2 d')) ∧ FR P q fr fr' ∧ WR q w' u' := by
 intro n
 induction n with
 | zero =>
  intro p w u a b as bs fr w' hg hw ha hs hm e t2 d2 al
  simp only [runN, Stepped.next.injEq, lone, Machine.mk.injEq] at e
  have e2 := e.2.1
  simp at e2
  obtain ⟨rfl, rfl⟩ := e2
  have e1 := e.1
  subst e1
  exact ⟨d2, p, b, u, rfl, ha, hw⟩
 | succ n ih =>
  intro p w u a b as bs fr w' hg hw ha hs hm e t2 d2 al
  by_cases no : a.mode = .returning ∧ as = []
  ·obtain ⟨h1, rfl⟩ := no
   have := (end_here hc ha h1 e).1
   omega
  ·have hw0 : WR p w (wt u w.tape w.drawn) := ⟨hw.blk, hw.inj, hw.big, hw.dead⟩
   obtain ⟨q, a1, b1, as1, bs1, w1, u1, es, es', n', g1, g2, g3, g4, g5, g6, g7, g8, _⟩ := sim_one (main := true) (cs := [floor]) hz hG hc hg hw0 ha hs hm no (fun _ _ _ _ i _ => rfl) e
   have g7 : n = n' := by omega
   subst g7
   have s2 := tape_go (t2 := t2) (d2 := d2) hz hG hc hg hw ha hs no g1 (fr_mode g3) (fun i _ => al i)
   have m := g5.more
   obtain ⟨d', r, fr', u', h1, h2, h3⟩ := ih (hg.le g5.le) g5.wr g3 g4 hm g8 t2 (d2 + (w1.drawn - w.drawn)) (fun i => by
    have := al (w1.drawn - w.drawn + i)
    rw [g5.ltape]
    rw [show w.drawn + (w1.drawn - w.drawn + i) = w1.drawn + i by omega, ← Nat.add_assoc] at this
    exact this)
   refine ⟨d', r, fr', u', ?_, h2, h3⟩
   simp only [runN, next_lone s2]
   exact h1
def AllEnd (P : Program) (Post : Value → Array Obj → Prop) (a : Frame) (as : List Frame) (w : World) : Prop :=
 ∀ t d, ∃ n fr v w', runN P n (lone a (as ++ [floor]) (wt w t d)) = .next (lone fr [floor] w') ∧ fr.leaving P w' (.returned v) ∧ Post v w'.heap
theorem own_step (hz : Zero P) (hG : Glob.size = P.globals.size) (hc : Codes P) (hg : GP p) {w u : World} (hw : WR p w u) {main : Bool} {a b : Frame} {as bs cs : List Frame} (ha : FR P p a b) (hs : SKR P p as bs) (no : ¬(a.mode = .returning ∧ as = [])) {Post : Value → Array Obj → Prop} (H : AllEnd P Post a as w) :
  ∃ q a1 b1 as1 bs1 w1 u1, ∃ es es' : Array Event, stepG P main (gor b (bs ++ cs)) u = .go (gor b1 (bs1 ++ cs)) u1 es' ∧ FR P q a1 b1 ∧ SKR P q as1 bs1 ∧ Eff p q (wt w u.tape u.drawn) w1 u u1 ∧ EL q (Fp p w) es.toList es'.toList ∧ AllEnd P Post a1 as1 w1 ∧ stepG P true (gor a (as ++ [floor])) (wt w u.tape u.drawn) = .go (gor a1 (as1 ++ [floor])) w1 es ∧ (Glob.cut a.fn = false → ∃ b2, stepG (co P) main (gor b (bs ++ cs)) u = .go (gor b2 (bs1 ++ cs)) u1 es' ∧ CB P a.fn bs b1 b2 ∧ Sh a.fn bs b1 bs1) := by
 obtain ⟨n, fr, v, w', e, hl, hp⟩ := H u.tape u.drawn
 have hw0 : WR p (wt w u.tape u.drawn) u := ⟨hw.blk, hw.inj, hw.big, hw.dead⟩
 obtain ⟨q, a1, b1, as1, bs1, w1, u1, es, es', n', g1, g2, g3, g4, g5, g6, g7, g8, g9⟩ := sim_one (main := main) (cs := cs) hz hG hc hg hw0 ha hs hl.1 no (fun _ _ _ _ i _ => rfl) e
 refine ⟨q, a1, b1, as1, bs1, w1, u1, es, es', g2, g3, g4, g5, g6, ?_, g1, g9⟩
 intro t d
 have more : u.drawn ≤ w1.drawn := g5.more
 let used := w1.drawn - u.drawn
 let t2 : Tape := fun i => if i < used then u.tape (u.drawn + i) else t (i - used + d)
 obtain ⟨n2, fr2, v2, w2, e2, hl2, hp2⟩ := H t2 0
 have hw2 : WR p (wt w t2 0) (wt u t2 0) := ⟨hw.blk, hw.inj, hw.big, hw.dead⟩
 obtain ⟨q2, c1, _, cs1, _, x1, _, fs, _, n3, k1, _, _, _, _, _, _, k8, _⟩ := sim_one (main := true) (cs := [floor]) hz hG hc hg hw2 ha hs hl2.1 no (fun _ _ _ _ i _ => rfl) e2
 have s2 := tape_go (t2 := t2) (d2 := 0) hz hG hc hg hw0 ha hs no g1 (fr_mode g3) (fun i hi => by
  show u.tape (u.drawn + i) = t2 (0 + i)
  have hi : u.drawn + i < w1.drawn := hi
  have : i < used := by show i < w1.drawn - u.drawn; omega
  rw [Nat.zero_add]
  exact (if_pos this).symm)
 have s3 : stepG P true (gor a (as ++ [floor])) (wt w t2 0) = .go (gor a1 (as1 ++ [floor])) (wt w1 t2 (0 + (w1.drawn - u.drawn))) es := s2
 rw [k1] at s3
 have i1 := GStep.go.inj s3
 have i2 := i1.1
 simp only [gor, Goroutine.mk.injEq, List.append_cancel_right_eq] at i2
 obtain ⟨rfl, rfl, _⟩ := i2
 have i3 := i1.2.1
 subst i3
 obtain ⟨d', r, fr', u', h1, h2, h3⟩ := tape_run hz hG hc n3 (hg.le g5.le) (g5.wr.tape t2 t2 _ 0) g3 g4 hl2.1 k8 t d (fun i => by
  show t2 (0 + (w1.drawn - u.drawn) + i) = t (d + i)
  have a1 : ¬(0 + (w1.drawn - u.drawn) + i < used) := by show ¬(0 + (w1.drawn - u.drawn) + i < w1.drawn - u.drawn); omega
  have a2 : 0 + (w1.drawn - u.drawn) + i - used + d = d + i := by show 0 + (w1.drawn - u.drawn) + i - (w1.drawn - u.drawn) + d = d + i; omega
  rw [← a2]
  exact if_neg a1)
 exact ⟨n3, fr2, v2, _, h1, tape_leave h3 h2 hl2 t d', hp2⟩
end
end Go.Proofs.Ytpeoabopeihadaa.Sim
/- A stack whose lone run returns at every tape takes finitely many steps. No program of the project in this text. -/
namespace Go.Proofs.Ytpeoabopeihadaa.Sim
open Go
section
variable [Glob] {P : Program} {p : Ren}
structure St where
 a : Frame
 as : List Frame
 w : World
def St.over (s : St) : Prop := s.a.mode = .returning ∧ s.as = []
def Nxt (P : Program) (t : Tape) (d : Nat) (s s' : St) : Prop := ¬s.over ∧ ∃ es, stepG P true (gor s.a (s.as ++ [floor])) (wt s.w t d) = .go (gor s'.a (s'.as ++ [floor])) s'.w es
def Inv (P : Program) (Post : Value → Array Obj → Prop) (s : St) : Prop := AllEnd P Post s.a s.as s.w ∧ ∃ p b bs u, GP p ∧ WR p s.w u ∧ FR P p s.a b ∧ SKR P p s.as bs
theorem inv_next (hz : Zero P) (hG : Glob.size = P.globals.size) (hc : Codes P) {Post : Value → Array Obj → Prop} {t : Tape} {d : Nat} {s s' : St} (h : Inv P Post s) (hn : Nxt P t d s s') :
  Inv P Post s' ∧ d ≤ s'.w.drawn ∧ ∀ (t2 : Tape) (d2 : Nat), (∀ i, d + i < s'.w.drawn → t (d + i) = t2 (d2 + i)) → ∃ es, stepG P true (gor s.a (s.as ++ [floor])) (wt s.w t2 d2) = .go (gor s'.a (s'.as ++ [floor])) (wt s'.w t2 (d2 + (s'.w.drawn - d))) es := by
 obtain ⟨H, p, b, bs, u, hg, hw, ha, hs⟩ := h
 obtain ⟨no, es, e⟩ := hn
 have hw0 : WR p s.w (wt u t d) := ⟨hw.blk, hw.inj, hw.big, hw.dead⟩
 obtain ⟨q, a1, b1, as1, bs1, w1, u1, es1, es1', g2, g3, g4, g5, g6, g7, g8, _⟩ := own_step (main := true) (cs := [floor]) hz hG hc hg hw0 ha hs no H
 have g8 : stepG P true (gor s.a (s.as ++ [floor])) (wt s.w t d) = .go (gor a1 (as1 ++ [floor])) w1 es1 := g8
 have e0 := e
 rw [g8] at e
 have i1 := GStep.go.inj e
 have i2 := i1.1
 simp only [gor, Goroutine.mk.injEq, List.append_cancel_right_eq] at i2
 obtain ⟨j1, j2, _⟩ := i2
 have j3 := i1.2.1
 obtain ⟨a', as', w'⟩ := s'
 simp only at j1 j2 j3 e0 ⊢
 subst j1
 subst j2
 subst j3
 refine ⟨⟨g7, q, b1, bs1, u1, hg.le g5.le, g5.wr, g3, g4⟩, g5.more, ?_⟩
 intro t2 d2 al
 have hw1 : WR p (wt s.w t d) u := ⟨hw.blk, hw.inj, hw.big, hw.dead⟩
 exact ⟨_, tape_go (t2 := t2) (d2 := d2) hz hG hc hg hw1 ha hs no e0 (fr_mode g3) al⟩
theorem ends_acc (hz : Zero P) (hG : Glob.size = P.globals.size) (hc : Codes P) {Post : Value → Array Obj → Prop} {s : St} (h : Inv P Post s) : Acc (fun y x => ∃ t d, Nxt P t d x y) s := by
 refine Classical.byContradiction (fun hno => ?_)
 have ex : ∀ x : St, ¬Acc (fun y x => ∃ t d, Nxt P t d x y) x → ∃ y, (∃ t d, Nxt P t d x y) ∧ ¬Acc (fun y x => ∃ t d, Nxt P t d x y) y := fun x hx =>
  Classical.byContradiction (fun hy => hx (Acc.intro x (fun y hr => Classical.byContradiction (fun h2 => hy ⟨y, hr, h2⟩))))
 let nx : {x : St // ¬Acc (fun y x => ∃ t d, Nxt P t d x y) x} → {x : St // ¬Acc (fun y x => ∃ t d, Nxt P t d x y) x} := fun x => ⟨Classical.choose (ex x.1 x.2), (Classical.choose_spec (ex x.1 x.2)).2⟩
 let f : Nat → {x : St // ¬Acc (fun y x => ∃ t d, Nxt P t d x y) x} := fun n => Nat.rec ⟨s, hno⟩ (fun _ x => nx x) n
 have st : ∀ n, ∃ t d, Nxt P t d (f n).1 (f (n + 1)).1 := fun n => (Classical.choose_spec (ex (f n).1 (f n).2)).1
 let tt : Nat → Tape := fun n => Classical.choose (st n)
 let dd : Nat → Nat := fun n => Classical.choose (Classical.choose_spec (st n))
 have nn : ∀ n, Nxt P (tt n) (dd n) (f n).1 (f (n + 1)).1 := fun n => Classical.choose_spec (Classical.choose_spec (st n))
 have inv : ∀ n, Inv P Post (f n).1 := by
  intro n
  induction n with
  | zero => exact h
  | succ n ih => exact (inv_next hz hG hc ih (nn n)).1
 let used : Nat → Nat := fun n => (f (n + 1)).1.w.drawn - dd n
 let pos : Nat → Nat := fun n => Nat.rec 0 (fun n x => x + used n) n
 have pos_s : ∀ n, pos (n + 1) = pos n + used n := fun n => rfl
 have mono : ∀ n m, n ≤ m → pos n ≤ pos m := by
  intro n m hm
  induction hm with
  | refl => exact Nat.le_refl _
  | step _ ih => rw [pos_s]; omega
 have uniq : ∀ n m j, pos n ≤ j → j < pos (n + 1) → pos m ≤ j → j < pos (m + 1) → m = n := by
  intro n m j h1 h2 h3 h4
  rcases Nat.lt_trichotomy n m with l | l | l
  ·have := mono (n + 1) m l
   omega
  ·exact l.symm
  ·have := mono (m + 1) n l
   omega
 let T : Tape := fun j => open Classical in if h : ∃ n, pos n ≤ j ∧ j < pos (n + 1) then tt (Classical.choose h) (dd (Classical.choose h) + (j - pos (Classical.choose h))) else fun _ => 0
 have T_at : ∀ n i, i < used n → T (pos n + i) = tt n (dd n + i) := by
  classical
  intro n i hi
  have hp := pos_s n
  have he : ∃ m, pos m ≤ pos n + i ∧ pos n + i < pos (m + 1) := ⟨n, by omega, by omega⟩
  have hs := Classical.choose_spec he
  have hm : Classical.choose he = n := uniq n (Classical.choose he) (pos n + i) (by omega) (by omega) hs.1 hs.2
  show (if h : ∃ m, pos m ≤ pos n + i ∧ pos n + i < pos (m + 1) then tt (Classical.choose h) (dd (Classical.choose h) + (pos n + i - pos (Classical.choose h))) else fun _ => 0) = _
  rw [dif_pos he, hm]
  congr 1
  omega
 have run : ∀ k n, runN P k (lone (f n).1.a ((f n).1.as ++ [floor]) (wt (f n).1.w T (pos n))) = .next (lone (f (n + k)).1.a ((f (n + k)).1.as ++ [floor]) (wt (f (n + k)).1.w T (pos (n + k)))) := by
  intro k
  induction k with
  | zero => intro n; rfl
  | succ k ih =>
   intro n
   obtain ⟨_, hd, hst⟩ := inv_next hz hG hc (inv n) (nn n)
   obtain ⟨es, hst⟩ := hst T (pos n) (fun i hi => (T_at n i (by show i < (f (n + 1)).1.w.drawn - dd n; omega)).symm)
   simp only [runN, next_lone hst]
   have := ih (n + 1)
   rw [show n + 1 + k = n + (k + 1) by omega] at this
   exact this
 obtain ⟨n, fr, v, w', e, hl, _⟩ := h.1 T 0
 have e1 := run n 0
 rw [Nat.zero_add] at e1
 have e2 : runN P n (lone s.a (s.as ++ [floor]) (wt s.w T 0)) = .next (lone (f n).1.a ((f n).1.as ++ [floor]) (wt (f n).1.w T (pos n))) := e1
 rw [e] at e2
 simp only [Stepped.next.injEq, lone, Machine.mk.injEq] at e2
 have e3 := e2.2.1
 simp at e3
 exact (nn n).1 ⟨by rw [← e3.1]; exact hl.1, e3.2⟩
end
end Go.Proofs.Ytpeoabopeihadaa.Sim
/- A lone run, taken by goroutine 0 beside goroutines that only leave: up to its end, or to a function that parts. No program of the project in this text. -/
namespace Go.Proofs.Ytpeoabopeihadaa.Sim
open Go Go.Conc
open Go.ConcN (sumTo upd sumTo_upd upd_ne upd_same)
section
variable [Glob] {P : Program} {p : Ren}
theorem end_any (hc : Codes P) {a b : Frame} (ha : FR P p a b) (hm : a.mode = .returning) {n : Nat} {w w' : World} {fr : Frame} {as2 : List Frame} (e : runN P n (lone a [floor] w) = .next (lone fr (as2 ++ [floor]) w')) : n = 0 := by
 cases n with
 | zero => rfl
 | succ n =>
  exfalso
  obtain ⟨f, xs, ys, k, m, rfl, rfl, h3, h4, h5, h6⟩ := ha
  have hm : m = .returning := hm
  subst hm
  obtain ⟨fn, c, h1, _, _, _⟩ := hc.2 f h3
  cases hr : (results fn xs).runT P w #[] with
  | mk r es =>
  cases r with
  | ok v w1 =>
   have s1 : stepG P true (gor (mkF f xs k .returning) [floor]) w = .go (gor (floor.finish v) []) w1 (seen P f es) := by
    simp only [stepG, gor, mkF, unwind, h1, hr, doReturn, GStep.after, Array.append_empty]
   have s2 := next_lone s1
   simp only [runN, s2] at e
   cases n with
   | zero => simp [runN, lone] at e
   | succ n =>
    obtain ⟨o, w2, h2⟩ := floor_over (P := P) (v := v) (w := w1)
    simp only [runN, h2] at e
    cases e
  | halt x w1 =>
   have s1 : ∃ o w2 es, stepG P true (gor (mkF f xs k .returning) [floor]) w = .ended o w2 es := by
    cases x <;>
     (refine ⟨?_, ?_, ?_, ?hh⟩
      case hh =>
       simp only [stepG, gor, mkF, unwind, h1, hr, GStep.after]
       rfl)
   obtain ⟨o, w2, es2, s1⟩ := s1
   simp only [runN, ended_lone s1] at e
   cases e
abbrev Ahead (P : Program) : St → St → Prop := fun y x => ∃ t d, Nxt P t d x y
structure Kp (p q : Ren) (w w1 u u1 : World) : Prop where
 le : Le p q
 size : u.heap.size ≤ u1.heap.size
 lsize : w.heap.size ≤ w1.heap.size
 fresh : ∀ b c, q b = some c → p b = some c ∨ (w.heap.size ≤ b ∧ u.heap.size ≤ c)
 other : ∀ c, c < u.heap.size → (∀ b, p b ≠ some c) → u1.heap[c]? = u.heap[c]?
 os : u1.os = u.os
 tape : u1.tape = u.tape
 out : u1.output = u.output
 still : ∀ b c, p b = some c → Fz w b → u1.heap[c]? = u.heap[c]? ∧ w1.heap[b]? = w.heap[b]?
theorem Kp.refl (p : Ren) (w u : World) : Kp p p w w u u := ⟨Le.refl _, Nat.le_refl _, Nat.le_refl _, fun _ _ e => .inl e, fun _ _ _ => rfl, rfl, rfl, rfl, fun _ _ _ _ => ⟨rfl, rfl⟩⟩
theorem Kp.trans {p q r : Ren} {w w1 w2 u u1 u2 : World} (h : Kp p q w w1 u u1) (k : Kp q r w1 w2 u1 u2) : Kp p r w w2 u u2 where
 le := h.le.trans k.le
 size := Nat.le_trans h.size k.size
 lsize := Nat.le_trans h.lsize k.lsize
 fresh b c e := by
  rcases k.fresh b c e with e | ⟨e1, e2⟩
  ·exact h.fresh b c e
  ·exact .inr ⟨Nat.le_trans h.lsize e1, Nat.le_trans h.size e2⟩
 other c hc hn := by
  rw [k.other c (Nat.lt_of_lt_of_le hc h.size), h.other c hc hn]
  intro b e
  rcases h.fresh b c e with e | ⟨_, e⟩
  ·exact hn b e
  ·omega
 os := k.os.trans h.os
 tape := k.tape.trans h.tape
 out := k.out.trans h.out
 still b c e f := by
  obtain ⟨h1, h2⟩ := h.still b c e f
  have f1 : Fz w1 b := by
   obtain ⟨xs, t, hi, e1, e2⟩ := f
   exact ⟨xs, t, hi, h2.trans e1, e2⟩
  obtain ⟨k1, k2⟩ := k.still b c (h.le b c e) f1
  exact ⟨k1.trans h1, k2.trans h2⟩
structure Rel (P : Program) (p : Ren) (s : St) (b : Frame) (bs : List Frame) (u : World) : Prop where
 gp : GP p
 wr : WR p s.w u
 fr : FR P p s.a b
 sk : SKR P p s.as bs
theorem Rel.at {s : St} {b : Frame} {bs : List Frame} {u : World} (h : Rel P p s b bs u) (d : Nat) : Rel P p s b bs (u.at d) := ⟨h.gp, ⟨h.wr.blk, h.wr.inj, h.wr.big, h.wr.dead⟩, h.fr, h.sk⟩
theorem evs_ok {q : Ren} {F : Nat → Prop} {w u : World} (hw : WR q w u) : ∀ {es es' : List Event}, EL q F es es' → ∀ e ∈ es', EvL (fun _ => False) u.heap.size e
 | [], [], _, e, he => by cases he
 | x :: xs, y :: ys, h, e, he => by
  rcases List.mem_cons.1 he with rfl | he
  ·rcases h.1 with ⟨a, a', e1, e2, e3, _⟩ | ⟨⟨m, mo, e1⟩, e2⟩ | ⟨b, c, e1, e2, e3⟩
   ·rw [e2]
    exact evL_cell a' _ (fun h => h) (hw.lt e3.1).2
   ·rw [e2, e1]
    refine ⟨fun _ _ h => h.elim, ?_, ?_, ?_⟩
    ·cases m <;> simp [MarkOk] at mo ⊢
    ·cases m <;> simp [MarkOk] at mo ⊢
    ·cases m <;> simp [MarkOk] at mo <;> exact trivial
   ·rw [e2]
    exact ⟨fun _ _ h => h.elim, by simp, by simp, (hw.lt e3).2⟩
  ·exact evs_ok hw h.2 e he
end
end Go.Proofs.Ytpeoabopeihadaa.Sim
/- A lone run, taken by goroutine 0 beside goroutines that only leave: up to its end, or to a function that parts. No program of the project in this text. -/
namespace Go.Proofs.Ytpeoabopeihadaa.Sim
open Go Go.Conc
open Go.ConcN (sumTo upd sumTo_upd upd_ne upd_same)
section
variable [Glob] {P : Program} {p : Ren}
theorem fr_fn {a b : Frame} (h : FR P p a b) : a.fn = b.fn := by
 obtain ⟨f, xs, ys, k, m, rfl, rfl, _⟩ := h
 rfl
theorem sh_nc {f : FuncId} {b1 : Frame} {bs bs1 : List Frame} (hf : Glob.cut f = false) (h : ∀ x ∈ bs, Glob.cut x.fn = false) (k : Sh f bs b1 bs1) : ∀ x ∈ bs1, Glob.cut x.fn = false := by
 rcases k with ⟨_, rfl⟩ | ⟨y, h1, rfl⟩ | ⟨y, rfl, _⟩
 ·exact h
 ·intro x hx
  rcases List.mem_cons.1 hx with rfl | hx
  ·rw [h1]; exact hf
  ·exact h x hx
 ·exact fun x hx => h x (List.mem_cons_of_mem _ hx)
structure Got (P : Program) (Post : Value → Array Obj → Prop) (cs : List Frame) (p : Ren) (s : St) (u : World) (n : Nat) (s' : St) (p' : Ren) (gs' : Array Goroutine) (b' b2 : Frame) (bs' : List Frame) (u' : World) (t' : Trace) (q' : Nat → Nat) : Prop where
 size : gs'.size = n
 zero : gs'[0]? = some (gor b2 (bs' ++ cs))
 leave : Leavers (co P) t' gs' q'
 past : Past (fun _ => False) u'.heap.size t'
 ends : AllEnd P Post s'.a s'.as s'.w
 rel : Rel P p' s' b' bs' u'
 acc : Acc (Ahead P) s'
 nc : ∀ x ∈ bs', Glob.cut x.fn = false
 kp : Kp p p' s.w s'.w u u'
theorem plain_run (hz : Zero P) (hG : Glob.size = P.globals.size) (hc : Codes P) {Post : Value → Array Obj → Prop} {cs : List Frame} : ∀ {s : St}, Acc (Ahead P) s → ∀ (M : Nat) {p : Ren} {gs : Array Goroutine} {b : Frame} {bs : List Frame} {u : World} {sl : Option (Nat × Nat)} {t : Trace} {q : Nat → Nat},
  AllEnd P Post s.a s.as s.w → Rel P p s b bs u → Glob.cut b.fn = false → (∀ x ∈ bs, Glob.cut x.fn = false) → gs[0]? = some (gor b (bs ++ cs)) → Leavers (co P) t gs q → sumTo gs.size q ≤ M → Past (fun _ => False) u.heap.size t →
  ∃ N s' p' gs' b' b2 bs' u' sl' t' q', runNT (co P) N (crowd gs u sl) t = (.next (crowd gs' u' sl'), t') ∧ Got P Post cs p s u gs.size s' p' gs' b' b2 bs' u' t' q' ∧
   ((s'.over ∧ b2 = b') ∨ ∃ g ys, (Glob.cut g = true ∧ ys.size = ary g) ∧ b' = Frame.enter P g ys .normal ∧ b2 = Frame.enter (co P) g ys .normal) := by
 intro s hA
 induction hA with
 | intro s hA0 ih =>
 intro M
 induction M using Nat.strongRecOn with
 | ind M ihM =>
 intro p gs b bs u sl t q H hR hb hbs h0 hL hM hP
 by_cases no : s.a.mode = .returning ∧ s.as = []
 ·exact ⟨0, s, p, gs, b, b, bs, u, sl, t, q, rfl, ⟨rfl, h0, hL, hP, H, hR, Acc.intro s hA0, hbs, Kp.refl _ _ _⟩, .inl ⟨no, rfl⟩⟩
 have hrun : (gor b (bs ++ cs)).status = .running := rfl
 have haw : ∀ g ∈ gs, awake g := by
  intro g hg
  obtain ⟨i, hi, rfl⟩ := Array.mem_iff_getElem.1 hg
  rcases Nat.eq_zero_or_pos i with rfl | hpos
  ·have : gs[0] = gor b (bs ++ cs) := by simpa [Array.getElem?_eq_getElem hi] using h0
   rw [this]; exact awake_of (.inl hrun)
  ·exact awake_of ((hL.old i _ hpos (Array.getElem?_eq_getElem hi)).status.elim .inl fun x => .inr (.inr x))
 obtain ⟨i, g, d, sl', hi, hg, hst⟩ := crowd_pick (P := co P) (w := u) (sl := sl) haw ⟨0, _, h0, hrun⟩
 rcases Nat.eq_zero_or_pos i with rfl | hpos
 ·obtain rfl : g = gor b (bs ++ cs) := by rw [h0] at hi; exact (Option.some.inj hi).symm
  have hR' := hR.at d
  obtain ⟨p1, a1, b1, as1, bs1, w1, u1, es, es', g2, g3, g4, g5, g6, g7, g8, g9⟩ := own_step (main := true) (cs := cs) hz hG hc hR'.gp hR'.wr hR'.fr hR'.sk no H
  have hcut : Glob.cut s.a.fn = false := by rw [fr_fn hR.fr]; exact hb
  obtain ⟨b2, hgo, hcb, hsh⟩ := g9 hcut
  have hrunT := runT_crowd_go (P := co P) (sl := sl') (i := 0) hi (show stepG (co P) (0 == 0) _ (u.at d) = _ from hgo)
  have hsz : ((gs.map (woken (co P) (gor b (bs ++ cs)) (gor b2 (bs1 ++ cs)) u1)).setIfInBounds 0 (gor b2 (bs1 ++ cs))).size = gs.size := by simp
  have hlt : 0 < gs.size := (Array.getElem?_eq_some_iff.1 h0).1
  have hle : u.heap.size ≤ u1.heap.size := g5.size
  have hP1 : Past (fun _ => False) u1.heap.size (t ++ MemOp.ofEvents 0 (gor b (bs ++ cs)).frame.fn (gor b (bs ++ cs)).frame.place es') := (hP.mono hle).own (fun e he => evs_ok g5.wr g6 e (by simpa using he))
  have hL1 : Leavers (co P) (t ++ MemOp.ofEvents 0 (gor b (bs ++ cs)).frame.fn (gor b (bs ++ cs)).frame.place es') ((gs.map (woken (co P) (gor b (bs ++ cs)) (gor b2 (bs1 ++ cs)) u1)).setIfInBounds 0 (gor b2 (bs1 ++ cs))) q :=
   ⟨fun j x hj hx => by
    have hne : 0 ≠ j := by omega
    rw [Array.getElem?_setIfInBounds_ne hne, Array.getElem?_map] at hx
    obtain ⟨y, hy, rfl⟩ := Option.map_eq_some_iff.1 hx
    have hq := hL.old j y hj hy
    rw [woken_quitsD hq, Deaf_other t (by omega) _ (fun op hop => by obtain ⟨e, _, rfl⟩ := Go.Conc.mem_ofEvents hop; rfl)]
    exact hq, fun j hj => by
    rw [Deaf_other t (g' := 0) (by simp at hj; omega) _ (fun op hop => by obtain ⟨e, _, rfl⟩ := Go.Conc.mem_ofEvents hop; rfl)]
    exact hL.above j (by simpa using hj)⟩
  have h01 : ((gs.map (woken (co P) (gor b (bs ++ cs)) (gor b2 (bs1 ++ cs)) u1)).setIfInBounds 0 (gor b2 (bs1 ++ cs)))[0]? = some (gor b2 (bs1 ++ cs)) := by simp [hlt]
  have hR1 : Rel P p1 ⟨a1, as1, w1⟩ b1 bs1 u1 := ⟨hR.gp.le g5.le, g5.wr, g3, g4⟩
  have nx : Nxt P (u.at d).tape (u.at d).drawn s ⟨a1, as1, w1⟩ := ⟨no, es, g8⟩
  have hK1 : Kp p p1 s.w w1 u u1 := ⟨g5.le, g5.size, g5.lsize, g5.fresh, g5.other, g5.os, g5.tape, g5.out, g5.still⟩
  have hbs1 := sh_nc hcut hbs hsh
  have hacc : Acc (Ahead P) ⟨a1, as1, w1⟩ := hA0 _ ⟨_, _, nx⟩
  have fin : ∀ (hx : ∃ g ys, (Glob.cut g = true ∧ ys.size = ary g) ∧ b1 = Frame.enter P g ys .normal ∧ b2 = Frame.enter (co P) g ys .normal), ∃ N s' p' gs' b' b2 bs' u' sl' t' q', runNT (co P) N (crowd gs u sl) t = (.next (crowd gs' u' sl'), t') ∧ Got P Post cs p s u gs.size s' p' gs' b' b2 bs' u' t' q' ∧
   ((s'.over ∧ b2 = b') ∨ ∃ g ys, (Glob.cut g = true ∧ ys.size = ary g) ∧ b' = Frame.enter P g ys .normal ∧ b2 = Frame.enter (co P) g ys .normal) := fun hx =>
   ⟨1, ⟨a1, as1, w1⟩, p1, _, b1, b2, bs1, u1, sl', _, q, by simp only [runNT, hst, hrunT], ⟨hsz, h01, hL1, hP1, g7, hR1, hacc, hbs1, hK1⟩, .inr hx⟩
  rcases hcb with ⟨rfl, hnc⟩ | hx
  ·have hcb1 : Glob.cut b2.fn = false := by
    rcases hnc with h1 | h1 | ⟨y, h1, h2⟩
    ·rw [h1]; exact hcut
    ·exact h1
    ·rw [h2]; exact hbs y h1
   obtain ⟨N, s', p', gs', b', b2', bs', u', sl'', t', q', r1, r2, r3⟩ := ih _ ⟨_, _, nx⟩ (sumTo gs.size q) (sl := sl') g7 hR1 hcb1 hbs1 h01 hL1 (by rw [hsz]; exact Nat.le_refl _) hP1
   exact ⟨N + 1, s', p', gs', b', b2', bs', u', sl'', t', q', by simp only [runNT, hst, hrunT]; exact r1, ⟨r2.size.trans hsz, r2.zero, r2.leave, r2.past, r2.ends, r2.rel, r2.acc, r2.nc, hK1.trans r2.kp⟩, r3⟩
  ·exact fin hx
 ·have hq := hL.old i g hpos hi
  have hi0 : (i == 0) = false := by simp; omega
  have hlt : i < gs.size := (Array.getElem?_eq_some_iff.1 hi).1
  cases hqi : q i with
  | zero => rw [hqi] at hq; rw [hq.1] at hg; cases hg
  | succ k =>
   rw [hqi] at hq
   rcases hq with ⟨hf, _⟩ | ⟨_, g', es, hm, hstp, hq'⟩
   ·rw [hf] at hg; cases hg
   have hrunT := runT_crowd_go (P := co P) (sl := sl') (i := i) hi (by rw [hi0]; exact hstp (u.at d))
   have hsz : ((gs.map (woken (co P) g g' (u.at d))).setIfInBounds i g').size = gs.size := by simp
   have hsum : sumTo gs.size (upd q i k) + (k + 1) = sumTo gs.size q + k := by
    have := sumTo_upd q k id hlt
    simpa [hqi] using this
   have h01 : ((gs.map (woken (co P) g g' (u.at d))).setIfInBounds i g')[0]? = some (gor b (bs ++ cs)) := by
    have hne : i ≠ 0 := by omega
    rw [Array.getElem?_setIfInBounds_ne hne, Array.getElem?_map, h0]
    simp [woken_run hrun]
   have hL1 : Leavers (co P) (t ++ MemOp.ofEvents i g.frame.fn g.frame.place es) ((gs.map (woken (co P) g g' (u.at d))).setIfInBounds i g') (upd q i k) :=
    ⟨fun j x hj hx => by
     by_cases hji : i = j
     ·subst hji
      rw [Array.getElem?_setIfInBounds_self_of_lt (by simpa using hlt)] at hx
      obtain rfl := Option.some.inj hx
      rw [upd_same, Deaf_own]
      exact hq'
     ·rw [Array.getElem?_setIfInBounds_ne hji, Array.getElem?_map] at hx
      obtain ⟨y, hy, rfl⟩ := Option.map_eq_some_iff.1 hx
      have hqj := hL.old j y hj hy
      rw [woken_quitsD hqj, upd_ne q k (Ne.symm hji), Deaf_other t hji _ (fun op hop => by obtain ⟨e, _, rfl⟩ := Go.Conc.mem_ofEvents hop; rfl)]
      exact hqj, fun j hj => by
     rw [Deaf_other t (g' := i) (by simp at hj; omega) _ (fun op hop => by obtain ⟨e, _, rfl⟩ := Go.Conc.mem_ofEvents hop; rfl)]
     exact hL.above j (by simpa using hj)⟩
   obtain ⟨N, s', p', gs', b', b2', bs', u', sl'', t', q', r1, r2, r3⟩ := ihM (sumTo gs.size (upd q i k)) (by omega) (sl := sl') H (hR.at d) hb hbs h01 hL1 (by rw [hsz]; exact Nat.le_refl _) (hP.mute (by omega) hm)
   exact ⟨N + 1, s', p', gs', b', b2', bs', u', sl'', t', q', by simp only [runNT, hst, hrunT]; exact r1, ⟨r2.size.trans hsz, r2.zero, r2.leave, r2.past, r2.ends, r2.rel, r2.acc, r2.nc, ⟨r2.kp.le, r2.kp.size, r2.kp.lsize, r2.kp.fresh, r2.kp.other, r2.kp.os, r2.kp.tape, r2.kp.out, r2.kp.still⟩⟩, r3⟩
end
end Go.Proofs.Ytpeoabopeihadaa.Sim
