/- Several goroutines at work, each in memory of its own, and reading what nobody writes: no data race, and whoever takes another's answer knows all that the other did. No program of the project in this text. -/
import Derived.Test.YtpeoabopeihadaaNQB
import Derived.Conc.TokenTrace
import Derived.Conc.Token
import Derived.Conc.CrowdSel
import Derived.Conc.Own3
import Derived.Conc.Own2
import Derived.Conc.CompanyDraw
import Derived.Conc.Listed
import Derived.Orders
set_option linter.unusedVariables false
set_option linter.unusedSimpArgs false
set_option linter.unusedSectionVars false
namespace Go.Proofs.Ytpeoabopeihadaa.Sim
open Go Go.Conc
section
def blkOf : Loc → Option Nat
 | .cell a => some a.block
 | .obj r => some r
 | _ => none
def EvR (own rd : Nat → Prop) (e : Event) : Prop :=
 (∃ a wr, e = ⟨.cell a, wr, false⟩ ∧ (own a.block ∨ (wr = false ∧ rd a.block))) ∨ (∃ m, MarkOk m ∧ e = ⟨.mark m, false, true⟩) ∨ ∃ c, e = ⟨.obj c, false, false⟩ ∧ (own c ∨ rd c)
theorem EvR.touch {own rd : Nat → Prop} {e : Event} (h : EvR own rd e) {x : Touch} (hx : (MemAct.ofEvent e).touch? = some x) : ∃ b, blkOf x.loc = some b ∧ (own b ∨ (x.write = false ∧ rd b)) := by
 rcases h with ⟨a, wr, rfl, h1⟩ | ⟨m, mo, rfl⟩ | ⟨c, rfl, h1⟩
 ·have e2 : MemAct.ofEvent ⟨.cell a, wr, false⟩ = .access ⟨.cell a, wr, false⟩ := rfl
  rw [e2] at hx
  simp only [MemAct.touch?, Option.some.injEq] at hx
  subst hx
  exact ⟨a.block, rfl, h1⟩
 ·cases m <;> simp [MarkOk] at mo <;> simp [MemAct.ofEvent, MemAct.touch?] at hx
 ·have e2 : MemAct.ofEvent ⟨.obj c, false, false⟩ = .access ⟨.obj c, false, false⟩ := rfl
  rw [e2] at hx
  simp only [MemAct.touch?, Option.some.injEq] at hx
  subst hx
  exact ⟨c, rfl, h1.imp id fun h => ⟨rfl, h⟩⟩
theorem EvR.still {own rd : Nat → Prop} {e : Event} (h : EvR own rd e) : e.loc ≠ .mark .disable ∧ e.loc ≠ .mark .enable := by
 rcases h with ⟨a, wr, rfl, h1⟩ | ⟨m, mo, rfl⟩ | ⟨c, rfl, h1⟩
 ·exact ⟨by simp, by simp⟩
 ·cases m <;> simp [MarkOk] at mo <;> exact ⟨by simp, by simp⟩
 ·exact ⟨by simp, by simp⟩
theorem EvR.low {own rd : Nat → Prop} {B : Nat} {e : Event} (h : EvR own rd e) (ho : ∀ b, own b → b < B) (hr : ∀ b, rd b → b < B) : (MemAct.ofEvent e).low B := by
 rcases h with ⟨a, wr, rfl, h1⟩ | ⟨m, mo, rfl⟩ | ⟨c, rfl, h1⟩
 ·show a.block < B
  exact h1.elim (ho _) (fun h => hr _ h.2)
 ·cases m <;> simp [MarkOk] at mo <;> exact trivial
 ·show c < B
  exact h1.elim (ho _) (hr _)
structure TI (A : Nat → Prop) (own rd : Nat → Nat → Prop) (B : Nat) (t : Trace) : Prop where
 clean : ∀ said, ¬ Race said t
 known : ∀ i a, touchAt t i = some a → a.loc.isMemory = true → ∀ g, A g → Knows t g i ∨ ∃ b, blkOf a.loc = some b ∧ ¬ own g b ∧ (a.write = false ∨ ¬ rd g b)
 some1 : ∀ i a, touchAt t i = some a → a.loc.isMemory = true → ∃ g, A g ∧ Knows t g i
 hears : ∀ g, A g → Deaf t g = 0
 seen : ∀ op ∈ t, op.act.low B
theorem TI.mono {A : Nat → Prop} {own rd : Nat → Nat → Prop} {B B' : Nat} {t : Trace} (h : TI A own rd B t) (hB : B ≤ B') : TI A own rd B' t := ⟨h.clean, h.known, h.some1, h.hears, fun op hop => MemAct.low_mono hB (h.seen op hop)⟩
theorem blk_low {B : Nat} {op : MemOp} (h : op.act.low B) {x : Touch} (hx : op.act.touch? = some x) {b : Nat} (hb : blkOf x.loc = some b) : b < B := by
 cases hact : op.act with
 | access e =>
  rw [hact] at h hx
  simp only [MemAct.touch?, Option.some.injEq] at hx
  subst hx
  have h : e.loc.low B := h
  cases hl : e.loc with
  | cell a => rw [hl] at h; simp only [hl, blkOf, Option.some.injEq] at hb; subst hb; exact h
  | obj r => rw [hl] at h; simp only [hl, blkOf, Option.some.injEq] at hb; subst hb; exact h
  | _ => simp only [hl, blkOf] at hb; cases hb
 | mark m =>
  rw [hact] at h hx
  cases m <;> simp only [MemAct.touch?, reduceCtorEq, Option.some.injEq] at hx
  ·subst hx; simp only [blkOf, Option.some.injEq] at hb; subst hb; exact h
  ·subst hx; simp only [blkOf, Option.some.injEq] at hb; subst hb; exact h
 | _ => rw [hact] at hx; simp [MemAct.touch?] at hx
theorem TI.rights {A : Nat → Prop} {own rd own' rd' : Nat → Nat → Prop} {B : Nat} {t : Trace} (h : TI A own rd B t) (ho : ∀ g b, A g → own' g b → own g b ∨ B ≤ b) (hr : ∀ g b, A g → rd' g b → own g b ∨ rd g b ∨ B ≤ b) : TI A own' rd' B t := by
 refine ⟨h.clean, fun i a ha hm g hg => ?_, h.some1, h.hears, h.seen⟩
 rcases h.known i a ha hm g hg with k | ⟨b, h1, h2, h3⟩
 ·exact .inl k
 ·obtain ⟨x, hx, hxa⟩ := touch_of ha
  have hlt := blk_low (h.seen x (mem_of_getElem? hx)) hxa h1
  refine .inr ⟨b, h1, fun k => ?_, ?_⟩
  ·rcases ho g b hg k with k | k
   ·exact h2 k
   ·omega
  ·rcases h3 with h3 | h3
   ·exact .inl h3
   ·by_cases hw : a.write = false
    ·exact .inl hw
    ·refine .inr fun k => ?_
     rcases hr g b hg k with k | k | k
     ·exact h2 k
     ·exact h3 k
     ·omega
theorem TI.own {A : Nat → Prop} {own rd : Nat → Nat → Prop} {B : Nat} {t : Trace} (h : TI A own rd B t) {g : Nat} (hg : A g) (apart : ∀ g' b, A g' → g' ≠ g → (own g b → ¬ own g' b ∧ ¬ rd g' b) ∧ (rd g b → ¬ own g' b)) (ho : ∀ b, own g b → b < B) (hr : ∀ b, rd g b → b < B) {fn : FuncId} {pos : String} {es : Array Event} (hes : ∀ e ∈ es, EvR (own g) (rd g) e) : TI A own rd B (t ++ MemOp.ofEvents g fn pos es) := by
 have hu : ∀ op ∈ MemOp.ofEvents g fn pos es, op.g = g := fun op hop => by obtain ⟨e, _, rfl⟩ := Go.Conc.mem_ofEvents hop; rfl
 have ht : ∀ op ∈ MemOp.ofEvents g fn pos es, ∀ x, op.act.touch? = some x → ∃ b, blkOf x.loc = some b ∧ (own g b ∨ (x.write = false ∧ rd g b)) := fun op hop x hx => by
  obtain ⟨e, he, rfl⟩ := Go.Conc.mem_ofEvents hop
  exact (hes e he).touch hx
 refine ⟨fun said => noRace_append (h.clean said) hu fun i a ha op hop b hb hc => ?_, fun i a ha hm g' hg' => ?_, fun i a ha hm => ?_, fun g' hg' => ?_, seen_app h.seen fun op hop => ?_⟩
 ·rcases h.known i a ha hc.2.1 g hg with k | ⟨x, h1, h2, h3⟩
  ·exact k
  ·exfalso
   obtain ⟨y, h4, h5⟩ := ht op hop b hb
   have e : x = y := by rw [← hc.1, h1] at h4; exact Option.some.inj h4
   subst e
   rcases h5 with h5 | ⟨h5, h6⟩
   ·exact h2 h5
   ·rcases h3 with h3 | h3
    ·rcases hc.2.2.1 with k | k
     ·rw [h3] at k; cases k
     ·rw [h5] at k; cases k
    ·exact h3 h6
 ·obtain ⟨x, hx, hxa⟩ := touch_of ha
  rcases getElem?_append_cases hx with ⟨_, hx'⟩ | ⟨_, hxu⟩
  ·exact (h.known i a (by rw [touchAt_of hx']; exact hxa) hm g' hg').imp (·.app _) id
  ·by_cases e : g' = g
   ·have := knows_own hx
    rw [hu x hxu] at this
    rw [e]
    exact .inl this
   ·obtain ⟨b, h1, h2⟩ := ht x hxu a hxa
    have ap := apart g' b hg' e
    rcases h2 with h2 | ⟨h2, h3⟩
    ·exact .inr ⟨b, h1, (ap.1 h2).1, .inr (ap.1 h2).2⟩
    ·exact .inr ⟨b, h1, ap.2 h3, .inl h2⟩
 ·obtain ⟨x, hx, hxa⟩ := touch_of ha
  rcases getElem?_append_cases hx with ⟨_, hx'⟩ | ⟨_, hxu⟩
  ·obtain ⟨g', h1, h2⟩ := h.some1 i a (by rw [touchAt_of hx']; exact hxa) hm
   exact ⟨g', h1, h2.app _⟩
  ·have := knows_own hx
   rw [hu x hxu] at this
   exact ⟨g, hg, this⟩
 ·by_cases e : g' = g
  ·rw [e, Deaf_own, deafBehind_still (fun e he => (hes e he).still), h.hears g hg]
  ·rw [Deaf_other t (fun k => e k.symm) _ hu]
   exact h.hears g' hg'
 ·obtain ⟨e, he, rfl⟩ := Go.Conc.mem_ofEvents hop
  exact (hes e he).low ho hr
theorem TI.appMute {A : Nat → Prop} {own rd : Nat → Nat → Prop} {B : Nat} {t u : Trace} (h : TI A own rd B t) (hn : ∀ op ∈ u, op.act.touch? = none) (hd : ∀ g, A g → Deaf (t ++ u) g = Deaf t g) (hl : ∀ op ∈ u, op.act.low B) : TI A own rd B (t ++ u) := by
 refine ⟨fun said => noRace_appendMute (h.clean said) hn, fun i a ha hm g hg => ?_, fun i a ha hm => ?_, fun g hg => (hd g hg).trans (h.hears g hg), seen_app h.seen hl⟩
 ·obtain ⟨x, hx, hxa⟩ := touch_of ha
  rcases getElem?_append_cases hx with ⟨_, hx'⟩ | ⟨_, hxu⟩
  ·exact (h.known i a (by rw [touchAt_of hx']; exact hxa) hm g hg).imp (·.app _) id
  ·rw [hn x hxu] at hxa; cases hxa
 ·obtain ⟨x, hx, hxa⟩ := touch_of ha
  rcases getElem?_append_cases hx with ⟨_, hx'⟩ | ⟨_, hxu⟩
  ·obtain ⟨g', h1, h2⟩ := h.some1 i a (by rw [touchAt_of hx']; exact hxa) hm
   exact ⟨g', h1, h2.app _⟩
  ·rw [hn x hxu] at hxa; cases hxa
theorem TI.mute {A : Nat → Prop} {own rd : Nat → Nat → Prop} {B : Nat} {t : Trace} (h : TI A own rd B t) {g : Nat} (hg : ¬ A g) {fn : FuncId} {pos : String} {es : Array Event} (hm : ∀ e ∈ es, e.mute = true) : TI A own rd B (t ++ MemOp.ofEvents g fn pos es) :=
 h.appMute (fun op hop => by obtain ⟨e, he, rfl⟩ := Go.Conc.mem_ofEvents hop; exact touch_mute (hm e he))
  (fun g' hg' => Deaf_other t (g' := g) (fun e : g = g' => hg (by rw [e]; exact hg')) _ (fun op hop => by obtain ⟨e, _, rfl⟩ := Go.Conc.mem_ofEvents hop; rfl))
  (fun op hop => by obtain ⟨e, he, rfl⟩ := Go.Conc.mem_ofEvents hop; exact low_mute (hm e he) B)
theorem TI.hire {A : Nat → Prop} {own rd : Nat → Nat → Prop} {B h c : Nat} {t : Trace} (H : TI A own rd B t) (hh : A h) (hcA : ¬ A c) (hc0 : Deaf t c = 0) (ho : ∀ b, own c b → own h b) (hr : ∀ b, rd c b → own h b ∨ rd h b) (fh : FuncId) (ph : String) (fc : FuncId) :
  TI (fun g => A g ∨ g = c) own rd B (t ++ #[{ g := h, fn := fh, pos := ph, act := .go c }, { g := c, fn := fc, pos := ph, act := .start }]) := by
 generalize hu : (#[{ g := h, fn := fh, pos := ph, act := .go c }, { g := c, fn := fc, pos := ph, act := .start }] : Trace) = u
 have hn : ∀ op ∈ u, op.act.touch? = none := by
  intro op hop
  subst hu
  simp only [List.mem_toArray, List.mem_cons, List.not_mem_nil, or_false] at hop
  rcases hop with rfl | rfl <;> rfl
 have hq : ∀ g, ∀ op ∈ u, ∀ d, deafStep g d op = d := by
  intro g op hop d
  subst hu
  simp only [List.mem_toArray, List.mem_cons, List.not_mem_nil, or_false] at hop
  rcases hop with rfl | rfl <;> rfl
 have e0 : (t ++ u)[t.size]? = some { g := h, fn := fh, pos := ph, act := .go c } := by subst hu; simp
 have e1 : (t ++ u)[t.size + 1]? = some { g := c, fn := fc, pos := ph, act := .start } := by subst hu; simp
 have edge : HappensBefore (t ++ u) t.size (t.size + 1) :=
  Relation.TransGen.single (.inr ⟨.spawn (act?_of e0) (act?_of e1) (g?_of e1), ⟨h, g?_of e0, by rw [deaf_old (Nat.le_refl _)]; exact H.hears h hh⟩, ⟨c, g?_of e1, by rw [deaf_quiet (hq c) 1 (by subst hu; simp)]; exact hc0⟩⟩)
 refine ⟨fun said => noRace_appendMute (H.clean said) hn, fun i a ha hm g hg => ?_, fun i a ha hm => ?_, fun g hg => (Deaf_quiet (hq g)).trans (hg.elim (H.hears g) fun e => e ▸ hc0), seen_app H.seen fun op hop => ?_⟩
 ·obtain ⟨x, hx, hxa⟩ := touch_of ha
  rcases getElem?_append_cases hx with ⟨_, hx'⟩ | ⟨_, hxu⟩
  ·have hold := H.known i a (by rw [touchAt_of hx']; exact hxa) hm
   rcases hg with hg | rfl
   ·exact (hold g hg).imp (·.app u) id
   ·rcases hold h hh with k | ⟨b, h1, h2, h3⟩
    ·exact .inl ⟨t.size + 1, _, e1, rfl, .inr ((k.hb_new (Nat.le_refl _) e0 rfl).trans edge)⟩
    ·refine .inr ⟨b, h1, fun k => h2 (ho b k), ?_⟩
     rcases h3 with h3 | h3
     ·exact .inl h3
     ·exact .inr fun k => (hr b k).elim h2 h3
  ·rw [hn x hxu] at hxa; cases hxa
 ·obtain ⟨x, hx, hxa⟩ := touch_of ha
  rcases getElem?_append_cases hx with ⟨_, hx'⟩ | ⟨_, hxu⟩
  ·obtain ⟨g', h1, h2⟩ := H.some1 i a (by rw [touchAt_of hx']; exact hxa) hm
   exact ⟨g', .inl h1, h2.app _⟩
  ·rw [hn x hxu] at hxa; cases hxa
 ·subst hu
  simp only [List.mem_toArray, List.mem_cons, List.not_mem_nil, or_false] at hop
  rcases hop with rfl | rfl <;> trivial
theorem TI.give {A : Nat → Prop} {own rd : Nat → Nat → Prop} {B h j : Nat} {t : Trace} (H : TI A own rd B t) (hh : A h) (hj : A j) (hne : h ≠ j) (fh : FuncId) (ph : String) (fj : FuncId) (pj : String) {c : Nat} (k cap : Nat) (hc : c < B) :
  TI (fun g => A g ∧ g ≠ h) own rd B (t ++ met h j fh ph fj pj c k cap) := by
 have hn := met_mute h j fh ph fj pj c k cap
 have hq := met_quiet h j fh ph fj pj c k cap
 have e0 : (t ++ met h j fh ph fj pj c k cap)[t.size]? = some { g := h, fn := fh, pos := ph, act := .send c k } := by simp [met]
 have e3 : (t ++ met h j fh ph fj pj c k cap)[t.size + 3]? = some { g := j, fn := fj, pos := pj, act := .recvDone c k } := by simp [met]
 have edge : HappensBefore (t ++ met h j fh ph fj pj c k cap) t.size (t.size + 3) :=
  Relation.TransGen.single (.inr ⟨.handOver (act?_of e0) (act?_of e3), ⟨h, g?_of e0, by rw [deaf_old (Nat.le_refl _)]; exact H.hears h hh⟩, ⟨j, g?_of e3, by rw [deaf_quiet (hq j) 3 (by simp [met])]; exact H.hears j hj⟩⟩)
 refine ⟨fun said => noRace_appendMute (H.clean said) hn, fun i a ha hm g hg => ?_, fun i a ha hm => ?_, fun g hg => (Deaf_quiet (hq g)).trans (H.hears g hg.1), seen_app H.seen fun op hop => ?_⟩
 ·obtain ⟨x, hx, hxa⟩ := touch_of ha
  rcases getElem?_append_cases hx with ⟨_, hx'⟩ | ⟨_, hxu⟩
  ·exact (H.known i a (by rw [touchAt_of hx']; exact hxa) hm g hg.1).imp (·.app _) id
  ·rw [hn x hxu] at hxa; cases hxa
 ·obtain ⟨x, hx, hxa⟩ := touch_of ha
  rcases getElem?_append_cases hx with ⟨_, hx'⟩ | ⟨_, hxu⟩
  ·obtain ⟨g', h1, h2⟩ := H.some1 i a (by rw [touchAt_of hx']; exact hxa) hm
   by_cases e : g' = h
   ·subst e
    exact ⟨j, ⟨hj, fun e => hne e.symm⟩, t.size + 3, _, e3, rfl, .inr ((h2.hb_new (Nat.le_refl _) e0 rfl).trans edge)⟩
   ·exact ⟨g', ⟨h1, e⟩, h2.app _⟩
  ·rw [hn x hxu] at hxa; cases hxa
 ·simp only [met, List.mem_toArray, List.mem_cons, List.not_mem_nil, or_false] at hop
  rcases hop with rfl | rfl | rfl | rfl <;> exact hc
theorem TI.ofPast {own rd : Nat → Nat → Prop} {B : Nat} {t : Trace} (H : Past (fun _ => False) B t) : TI (fun g => g = 0) own rd B t :=
 ⟨H.clean, fun i a ha hm g hg => .inl (hg ▸ (H.known i a ha hm).elim id fun x => x.1.elim), fun i a ha hm => ⟨0, rfl, (H.known i a ha hm).elim id fun x => x.1.elim⟩, fun g hg => hg ▸ H.hears, H.seen⟩
theorem TI.toPast {A : Nat → Prop} {own rd : Nat → Nat → Prop} {B : Nat} {t : Trace} (H : TI A own rd B t) (h0 : A 0) (hA : ∀ g, A g → g = 0) : Past (fun _ => False) B t := by
 have hk : ∀ i a, touchAt t i = some a → a.loc.isMemory = true → Knows t 0 i := fun i a ha hm => by
  obtain ⟨g, h1, h2⟩ := H.some1 i a ha hm
  rw [hA g h1] at h2
  exact h2
 refine ⟨H.clean, fun i a ha hm => .inl (hk i a ha hm), fun i g hg hne ⟨x, hx, hm, _⟩ => ?_, H.hears 0 h0, H.seen⟩
 obtain ⟨q, z, hq, hz, hb⟩ := hk i x hx hm
 rcases hb with rfl | hb
 ·rw [g?_of hq, hz] at hg
  exact absurd (Option.some.inj hg).symm hne
 ·exact ⟨q, by rw [g?_of hq, hz], hb⟩
end
end Go.Proofs.Ytpeoabopeihadaa.Sim
/- Goroutines at work side by side, each in memory of its own: what holds of the world and of the trace, step by step. No program of the project in this text. -/
namespace Go.Proofs.Ytpeoabopeihadaa.Sim
open Go Go.Conc
open Go.ConcN (sumTo upd sumTo_upd upd_ne upd_same)
section
structure Keeps (S : Nat → Prop) (u u' : World) : Prop where
 size : u.heap.size ≤ u'.heap.size
 same : ∀ b, S b → u'.heap[b]? = u.heap[b]?
 os : u'.os = u.os
 tape : u'.tape = u.tape
 out : u'.output = u.output
theorem Keeps.refl (S : Nat → Prop) (u : World) : Keeps S u u := ⟨Nat.le_refl _, fun _ _ => rfl, rfl, rfl, rfl⟩
theorem Keeps.at (S : Nat → Prop) (u : World) (d : Nat) : Keeps S u (u.at d) := ⟨Nat.le_refl _, fun _ _ => rfl, rfl, rfl, rfl⟩
theorem Keeps.trans {S : Nat → Prop} {u v w : World} (h : Keeps S u v) (k : Keeps S v w) : Keeps S u w := ⟨Nat.le_trans h.size k.size, fun b hb => (k.same b hb).trans (h.same b hb), k.os.trans h.os, k.tape.trans h.tape, k.out.trans h.out⟩
theorem Keeps.mono {S S' : Nat → Prop} {u v : World} (h : Keeps S u v) (hs : ∀ b, S' b → S b) : Keeps S' u v := ⟨h.size, fun b hb => h.same b (hs b hb), h.os, h.tape, h.out⟩
structure Gd (own rd own' : Nat → Prop) (u u' : World) (es : Array Event) : Prop where
 le : ∀ b, own b → own' b
 fresh : ∀ b, own' b → own b ∨ (u.heap.size ≤ b ∧ b < u'.heap.size)
 size : u.heap.size ≤ u'.heap.size
 other : ∀ b, b < u.heap.size → ¬ own b → u'.heap[b]? = u.heap[b]?
 evs : ∀ e ∈ es, EvR own' rd e
 os : u'.os = u.os
 tape : u'.tape = u.tape
 out : u'.output = u.output
theorem Gd.quiet (own rd : Nat → Prop) (u : World) : Gd own rd own u u #[] := ⟨fun _ h => h, fun _ h => .inl h, Nat.le_refl _, fun _ _ _ => rfl, by simp, rfl, rfl, rfl⟩
structure Core (A : Nat → Prop) (chs : List Nat) (own rd : Nat → Nat → Prop) (u : World) (t : Trace) : Prop where
 chan : ∀ c ∈ chs, ∃ k, u.heap[c]? = some (.chan 0 #[] false k k false)
 nob : ∀ c ∈ chs, ∀ g, A g → ¬ own g c ∧ ¬ rd g c
 apart : ∀ g g' b, A g → A g' → g' ≠ g → (own g b → ¬ own g' b ∧ ¬ rd g' b) ∧ (rd g b → ¬ own g' b)
 low : ∀ g b, A g → own g b ∨ rd g b → b < u.heap.size
 ti : TI A own rd u.heap.size t
theorem Core.at {A : Nat → Prop} {chs : List Nat} {own rd : Nat → Nat → Prop} {u : World} {t : Trace} (h : Core A chs own rd u t) (d : Nat) : Core A chs own rd (u.at d) t := ⟨h.chan, h.nob, h.apart, h.low, h.ti⟩
theorem Core.mute {A : Nat → Prop} {chs : List Nat} {own rd : Nat → Nat → Prop} {u : World} {t : Trace} (h : Core A chs own rd u t) {g : Nat} (hg : ¬ A g) {fn : FuncId} {pos : String} {es : Array Event} (hm : ∀ e ∈ es, e.mute = true) : Core A chs own rd u (t ++ MemOp.ofEvents g fn pos es) := ⟨h.chan, h.nob, h.apart, h.low, h.ti.mute hg hm⟩
theorem Core.step {A : Nat → Prop} {chs : List Nat} {own rd : Nat → Nat → Prop} {u u' : World} {t : Trace} (h : Core A chs own rd u t) {g : Nat} (hg : A g) {own' : Nat → Prop} {es : Array Event} (k : Gd (own g) (rd g) own' u u' es) (fn : FuncId) (pos : String) :
  Core A chs (upd own g own') rd u' (t ++ MemOp.ofEvents g fn pos es) ∧ ∀ g', A g' → g' ≠ g → Keeps (fun b => own g' b ∨ rd g' b) u u' := by
 have hlt : ∀ c ∈ chs, c < u.heap.size := fun c hc => by
  obtain ⟨k, e⟩ := h.chan c hc
  exact (Array.getElem?_eq_some_iff.1 e).1
 have keeps : ∀ g', A g' → g' ≠ g → Keeps (fun b => own g' b ∨ rd g' b) u u' := fun g' hg' hne => by
  refine ⟨k.size, fun b hb => k.other b (h.low g' b hg' hb) fun ho => ?_, k.os, k.tape, k.out⟩
  have ap := (h.apart g g' b hg hg' hne).1 ho
  exact hb.elim ap.1 ap.2
 have low' : ∀ g' b, A g' → upd own g own' g' b ∨ rd g' b → b < u'.heap.size := by
  intro g' b hg' hb
  by_cases e : g' = g
  ·subst e
   rw [upd_same] at hb
   rcases hb with hb | hb
   ·rcases k.fresh b hb with hb | hb
    ·exact Nat.lt_of_lt_of_le (h.low _ b hg' (.inl hb)) k.size
    ·exact hb.2
   ·exact Nat.lt_of_lt_of_le (h.low _ b hg' (.inr hb)) k.size
  ·rw [upd_ne _ _ e] at hb
   exact Nat.lt_of_lt_of_le (h.low _ b hg' hb) k.size
 have apart' : ∀ g1 g2 b, A g1 → A g2 → g2 ≠ g1 → (upd own g own' g1 b → ¬ upd own g own' g2 b ∧ ¬ rd g2 b) ∧ (rd g1 b → ¬ upd own g own' g2 b) := by
  intro g1 g2 b h1 h2 hne
  have ap := h.apart g1 g2 b h1 h2 hne
  by_cases e1 : g1 = g
  ·subst e1
   have e2 : g2 ≠ g1 := hne
   rw [upd_same, upd_ne _ _ e2]
   refine ⟨fun ho => ?_, ap.2⟩
   rcases k.fresh b ho with ho | ho
   ·exact ap.1 ho
   ·exact ⟨fun x => by have := h.low g2 b h2 (.inl x); omega, fun x => by have := h.low g2 b h2 (.inr x); omega⟩
  ·rw [upd_ne _ _ e1]
   by_cases e2 : g2 = g
   ·subst e2
    rw [upd_same]
    refine ⟨fun ho => ⟨fun x => ?_, (ap.1 ho).2⟩, fun hr x => ?_⟩
    ·rcases k.fresh b x with x | x
     ·exact (ap.1 ho).1 x
     ·have := h.low g1 b h1 (.inl ho); omega
    ·rcases k.fresh b x with x | x
     ·exact ap.2 hr x
     ·have := h.low g1 b h1 (.inr hr); omega
   ·rw [upd_ne _ _ e2]
    exact ap
 refine ⟨⟨fun c hc => ?_, fun c hc g' hg' => ?_, apart', low', ?_⟩, keeps⟩
 ·obtain ⟨n, e⟩ := h.chan c hc
  exact ⟨n, (k.other c (hlt c hc) (h.nob c hc g hg).1).trans e⟩
 ·refine ⟨fun x => ?_, (h.nob c hc g' hg').2⟩
  by_cases e : g' = g
  ·subst e
   rw [upd_same] at x
   rcases k.fresh c x with x | x
   ·exact (h.nob c hc _ hg').1 x
   ·have := hlt c hc; omega
  ·rw [upd_ne _ _ e] at x
   exact (h.nob c hc g' hg').1 x
 ·have h1 : TI A (upd own g own') rd u.heap.size t := h.ti.rights (fun g' b hg' x => by
   by_cases e : g' = g
   ·subst e
    rw [upd_same] at x
    exact (k.fresh b x).imp id (·.1)
   ·rw [upd_ne _ _ e] at x
    exact .inl x) (fun g' b hg' x => .inr (.inl x))
  refine (h1.mono k.size).own hg (fun g' b hg' hne => apart' g g' b hg hg' hne) (fun b hb => low' g b hg (.inl hb)) (fun b hb => low' g b hg (.inr hb)) (fun e he => ?_)
  rw [upd_same]
  exact k.evs e he
theorem Core.changed {A A' : Nat → Prop} {chs : List Nat} {own rd : Nat → Nat → Prop} {u : World} {t t' : Trace} (h : Core A chs own rd u t) {c k d : Nat} (hc : c ∈ chs) (hA : ∀ g, A' g → A g) (ht : TI A' own rd u.heap.size t') :
  Core A' chs own rd ((u.at d).setChan c 0 #[] false k k false) t' ∧ ∀ g', A g' → Keeps (fun b => own g' b ∨ rd g' b) u ((u.at d).setChan c 0 #[] false k k false) := by
 have hsz : ((u.at d).setChan c 0 #[] false k k false).heap.size = u.heap.size := by simp [World.setChan, World.at]
 have hne : ∀ b, b ≠ c → ((u.at d).setChan c 0 #[] false k k false).heap[b]? = u.heap[b]? := fun b hb => by
  simp only [World.setChan, World.at]
  rw [Array.getElem?_setIfInBounds_ne (fun e => hb e.symm)]
 have hlt : c < u.heap.size := by
  obtain ⟨n, e⟩ := h.chan c hc
  exact (Array.getElem?_eq_some_iff.1 e).1
 refine ⟨⟨fun x hx => ?_, fun x hx g hg => h.nob x hx g (hA g hg), fun g g' b h1 h2 => h.apart g g' b (hA g h1) (hA g' h2), fun g b hg hb => by rw [hsz]; exact h.low g b (hA g hg) hb, by rw [hsz]; exact ht⟩, fun g' hg' => ⟨by rw [hsz]; exact Nat.le_refl _, fun b hb => hne b fun e => ?_, rfl, rfl, rfl⟩⟩
 ·by_cases e : x = c
  ·subst e
   refine ⟨k, ?_⟩
   simp only [World.setChan, World.at]
   rw [Array.getElem?_setIfInBounds_self_of_lt hlt]
  ·obtain ⟨n, e1⟩ := h.chan x hx
   exact ⟨n, (hne x e).trans e1⟩
 ·subst e
  exact hb.elim (h.nob _ hc g' hg').1 (h.nob _ hc g' hg').2
end
end Go.Proofs.Ytpeoabopeihadaa.Sim
/- A select of two receives at each of which a sender waits: the tape picks one. No program of the project in this text. -/
namespace Go.Proofs.Ytpeoabopeihadaa.Sim
open Go Go.Conc
section
variable {P : Program} {gs : Array Goroutine} {w w₁ : World} {sl : Option (Nat × Nat)} {i j1 j2 : Nat} {g g₂ h1 h2 : Goroutine} {es : Array Event} {c1 c2 cap1 cap2 s1 s2 r1 r2 : Nat} {t1 t2 : Bool} {v1 v2 z1 z2 y1 y2 : Value}
 {blocking : Bool} {shape sh1 sh2 : CommShape}
theorem sel_two (hi : gs[i]? = some g) (h : stepG P (i == 0) g w = .comm g₂ #[rcase c1 z1, rcase c2 z2] blocking shape w₁ es)
  (hc1 : w₁.heap[c1]? = some (.chan cap1 #[] false s1 r1 t1)) (hc2 : w₁.heap[c2]? = some (.chan cap2 #[] false s2 r2 t2)) (n1 : j1 ≠ i) (n2 : j2 ≠ i)
  (e1 : gs[j1]? = some (parked h1 #[scase c1 v1 y1] sh1)) (e2 : gs[j2]? = some (parked h2 #[scase c2 v2 y2] sh2))
  (p1 : partners (gs.setIfInBounds i ph) c1 true = [(j1, 0)]) (p2 : partners (gs.setIfInBounds i ph) c2 true = [(j2, 0)]) :
  ∃ d, (runT P (crowd gs w sl) i = (.next (crowd ((gs.setIfInBounds j1 (h1.finishComm P #[scase c1 v1 y1] sh1 0 undef false)).setIfInBounds i (g₂.finishComm P #[rcase c1 z1, rcase c2 z2] shape ((0 : Nat) : Int) v1 true)) ((w₁.at d).setChan c1 cap1 #[] false (s1 + 1) (r1 + 1) t1) sl),
    MemOp.ofEvents i g.frame.fn g.frame.place es ++ #[{ g := j1, fn := h1.frame.fn, pos := h1.frame.place, act := .send c1 s1 }, { g := i, fn := g₂.frame.fn, pos := g₂.frame.place, act := .recv c1 r1 cap1 },
     { g := j1, fn := h1.frame.fn, pos := h1.frame.place, act := .sendDone c1 s1 }, { g := i, fn := g₂.frame.fn, pos := g₂.frame.place, act := .recvDone c1 r1 }])) ∨
   runT P (crowd gs w sl) i = (.next (crowd ((gs.setIfInBounds j2 (h2.finishComm P #[scase c2 v2 y2] sh2 0 undef false)).setIfInBounds i (g₂.finishComm P #[rcase c1 z1, rcase c2 z2] shape ((1 : Nat) : Int) v2 true)) ((w₁.at d).setChan c2 cap2 #[] false (s2 + 1) (r2 + 1) t2) sl),
    MemOp.ofEvents i g.frame.fn g.frame.place es ++ #[{ g := j2, fn := h2.frame.fn, pos := h2.frame.place, act := .send c2 s2 }, { g := i, fn := g₂.frame.fn, pos := g₂.frame.place, act := .recv c2 r2 cap2 },
     { g := j2, fn := h2.frame.fn, pos := h2.frame.place, act := .sendDone c2 s2 }, { g := i, fn := g₂.frame.fn, pos := g₂.frame.place, act := .recvDone c2 r2 }]) := by
 have f1 := stand_get (i := i) n1 e1
 have f2 := stand_get (i := i) n2 e2
 have fp1 := finishPartner_at P (gs.setIfInBounds i ph) f1 (cs := #[scase c1 v1 y1]) (sh := sh1) rfl 0 undef
 have fp2 := finishPartner_at P (gs.setIfInBounds i ph) f2 (cs := #[scase c2 v2 y2]) (sh := sh2) rfl 0 undef
 have gd1 : (gs.setIfInBounds i ph).getD j1 default = parked h1 #[scase c1 v1 y1] sh1 := by rw [Array.getD_eq_getD_getElem?, f1]; rfl
 have gd2 : (gs.setIfInBounds i ph).getD j2 default = parked h2 #[scase c2 v2 y2] sh2 := by rw [Array.getD_eq_getD_getElem?, f2]; rfl
 have ov1 : offeredValue (gs.setIfInBounds i ph) j1 0 = v1 := by simp [offeredValue, f1, parked, scase]
 have ov2 : offeredValue (gs.setIfInBounds i ph) j2 0 = v2 := by simp [offeredValue, f2, parked, scase]
 rw [runT_crowd_comm hi h]
 have hb : w₁.tape w₁.drawn (.select 2) % 2 = 0 ∨ w₁.tape w₁.drawn (.select 2) % 2 = 1 := by omega
 have d1 : w₁.drew.heap[c1]? = some (.chan cap1 #[] false s1 r1 t1) := hc1
 have d2 : w₁.drew.heap[c2]? = some (.chan cap2 #[] false s2 r2 t2) := hc2
 refine ⟨w₁.drawn + 1, ?_⟩
 rcases hb with hb | hb
 ·refine .inl ?_
  simp [communicate, ways, rcase, hc1, hc2, d1, d2, p1, p2, choose, Sem.run, Question.forced, Question.cut, bind, Sem.bind, pure, hb, crowd, fp1, gd1, ov1, set_stand2, finishComm_parked, scase, parked, World.setChan, World.at]
  rfl
 ·refine .inr ?_
  simp [communicate, ways, rcase, hc1, hc2, d1, d2, p1, p2, choose, Sem.run, Question.forced, Question.cut, bind, Sem.bind, pure, hb, crowd, fp2, gd2, ov2, set_stand2, finishComm_parked, scase, parked, World.setChan, World.at]
  rfl
end
end Go.Proofs.Ytpeoabopeihadaa.Sim
/- The machine of goroutine 0, two workers and goroutines that only leave: its steps. No program of the project in this text. -/
namespace Go.Proofs.Ytpeoabopeihadaa.Sim
open Go Go.Conc
open Go.ConcN (sumTo upd sumTo_upd upd_ne upd_same)
section
variable {M : Type}
structure Wkr (M : Type) where
 i : Nat
 c : Nat
 v : Value
 W : M → (Nat → Prop) → Goroutine → World → Prop
structure Works (Q : Program) (lt : M → M → Prop) (rd : Nat → Prop) (x : Wkr M) : Prop where
 run : ∀ m own g u, x.W m own g u → g.status = .running
 keep : ∀ m own g u u', x.W m own g u → Keeps (fun b => own b ∨ rd b) u u' → x.W m own g u'
 step : ∀ m own g u, x.W m own g u → (∀ b, own b ∨ rd b → b < u.heap.size) →
  (∃ m' own' g' u', ∃ es : Array Event, stepG Q false g u = .go g' u' es ∧ lt m' m ∧ x.W m' own' g' u' ∧ Gd own rd own' u u' es) ∨
  ∃ g2 z n, stepG Q false g u = .comm g2 #[scase x.c x.v z] true .send u #[] ∧ QuitsD Q n 0 (Go.Conc.served g2 undef)
def Slot (Q : Program) (x : Wkr M) (o : Option M) (own : Nat → Prop) (gs : Array Goroutine) (u : World) : Prop :=
 match o with
 | some m => ∃ g, gs[x.i]? = some g ∧ x.W m own g u
 | none => ∃ g2 z n, gs[x.i]? = some (parked g2 #[scase x.c x.v z] .send) ∧ QuitsD Q n 0 (Go.Conc.served g2 undef)
def Act (wk : Bool → Wkr M) (f : Bool → Bool) (g : Nat) : Prop := g = 0 ∨ ∃ s, f s = true ∧ g = (wk s).i
def updB {α : Type} (o : Bool → α) (s : Bool) (x : α) : Bool → α := fun r => if r = s then x else o r
theorem updB_same {α : Type} (o : Bool → α) (s : Bool) (x : α) : updB o s x s = x := if_pos rfl
theorem updB_ne {α : Type} (o : Bool → α) {s r : Bool} (x : α) (h : r ≠ s) : updB o s x r = o r := if_neg h
structure CI (Q : Program) (wk : Bool → Wkr M) (f : Bool → Bool) (o : Bool → Option M) (chs : List Nat) (own rd : Nat → Nat → Prop) (g0 : Goroutine) (gs : Array Goroutine) (u : World) (t : Trace) (q : Nat → Nat) : Prop where
 core : Core (Act wk f) chs own rd u t
 zero : gs[0]? = some g0
 slot : ∀ s, f s = true → Slot Q (wk s) (o s) (own (wk s).i) gs u
 rest : ∀ i g, 0 < i → (∀ s, f s = true → i ≠ (wk s).i) → gs[i]? = some g → QuitsD Q (q i) (Deaf t i) g
 above : ∀ j, gs.size ≤ j → Deaf t j = 0
 pos : ∀ s, f s = true → 0 < (wk s).i ∧ (wk s).c ∈ chs
 two : f false = true → f true = true → (wk false).i ≠ (wk true).i ∧ (wk false).c ≠ (wk true).c
 main : g0.status = .running ∨ ∃ g2 cs, g0 = parked g2 cs .select ∧ ∀ cc ∈ cs, ∃ c z, cc = rcase c z ∧ c ∈ chs
variable {Q : Program} {lt : M → M → Prop} {wk : Bool → Wkr M} {f : Bool → Bool} {o : Bool → Option M} {chs : List Nat} {own rd : Nat → Nat → Prop} {g0 : Goroutine} {gs : Array Goroutine} {u : World} {t : Trace} {q : Nat → Nat}
theorem CI.other (h : CI Q wk f o chs own rd g0 gs u t q) {s r : Bool} (hs : f s = true) (hr : f r = true) (hne : r ≠ s) : (wk r).i ≠ (wk s).i ∧ (wk r).c ≠ (wk s).c := by
 cases s <;> cases r
 ·exact absurd rfl hne
 ·exact ⟨fun e => (h.two hs hr).1 e.symm, fun e => (h.two hs hr).2 e.symm⟩
 ·exact h.two hr hs
 ·exact absurd rfl hne
theorem CI.again (hW : ∀ s, f s = true → Works Q lt (rd (wk s).i) (wk s)) (h : CI Q wk f o chs own rd g0 gs u t q) {u' : World} (hch : ∀ c ∈ chs, ∃ k, u'.heap[c]? = some (.chan 0 #[] false k k false)) : ∀ (j : Nat) (g : Goroutine), gs[j]? = some g → g.again u' = g := by
 intro j g hj
 by_cases hj0 : j = 0
 ·subst hj0
  rw [h.zero] at hj
  cases hj
  rcases h.main with hm | ⟨g2, cs, rfl, hcs⟩
  ·exact again_running _ (.inl hm)
  ·refine again_all_open fun cc hcc => ?_
   obtain ⟨c, z, e, hc⟩ := hcs cc hcc
   obtain ⟨k, hk⟩ := hch c hc
   exact ⟨c, z, 0, #[], k, k, false, e, hk⟩
 ·by_cases hw : ∃ s, f s = true ∧ j = (wk s).i
  ·obtain ⟨s, hs, rfl⟩ := hw
   have hsl := h.slot s hs
   unfold Slot at hsl
   cases ho : o s with
   | some m =>
    rw [ho] at hsl
    obtain ⟨g', e, hg'⟩ := hsl
    rw [e] at hj
    cases hj
    exact again_running _ (.inl ((hW s hs).run _ _ _ _ hg'))
   | none =>
    rw [ho] at hsl
    obtain ⟨g2, z, n, e, _⟩ := hsl
    rw [e] at hj
    cases hj
    obtain ⟨k, hk⟩ := hch _ (h.pos s hs).2
    exact again_send_open hk
  ·exact again_running _ (h.rest j g (by omega) (fun s hs e => hw ⟨s, hs, e⟩) hj).status
theorem CI.calm (hW : ∀ s, f s = true → Works Q lt (rd (wk s).i) (wk s)) (h : CI Q wk f o chs own rd g0 gs u t q) {u' : World} (hch : ∀ c ∈ chs, ∃ k, u'.heap[c]? = some (.chan 0 #[] false k k false)) (x x' : Goroutine) : gs.map (woken Q x x' u') = gs := by
 apply Array.ext_getElem?
 intro j
 rw [Array.getElem?_map]
 cases e : gs[j]? with
 | none => rfl
 | some g => simp only [Option.map_some, woken_of_again (h.again hW hch j g e)]
theorem CI.awake (hW : ∀ s, f s = true → Works Q lt (rd (wk s).i) (wk s)) (h : CI Q wk f o chs own rd g0 gs u t q) : ∀ g ∈ gs, awake g := by
 intro g hg
 obtain ⟨j, hj, rfl⟩ := Array.mem_iff_getElem.1 hg
 have hj' : gs[j]? = some gs[j] := Array.getElem?_eq_getElem hj
 by_cases hj0 : j = 0
 ·subst hj0
  rw [h.zero] at hj'
  rw [← Option.some.inj hj']
  rcases h.main with hm | ⟨g2, cs, rfl, _⟩
  ·exact awake_of (.inl hm)
  ·exact awake_of (.inr (.inl rfl))
 ·by_cases hw : ∃ s, f s = true ∧ j = (wk s).i
  ·obtain ⟨s, hs, e⟩ := hw
   subst e
   have hsl := h.slot s hs
   unfold Slot at hsl
   cases ho : o s with
   | some m =>
    rw [ho] at hsl
    obtain ⟨g', e, hg'⟩ := hsl
    rw [e] at hj'
    rw [← Option.some.inj hj']
    exact awake_of (.inl ((hW s hs).run _ _ _ _ hg'))
   | none =>
    rw [ho] at hsl
    obtain ⟨g2, z, n, e, _⟩ := hsl
    rw [e] at hj'
    rw [← Option.some.inj hj']
    exact awake_of (.inr (.inl rfl))
  ·exact awake_of ((h.rest j _ (by omega) (fun s hs e => hw ⟨s, hs, e⟩) hj').status.elim .inl fun x => .inr (.inr x))
theorem Slot.set {x : Wkr M} {o : Option M} {own : Nat → Prop} {u : World} (h : Slot Q x o own gs u) {i : Nat} (hi : i ≠ x.i) (g : Goroutine) : Slot Q x o own (gs.setIfInBounds i g) u := by
 unfold Slot at h ⊢
 cases o with
 | some m =>
  obtain ⟨g', e, h⟩ := h
  exact ⟨g', by rw [Array.getElem?_setIfInBounds_ne hi]; exact e, h⟩
 | none =>
  obtain ⟨g2, z, n, e, h⟩ := h
  exact ⟨g2, z, n, by rw [Array.getElem?_setIfInBounds_ne hi]; exact e, h⟩
theorem Slot.keep {x : Wkr M} {o : Option M} {own rd : Nat → Prop} {u u' : World} (hW : Works Q lt rd x) (h : Slot Q x o own gs u) (k : Keeps (fun b => own b ∨ rd b) u u') : Slot Q x o own gs u' := by
 unfold Slot at h ⊢
 cases o with
 | some m =>
  obtain ⟨g', e, h⟩ := h
  exact ⟨g', e, hW.keep _ _ _ _ _ h k⟩
 | none => exact h
theorem CI.at (hW : ∀ s, f s = true → Works Q lt (rd (wk s).i) (wk s)) (h : CI Q wk f o chs own rd g0 gs u t q) (d : Nat) : CI Q wk f o chs own rd g0 gs (u.at d) t q :=
 ⟨h.core.at d, h.zero, fun s hs => (h.slot s hs).keep (hW s hs) (Keeps.at _ _ _), h.rest, h.above, h.pos, h.two, h.main⟩
theorem CI.leave (hW : ∀ s, f s = true → Works Q lt (rd (wk s).i) (wk s)) (h : CI Q wk f o chs own rd g0 gs u t q) {i : Nat} {g : Goroutine} (hi : gs[i]? = some g) (hg : g.status = .running) (h0 : 0 < i) (hn : ∀ s, f s = true → i ≠ (wk s).i) (sl : Option (Nat × Nat)) :
  ∃ k gs' ops, q i = k + 1 ∧ gs'.size = gs.size ∧ runT Q (crowd gs u sl) i = (.next (crowd gs' u sl), ops) ∧ CI Q wk f o chs own rd g0 gs' u (t ++ ops) (upd q i k) := by
 have hq := h.rest i g h0 hn hi
 have hi0 : (i == 0) = false := by simp; omega
 have hlt : i < gs.size := (Array.getElem?_eq_some_iff.1 hi).1
 cases hqi : q i with
 | zero => rw [hqi] at hq; rw [hq.1] at hg; cases hg
 | succ k =>
  rw [hqi] at hq
  rcases hq with ⟨hf, _⟩ | ⟨_, g', es, hm, hstp, hq'⟩
  ·rw [hf] at hg; cases hg
  have hrunT := runT_crowd_go (P := Q) (sl := sl) (i := i) (w := u) hi (by rw [hi0]; exact hstp u)
  rw [h.calm hW h.core.chan g g'] at hrunT
  have hA : ¬ Act wk f i := by
   rintro (e | ⟨s, hs, e⟩)
   ·omega
   ·exact hn s hs e
  refine ⟨k, gs.setIfInBounds i g', _, rfl, by simp, hrunT, h.core.mute hA hm, ?_, fun s hs => (h.slot s hs).set (fun e => hn s hs e) g', fun j x hj hjn hx => ?_, fun j hj => ?_, h.pos, h.two, h.main⟩
  ·rw [Array.getElem?_setIfInBounds_ne (by omega)]
   exact h.zero
  ·by_cases hji : i = j
   ·subst hji
    rw [Array.getElem?_setIfInBounds_self_of_lt hlt] at hx
    obtain rfl := Option.some.inj hx
    rw [upd_same, Deaf_own]
    exact hq'
   ·rw [Array.getElem?_setIfInBounds_ne hji] at hx
    have hqj := h.rest j x hj hjn hx
    rw [upd_ne q k (Ne.symm hji), Deaf_other t hji _ (fun op hop => by obtain ⟨e, _, rfl⟩ := Go.Conc.mem_ofEvents hop; rfl)]
    exact hqj
  ·rw [Deaf_other t (g' := i) (by simp at hj; omega) _ (fun op hop => by obtain ⟨e, _, rfl⟩ := Go.Conc.mem_ofEvents hop; rfl)]
   exact h.above j (by simpa using hj)
theorem CI.work (hW : ∀ s, f s = true → Works Q lt (rd (wk s).i) (wk s)) (h : CI Q wk f o chs own rd g0 gs u t q) {s : Bool} (hs : f s = true) {g g' : Goroutine} (hi : gs[(wk s).i]? = some g) {m' : M} {own' : Nat → Prop} {u' : World} {es : Array Event} (hgo : stepG Q false g u = .go g' u' es) (hw' : (wk s).W m' own' g' u') (gd : Gd (own (wk s).i) (rd (wk s).i) own' u u' es) (sl : Option (Nat × Nat)) :
  ∃ gs' ops, gs'.size = gs.size ∧ runT Q (crowd gs u sl) (wk s).i = (.next (crowd gs' u' sl), ops) ∧ CI Q wk f (updB o s (some m')) chs (upd own (wk s).i own') rd g0 gs' u' (t ++ ops) q ∧ Keeps (fun b => own 0 b ∨ rd 0 b) u u' := by
 have hpos := (h.pos s hs).1
 have hi0 : ((wk s).i == 0) = false := by simp; omega
 have hlt : (wk s).i < gs.size := (Array.getElem?_eq_some_iff.1 hi).1
 have hA : Act wk f (wk s).i := .inr ⟨s, hs, rfl⟩
 obtain ⟨hcore, hk⟩ := h.core.step hA gd g.frame.fn g.frame.place
 have hrunT := runT_crowd_go (P := Q) (sl := sl) (i := (wk s).i) (w := u) hi (by rw [hi0]; exact hgo)
 rw [h.calm hW hcore.chan g g'] at hrunT
 refine ⟨gs.setIfInBounds (wk s).i g', _, by simp, hrunT, ⟨hcore, ?_, fun r hr => ?_, fun j x hj hjn hx => ?_, fun j hj => ?_, h.pos, h.two, h.main⟩, hk 0 (.inl rfl) (by omega)⟩
 ·rw [Array.getElem?_setIfInBounds_ne (by omega)]
  exact h.zero
 ·by_cases e : r = s
  ·subst e
   rw [updB_same, upd_same]
   exact ⟨g', Array.getElem?_setIfInBounds_self_of_lt hlt, hw'⟩
  ·have ho := h.other hs hr e
   rw [updB_ne _ _ e, upd_ne _ _ ho.1]
   exact ((h.slot r hr).keep (hW r hr) (hk _ (.inr ⟨r, hr, rfl⟩) ho.1)).set (fun e => ho.1 e.symm) g'
 ·have hne : (wk s).i ≠ j := fun e => hjn s hs e.symm
  rw [Array.getElem?_setIfInBounds_ne hne] at hx
  rw [Deaf_other t hne _ (fun op hop => by obtain ⟨e, _, rfl⟩ := Go.Conc.mem_ofEvents hop; rfl)]
  exact h.rest j x hj hjn hx
 ·rw [Deaf_other t (g' := (wk s).i) (by simp at hj; omega) _ (fun op hop => by obtain ⟨e, _, rfl⟩ := Go.Conc.mem_ofEvents hop; rfl)]
  exact h.above j (by simpa using hj)
theorem CI.zeroGo (hW : ∀ s, f s = true → Works Q lt (rd (wk s).i) (wk s)) (h : CI Q wk f o chs own rd g0 gs u t q) {g' : Goroutine} {own' : Nat → Prop} {u' : World} {es : Array Event} (hr : g'.status = .running) (hgo : stepG Q true g0 u = .go g' u' es) (gd : Gd (own 0) (rd 0) own' u u' es) (sl : Option (Nat × Nat)) :
  ∃ gs' ops, gs'.size = gs.size ∧ runT Q (crowd gs u sl) 0 = (.next (crowd gs' u' sl), ops) ∧ CI Q wk f o chs (upd own 0 own') rd g' gs' u' (t ++ ops) q := by
 have hlt : 0 < gs.size := (Array.getElem?_eq_some_iff.1 h.zero).1
 have hA : Act wk f 0 := .inl rfl
 obtain ⟨hcore, hk⟩ := h.core.step hA gd g0.frame.fn g0.frame.place
 have hrunT := runT_crowd_go (P := Q) (sl := sl) (i := 0) (w := u) h.zero (show stepG Q (0 == 0) g0 u = _ from hgo)
 rw [h.calm hW hcore.chan g0 g'] at hrunT
 refine ⟨gs.setIfInBounds 0 g', _, by simp, hrunT, ⟨hcore, Array.getElem?_setIfInBounds_self_of_lt hlt, fun r hr => ?_, fun j x hj hjn hx => ?_, fun j hj => ?_, h.pos, h.two, .inl hr⟩⟩
 ·have hne : (wk r).i ≠ 0 := by have := (h.pos r hr).1; omega
  rw [upd_ne _ _ hne]
  exact ((h.slot r hr).keep (hW r hr) (hk _ (.inr ⟨r, hr, rfl⟩) hne)).set (fun e => hne e.symm) g'
 ·have hne : 0 ≠ j := by omega
  rw [Array.getElem?_setIfInBounds_ne hne] at hx
  rw [Deaf_other t hne _ (fun op hop => by obtain ⟨e, _, rfl⟩ := Go.Conc.mem_ofEvents hop; rfl)]
  exact h.rest j x hj hjn hx
 ·rw [Deaf_other t (g' := 0) (by simp at hj; omega) _ (fun op hop => by obtain ⟨e, _, rfl⟩ := Go.Conc.mem_ofEvents hop; rfl)]
  exact h.above j (by simpa using hj)
end
end Go.Proofs.Ytpeoabopeihadaa.Sim
/- The machine of goroutine 0, two workers and goroutines that only leave: answers are sent and taken. No program of the project in this text. -/
namespace Go.Proofs.Ytpeoabopeihadaa.Sim
open Go Go.Conc
open Go.ConcN (sumTo upd sumTo_upd upd_ne upd_same)
section
variable {M : Type} {Q : Program} {lt : M → M → Prop} {wk : Bool → Wkr M} {f : Bool → Bool} {o : Bool → Option M} {chs : List Nat} {own rd : Nat → Nat → Prop} {g0 : Goroutine} {gs : Array Goroutine} {u : World} {t : Trace} {q : Nat → Nat}
theorem CI.kinds (hW : ∀ s, f s = true → Works Q lt (rd (wk s).i) (wk s)) (h : CI Q wk f o chs own rd g0 gs u t q) {j : Nat} {g : Goroutine} (hj : gs[j]? = some g) (h0 : j ≠ 0) :
  (g.status ≠ .blocked) ∨ ∃ s g2 z, f s = true ∧ o s = none ∧ j = (wk s).i ∧ g = parked g2 #[scase (wk s).c (wk s).v z] .send := by
 by_cases hw : ∃ s, f s = true ∧ j = (wk s).i
 ·obtain ⟨s, hs, rfl⟩ := hw
  have hsl := h.slot s hs
  unfold Slot at hsl
  cases ho : o s with
  | some m =>
   rw [ho] at hsl
   obtain ⟨g', e, hg'⟩ := hsl
   rw [e] at hj
   cases hj
   refine .inl ?_
   rw [(hW s hs).run _ _ _ _ hg']
   simp
  | none =>
   rw [ho] at hsl
   obtain ⟨g2, z, n, e, _⟩ := hsl
   rw [e] at hj
   cases hj
   exact .inr ⟨s, g2, z, hs, ho, rfl, rfl⟩
 ·refine .inl ?_
  rcases (h.rest j g (by omega) (fun s hs e => hw ⟨s, hs, e⟩) hj).status with e | e <;> rw [e] <;> simp
theorem CI.noRecv (hW : ∀ s, f s = true → Works Q lt (rd (wk s).i) (wk s)) (h : CI Q wk f o chs own rd g0 gs u t q) (hm : g0.status = .running) (i c : Nat) : partners (gs.setIfInBounds i ph) c false = [] := by
 refine partners_nil fun j g hj => ?_
 rcases getElem?_stand gs i j g hj with ⟨_, rfl⟩ | ⟨_, hj⟩
 ·exact offersAt_ph _ _
 ·by_cases h0 : j = 0
  ·subst h0
   rw [h.zero] at hj
   cases hj
   exact offersAt_of_not_blocked (by rw [hm]; simp) _ _
  ·rcases h.kinds hW hj h0 with k | ⟨s, g2, z, _, _, _, rfl⟩
   ·exact offersAt_of_not_blocked k _ _
   ·exact offersAt_parked_send' _ _ _ _ _ _
theorem CI.noSend (hW : ∀ s, f s = true → Works Q lt (rd (wk s).i) (wk s)) (h : CI Q wk f o chs own rd g0 gs u t q) {c : Nat} (hc : ∀ s, f s = true → o s = none → (wk s).c ≠ c) : partners (gs.setIfInBounds 0 ph) c true = [] := by
 refine partners_nil fun j g hj => ?_
 rcases getElem?_stand gs 0 j g hj with ⟨_, rfl⟩ | ⟨h0, hj⟩
 ·exact offersAt_ph _ _
 ·rcases h.kinds hW hj h0 with k | ⟨s, g2, z, hs, ho, _, rfl⟩
  ·exact offersAt_of_not_blocked k _ _
  ·rw [offersAt_parked_send, if_neg (hc s hs ho)]
theorem CI.oneSend (hW : ∀ s, f s = true → Works Q lt (rd (wk s).i) (wk s)) (h : CI Q wk f o chs own rd g0 gs u t q) {s : Bool} (hs : f s = true) (ho : o s = none) : partners (gs.setIfInBounds 0 ph) (wk s).c true = [((wk s).i, 0)] := by
 have hsl := h.slot s hs
 unfold Slot at hsl
 rw [ho] at hsl
 obtain ⟨g2, z, n, e, _⟩ := hsl
 have hpos := (h.pos s hs).1
 have e' : (gs.setIfInBounds 0 ph)[(wk s).i]? = some (parked g2 #[scase (wk s).c (wk s).v z] .send) := stand_get (by omega) e
 rw [partners_one e' (fun k x hk hx => ?_), offersAt_parked_send, if_pos rfl]
 ·rfl
 ·rcases getElem?_stand gs 0 k x hx with ⟨_, rfl⟩ | ⟨h0, hx⟩
  ·exact offersAt_ph _ _
  ·rcases h.kinds hW hx h0 with a | ⟨r, g3, z3, hr, hor, e2, rfl⟩
   ·exact offersAt_of_not_blocked a _ _
   ·have hne : r ≠ s := fun e3 => hk (by rw [e2, e3])
    rw [offersAt_parked_send, if_neg (h.other hs hr hne).2]
theorem act_drop (h2 : f false = true → f true = true → (wk false).i ≠ (wk true).i) {s : Bool} (hs : f s = true) (hp : 0 < (wk s).i) : (fun g => Act wk f g ∧ g ≠ (wk s).i) = Act wk (updB f s false) := by
 funext g
 apply propext
 constructor
 ·rintro ⟨rfl | ⟨r, hr, rfl⟩, hne⟩
  ·exact .inl rfl
  ·refine .inr ⟨r, ?_, rfl⟩
   rw [updB_ne _ _ (fun e => hne (by rw [e]))]
   exact hr
 ·rintro (rfl | ⟨r, hr, rfl⟩)
  ·exact ⟨.inl rfl, by omega⟩
  ·by_cases e : r = s
   ·rw [e, updB_same] at hr; cases hr
   ·rw [updB_ne _ _ e] at hr
    refine ⟨.inr ⟨r, hr, rfl⟩, ?_⟩
    cases s <;> cases r
    ·exact absurd rfl e
    ·exact fun e => h2 hs hr e.symm
    ·exact h2 hr hs
    ·exact absurd rfl e
theorem events_nil (i : Nat) (fn : FuncId) (pos : String) : MemOp.ofEvents i fn pos #[] = #[] := by
 rw [ofEvents_eq]
 simp
theorem CI.park (hW : ∀ s, f s = true → Works Q lt (rd (wk s).i) (wk s)) (h : CI Q wk f o chs own rd g0 gs u t q) (hm : g0.status = .running) {s : Bool} (hs : f s = true) {g g2 : Goroutine} {z : Value} {n : Nat} (hi : gs[(wk s).i]? = some g) (hst : stepG Q false g u = .comm g2 #[scase (wk s).c (wk s).v z] true .send u #[]) (hq : QuitsD Q n 0 (Go.Conc.served g2 undef)) (sl : Option (Nat × Nat)) :
  ∃ gs' ops, gs'.size = gs.size ∧ runT Q (crowd gs u sl) (wk s).i = (.next (crowd gs' u sl), ops) ∧ CI Q wk f (updB o s none) chs own rd g0 gs' u (t ++ ops) q := by
 have hpos := (h.pos s hs).1
 have hi0 : ((wk s).i == 0) = false := by simp; omega
 have hlt : (wk s).i < gs.size := (Array.getElem?_eq_some_iff.1 hi).1
 obtain ⟨k, hk⟩ := h.core.chan _ (h.pos s hs).2
 have hrunT := crowd_waits (P := Q) (sl := sl) (w := u) hi (by rw [hi0]; exact hst) (fun cc hcc => by
  simp only [List.mem_toArray, List.mem_cons, List.not_mem_nil, or_false] at hcc
  subst hcc
  exact ways_send_none hk (by simp) (h.noRecv hW hm _ _))
 rw [events_nil] at hrunT
 refine ⟨gs.setIfInBounds (wk s).i (parked g2 #[scase (wk s).c (wk s).v z] .send), _, by simp, hrunT, ?_⟩
 rw [Array.append_empty]
 refine ⟨h.core, ?_, fun r hr => ?_, fun j x hj hjn hx => ?_, fun j hj => h.above j (by simpa using hj), h.pos, h.two, h.main⟩
 ·rw [Array.getElem?_setIfInBounds_ne (by omega)]
  exact h.zero
 ·by_cases e : r = s
  ·subst e
   rw [updB_same]
   exact ⟨g2, z, n, Array.getElem?_setIfInBounds_self_of_lt hlt, hq⟩
  ·rw [updB_ne _ _ e]
   exact (h.slot r hr).set (fun e1 => (h.other hs hr e).1 e1.symm) _
 ·rw [Array.getElem?_setIfInBounds_ne (fun e => hjn s hs e.symm)] at hx
  exact h.rest j x hj hjn hx
theorem CI.taken (hW : ∀ s, f s = true → Works Q lt (rd (wk s).i) (wk s)) (h : CI Q wk f o chs own rd g0 gs u t q) {s : Bool} (hs : f s = true) {g' x : Goroutine} {n k d : Nat} (hq : QuitsD Q n 0 x) (hr : g'.status = .running) (fa : FuncId) (pa : String) (fb : FuncId) (pb : String) {gs' : Array Goroutine} (hsz : gs'.size = gs.size) (e0 : gs'[0]? = some g') (ei : gs'[(wk s).i]? = some x) (en : ∀ j, j ≠ 0 → j ≠ (wk s).i → gs'[j]? = gs[j]?) :
  CI Q wk (updB f s false) o chs own rd g' gs' ((u.at d).setChan (wk s).c 0 #[] false (k + 1) (k + 1) false) (t ++ met (wk s).i 0 fa pa fb pb (wk s).c k 0) (upd q (wk s).i n) ∧
   Keeps (fun b => own 0 b ∨ rd 0 b) u ((u.at d).setChan (wk s).c 0 #[] false (k + 1) (k + 1) false) := by
 have hpos := (h.pos s hs).1
 have hci := (h.pos s hs).2
 have hlt : (wk s).c < u.heap.size := by
  obtain ⟨n, e⟩ := h.core.chan _ hci
  exact (Array.getElem?_eq_some_iff.1 e).1
 have hti := h.core.ti.give (h := (wk s).i) (j := 0) (.inr ⟨s, hs, rfl⟩) (.inl rfl) (by omega) fa pa fb pb (c := (wk s).c) k 0 hlt
 rw [act_drop (fun a b => (h.two a b).1) hs hpos] at hti
 have hA : ∀ g, Act wk (updB f s false) g → Act wk f g := by
  intro g hg
  rw [← act_drop (fun a b => (h.two a b).1) hs hpos] at hg
  exact hg.1
 have hf : ∀ r, updB f s false r = true → f r = true ∧ r ≠ s := by
  intro r hr
  by_cases e : r = s
  ·rw [e, updB_same] at hr; cases hr
  ·rw [updB_ne _ _ e] at hr; exact ⟨hr, e⟩
 obtain ⟨hcore, hkeep⟩ := h.core.changed (d := d) (k := k + 1) hci hA hti
 have hdeaf : ∀ j, Deaf (t ++ met (wk s).i 0 fa pa fb pb (wk s).c k 0) j = Deaf t j := fun j => Deaf_quiet (met_quiet _ _ _ _ _ _ _ _ _ j)
 refine ⟨⟨hcore, e0, fun r hr => ?_, fun j y hj hjn hy => ?_, fun j hj => by rw [hdeaf]; exact h.above j (by omega), fun r hr => h.pos r (hf r hr).1, fun a b => h.two (hf _ a).1 (hf _ b).1, .inl hr⟩, hkeep 0 (.inl rfl)⟩
 ·obtain ⟨hr1, hr2⟩ := hf r hr
  have ho := h.other hs hr1 hr2
  have hp := (h.pos r hr1).1
  have := (h.slot r hr1).keep (hW r hr1) (hkeep _ (.inr ⟨r, hr1, rfl⟩))
  unfold Slot at this ⊢
  rw [en _ (by omega) ho.1]
  exact this
 ·rw [hdeaf]
  by_cases e : j = (wk s).i
  ·subst e
   rw [ei] at hy
   cases hy
   rw [upd_same, h.core.ti.hears _ (.inr ⟨s, hs, rfl⟩)]
   exact hq
  ·rw [en j (by omega) e] at hy
   rw [upd_ne _ _ e]
   exact h.rest j y hj (fun r hr e2 => by
    by_cases e3 : r = s
    ·exact e (by rw [e2, e3])
    ·exact hjn r (by rw [updB_ne _ _ e3]; exact hr) e2) hy
def kk (s : Bool) : Nat := if s then 1 else 0
abbrev csel (wk : Bool → Wkr M) (z : Value) : Array CommCase := #[rcase (wk false).c z, rcase (wk true).c z]
theorem csel_at (wk : Bool → Wkr M) (z : Value) (s : Bool) : (csel wk z)[kk s]? = some (rcase (wk s).c z) := by cases s <;> rfl
theorem csel_two (hc : (wk false).c ≠ (wk true).c) (z : Value) (s : Bool) : ∀ (m : Nat) (cc : CommCase), m ≠ kk s → (csel wk z)[m]? = some cc → cc = rcase (wk (!s)).c z ∧ cc.chan ≠ .chan (some (wk s).c) := by
 intro m cc hm hcc
 rcases m with _ | _ | m
 ·simp at hcc
  subst hcc
  cases s
  ·exact absurd rfl hm
  ·refine ⟨rfl, ?_⟩
   simp [rcase, hc]
 ·simp at hcc
  subst hcc
  cases s
  ·refine ⟨rfl, ?_⟩
   simp [rcase, Ne.symm hc]
  ·exact absurd rfl hm
 ·simp at hcc
theorem CI.meet (hW : ∀ s, f s = true → Works Q lt (rd (wk s).i) (wk s)) {g00 : Goroutine} {z0 : Value} (hcc : (wk false).c ≠ (wk true).c) (h : CI Q wk f o chs own rd (parked g00 (csel wk z0) .select) gs u t q) {s : Bool} (hs : f s = true) {g g2 : Goroutine} {z : Value} {n : Nat} (hi : gs[(wk s).i]? = some g) (hst : stepG Q false g u = .comm g2 #[scase (wk s).c (wk s).v z] true .send u #[]) (hq : QuitsD Q n 0 (Go.Conc.served g2 undef)) (sl : Option (Nat × Nat)) :
  ∃ gs' u' ops q', gs'.size = gs.size ∧ runT Q (crowd gs u sl) (wk s).i = (.next (crowd gs' u' sl), ops) ∧ CI Q wk (updB f s false) o chs own rd (g00.finishComm Q (csel wk z0) .select (kk s : Int) (wk s).v true) gs' u' (t ++ ops) q' ∧ Keeps (fun b => own 0 b ∨ rd 0 b) u u' := by
 have hpos := (h.pos s hs).1
 have hi0 : ((wk s).i == 0) = false := by simp; omega
 have hlt : (wk s).i < gs.size := (Array.getElem?_eq_some_iff.1 hi).1
 have hlt0 : 0 < gs.size := by omega
 obtain ⟨k, hk⟩ := h.core.chan _ (h.pos s hs).2
 have e0 : (gs.setIfInBounds (wk s).i ph)[0]? = some (parked g00 (csel wk z0) .select) := stand_get (by omega) h.zero
 have hp : partners (gs.setIfInBounds (wk s).i ph) (wk s).c false = [(0, kk s)] := by
  rw [partners_one e0 (fun j x hj hx => ?_), offersAt_parked_at (csel_at wk z0 s) (fun m cc hm hc => (csel_two hcc z0 s m cc hm hc).2)]
  ·rfl
  ·rcases getElem?_stand gs _ j x hx with ⟨_, rfl⟩ | ⟨_, hx⟩
   ·exact offersAt_ph _ _
   ·rcases h.kinds hW hx hj with a | ⟨r, g3, z3, _, _, _, rfl⟩
    ·exact offersAt_of_not_blocked a _ _
    ·exact offersAt_parked_send' _ _ _ _ _ _
 have hrunT := crowd_send_meets_sel (P := Q) (sl := sl) (w := u) hi (by rw [hi0]; exact hst) hk (by omega) h.zero (csel_at wk z0 s) hp
 rw [events_nil, finishComm_send] at hrunT
 have hd : (u.at u.drawn) = u := rfl
 obtain ⟨r1, r2⟩ := h.taken hW hs (g' := g00.finishComm Q (csel wk z0) .select (kk s : Int) (wk s).v true) (x := Go.Conc.served g2 undef) (n := n) (k := k) (d := u.drawn) hq rfl g2.frame.fn g2.frame.place g00.frame.fn g00.frame.place (gs' := (gs.setIfInBounds 0 (g00.finishComm Q (csel wk z0) .select (kk s : Int) (wk s).v true)).setIfInBounds (wk s).i (Go.Conc.served g2 undef)) (by simp)
  (by rw [Array.getElem?_setIfInBounds_ne (by omega), Array.getElem?_setIfInBounds_self_of_lt hlt0]) (by rw [Array.getElem?_setIfInBounds_self_of_lt (by simpa using hlt)])
  (fun j h1 h2 => by rw [Array.getElem?_setIfInBounds_ne (fun e => h2 e.symm), Array.getElem?_setIfInBounds_ne (fun e => h1 e.symm)])
 refine ⟨_, _, _, upd q (wk s).i n, by simp, hrunT, ?_, ?_⟩
 ·rw [Array.empty_append]
  exact r1
 ·exact r2
theorem CI.wait (hW : ∀ s, f s = true → Works Q lt (rd (wk s).i) (wk s)) {z0 : Value} (hc2 : ∀ s, (wk s).c ∈ chs) (h : CI Q wk f o chs own rd g0 gs u t q) (hno : ∀ s, f s = true → o s ≠ none) {g00 : Goroutine} (hst : stepG Q true g0 u = .comm g00 (csel wk z0) true .select u #[]) (sl : Option (Nat × Nat)) :
  ∃ gs' ops, gs'.size = gs.size ∧ runT Q (crowd gs u sl) 0 = (.next (crowd gs' u sl), ops) ∧ CI Q wk f o chs own rd (parked g00 (csel wk z0) .select) gs' u (t ++ ops) q := by
 have hlt : 0 < gs.size := (Array.getElem?_eq_some_iff.1 h.zero).1
 have hrunT := crowd_waits (P := Q) (sl := sl) (w := u) h.zero (show stepG Q (0 == 0) g0 u = _ from hst) (fun cc hcc => by
  simp only [csel, List.mem_toArray, List.mem_cons, List.not_mem_nil, or_false] at hcc
  rcases hcc with rfl | rfl
  ·obtain ⟨k, hk⟩ := h.core.chan _ (hc2 false)
   exact ways_recv_none hk (h.noSend hW fun s hs ho => absurd ho (hno s hs))
  ·obtain ⟨k, hk⟩ := h.core.chan _ (hc2 true)
   exact ways_recv_none hk (h.noSend hW fun s hs ho => absurd ho (hno s hs)))
 rw [events_nil] at hrunT
 refine ⟨_, _, by simp, hrunT, ?_⟩
 rw [Array.append_empty]
 refine ⟨h.core, Array.getElem?_setIfInBounds_self_of_lt hlt, fun r hr => (h.slot r hr).set (by have := (h.pos r hr).1; omega) _, fun j x hj hjn hx => ?_, fun j hj => h.above j (by simpa using hj), h.pos, h.two, .inr ⟨g00, _, rfl, fun cc hcc => ?_⟩⟩
 ·rw [Array.getElem?_setIfInBounds_ne (by omega)] at hx
  exact h.rest j x hj hjn hx
 ·simp only [csel, List.mem_toArray, List.mem_cons, List.not_mem_nil, or_false] at hcc
  rcases hcc with rfl | rfl
  ·exact ⟨_, _, rfl, hc2 false⟩
  ·exact ⟨_, _, rfl, hc2 true⟩
theorem CI.take (hW : ∀ s, f s = true → Works Q lt (rd (wk s).i) (wk s)) {z0 : Value} (hcc : (wk false).c ≠ (wk true).c) (hc2 : ∀ s, (wk s).c ∈ chs) (h : CI Q wk f o chs own rd g0 gs u t q) (hex : ∃ s, f s = true ∧ o s = none) {g00 : Goroutine} (hst : stepG Q true g0 u = .comm g00 (csel wk z0) true .select u #[]) (sl : Option (Nat × Nat)) :
  ∃ s gs' u' ops q', f s = true ∧ gs'.size = gs.size ∧ runT Q (crowd gs u sl) 0 = (.next (crowd gs' u' sl), ops) ∧ CI Q wk (updB f s false) o chs own rd (g00.finishComm Q (csel wk z0) .select (kk s : Int) (wk s).v true) gs' u' (t ++ ops) q' ∧ Keeps (fun b => own 0 b ∨ rd 0 b) u u' := by
 have hlt : 0 < gs.size := (Array.getElem?_eq_some_iff.1 h.zero).1
 -- when the machine's step is the meeting with worker s
 have fin : ∀ (s : Bool) (g2 : Goroutine) (z : Value) (n k d : Nat), f s = true → gs[(wk s).i]? = some (parked g2 #[scase (wk s).c (wk s).v z] .send) → QuitsD Q n 0 (Go.Conc.served g2 undef) →
   runT Q (crowd gs u sl) 0 = (.next (crowd ((gs.setIfInBounds (wk s).i (g2.finishComm Q #[scase (wk s).c (wk s).v z] .send 0 undef false)).setIfInBounds 0 (g00.finishComm Q (csel wk z0) .select (kk s : Int) (wk s).v true)) ((u.at d).setChan (wk s).c 0 #[] false (k + 1) (k + 1) false) sl),
    MemOp.ofEvents 0 g0.frame.fn g0.frame.place #[] ++ #[{ g := (wk s).i, fn := g2.frame.fn, pos := g2.frame.place, act := .send (wk s).c k }, { g := 0, fn := g00.frame.fn, pos := g00.frame.place, act := .recv (wk s).c k 0 }, { g := (wk s).i, fn := g2.frame.fn, pos := g2.frame.place, act := .sendDone (wk s).c k }, { g := 0, fn := g00.frame.fn, pos := g00.frame.place, act := .recvDone (wk s).c k }]) →
   ∃ s gs' u' ops q', f s = true ∧ gs'.size = gs.size ∧ runT Q (crowd gs u sl) 0 = (.next (crowd gs' u' sl), ops) ∧ CI Q wk (updB f s false) o chs own rd (g00.finishComm Q (csel wk z0) .select (kk s : Int) (wk s).v true) gs' u' (t ++ ops) q' ∧ Keeps (fun b => own 0 b ∨ rd 0 b) u u' := by
  intro s g2 z n k d hs hi hq hrunT
  have hpos := (h.pos s hs).1
  have hlts : (wk s).i < gs.size := (Array.getElem?_eq_some_iff.1 hi).1
  rw [events_nil, finishComm_send] at hrunT
  obtain ⟨r1, r2⟩ := h.taken hW hs (g' := g00.finishComm Q (csel wk z0) .select (kk s : Int) (wk s).v true) (x := Go.Conc.served g2 undef) (n := n) (k := k) (d := d) hq rfl g2.frame.fn g2.frame.place g00.frame.fn g00.frame.place (gs' := (gs.setIfInBounds (wk s).i (Go.Conc.served g2 undef)).setIfInBounds 0 (g00.finishComm Q (csel wk z0) .select (kk s : Int) (wk s).v true)) (by simp)
   (by rw [Array.getElem?_setIfInBounds_self_of_lt (by simpa using hlt)]) (by rw [Array.getElem?_setIfInBounds_ne (by omega), Array.getElem?_setIfInBounds_self_of_lt hlts])
   (fun j h1 h2 => by rw [Array.getElem?_setIfInBounds_ne (fun e => h1 e.symm), Array.getElem?_setIfInBounds_ne (fun e => h2 e.symm)])
  refine ⟨s, _, _, _, upd q (wk s).i n, hs, by simp, hrunT, ?_, r2⟩
  rw [Array.empty_append]
  exact r1
 have slot : ∀ s, f s = true → o s = none → ∃ g2 z n, gs[(wk s).i]? = some (parked g2 #[scase (wk s).c (wk s).v z] .send) ∧ QuitsD Q n 0 (Go.Conc.served g2 undef) := by
  intro s hs ho
  have := h.slot s hs
  unfold Slot at this
  rw [ho] at this
  exact this
 by_cases both : (f false = true ∧ o false = none) ∧ f true = true ∧ o true = none
 ·obtain ⟨⟨f1, o1⟩, f2, o2⟩ := both
  obtain ⟨a2, za, na, ea, qa⟩ := slot false f1 o1
  obtain ⟨b2, zb, nb, eb, qb⟩ := slot true f2 o2
  obtain ⟨k1, hk1⟩ := h.core.chan _ (hc2 false)
  obtain ⟨k2, hk2⟩ := h.core.chan _ (hc2 true)
  have p1 := (h.pos false f1).1
  have p2 := (h.pos true f2).1
  obtain ⟨d, hd | hd⟩ := sel_two (P := Q) (sl := sl) (w := u) h.zero (show stepG Q (0 == 0) g0 u = _ from hst) hk1 hk2 (by omega) (by omega) ea eb (h.oneSend hW f1 o1) (h.oneSend hW f2 o2)
  ·exact fin false a2 za na k1 d f1 ea qa hd
  ·exact fin true b2 zb nb k2 d f2 eb qb hd
 ·obtain ⟨s, hs, ho⟩ := hex
  obtain ⟨g2, z, n, e, hq⟩ := slot s hs ho
  obtain ⟨k, hk⟩ := h.core.chan _ (hc2 s)
  have hp := (h.pos s hs).1
  have hrunT := crowd_sel_recv_meets (P := Q) (sl := sl) (w := u) (k := kk s) h.zero (show stepG Q (0 == 0) g0 u = _ from hst) (csel_at wk z0 s) (fun m cc hm hcc' => by
   obtain ⟨e1, _⟩ := csel_two hcc z0 s m cc hm hcc'
   subst e1
   obtain ⟨k', hk'⟩ := h.core.chan _ (hc2 (!s))
   refine ways_recv_none hk' (h.noSend hW fun r hr hor e2 => both ?_)
   have hrs : r = !s := by
    cases r <;> cases s <;> first | rfl | exact absurd e2 hcc | exact absurd e2.symm hcc
   subst hrs
   cases s
   ·exact ⟨⟨hs, ho⟩, hr, hor⟩
   ·exact ⟨⟨hr, hor⟩, hs, ho⟩) hk (by omega) e (h.oneSend hW hs ho)
  exact fin s g2 z n k u.drawn hs e hq hrunT
end
end Go.Proofs.Ytpeoabopeihadaa.Sim
/- The machine of goroutine 0, two workers and goroutines that only leave: its runs, from stop to stop of goroutine 0. No program of the project in this text. -/
namespace Go.Proofs.Ytpeoabopeihadaa.Sim
open Go Go.Conc
open Go.ConcN (sumTo upd sumTo_upd upd_ne upd_same)
section
def MGo (Q : Program) (rd : Nat → Prop) (Stop : (Nat → Prop) → Goroutine → World → Prop) : Nat → (Nat → Prop) → Goroutine → World → Prop
 | 0, own, g, u => ∀ u', Keeps (fun b => own b ∨ rd b) u u' → Stop own g u'
 | n + 1, own, g, u => (∀ u', Keeps (fun b => own b ∨ rd b) u u' → Stop own g u') ∨ (g.status = .running ∧ ∀ u', Keeps (fun b => own b ∨ rd b) u u' → ∃ g' u'', ∃ es : Array Event, ∃ own', stepG Q true g u' = .go g' u'' es ∧ g'.status = .running ∧ Gd own rd own' u' u'' es ∧ MGo Q rd Stop n own' g' u'')
theorem MGo.keep {Q : Program} {rd : Nat → Prop} {Stop : (Nat → Prop) → Goroutine → World → Prop} {n : Nat} {own : Nat → Prop} {g : Goroutine} {u u' : World} (h : MGo Q rd Stop n own g u) (k : Keeps (fun b => own b ∨ rd b) u u') : MGo Q rd Stop n own g u' := by
 cases n with
 | zero => exact fun v hv => h v (k.trans hv)
 | succ n =>
  rcases h with h | ⟨h1, h2⟩
  ·exact .inl fun v hv => h v (k.trans hv)
  ·exact .inr ⟨h1, fun v hv => h2 v (k.trans hv)⟩
theorem MGo.stop {Q : Program} {rd : Nat → Prop} {Stop : (Nat → Prop) → Goroutine → World → Prop} {n : Nat} {own : Nat → Prop} {g : Goroutine} {u : World} (h : ∀ u', Keeps (fun b => own b ∨ rd b) u u' → Stop own g u') : MGo Q rd Stop n own g u := by
 cases n with
 | zero => exact h
 | succ n => exact .inl h
theorem MGo.mono {Q : Program} {rd : Nat → Prop} {Stop Stop' : (Nat → Prop) → Goroutine → World → Prop} (hs : ∀ own g u, Stop own g u → Stop' own g u) : ∀ {n : Nat} {own : Nat → Prop} {g : Goroutine} {u : World}, MGo Q rd Stop n own g u → MGo Q rd Stop' n own g u
 | 0, _, _, _, h => fun v hv => hs _ _ _ (h v hv)
 | n + 1, _, _, _, h => h.imp (fun h v hv => hs _ _ _ (h v hv)) fun ⟨h1, h2⟩ => ⟨h1, fun v hv => by
  obtain ⟨g', u'', es, own', a, b, c, d⟩ := h2 v hv
  exact ⟨g', u'', es, own', a, b, c, MGo.mono hs d⟩⟩
def ltO {M : Type} (lt : M → M → Prop) : Option M → Option M → Prop
 | none, some _ => True
 | some x, some y => lt x y
 | _, none => False
theorem wfO {M : Type} {lt : M → M → Prop} (h : WellFounded lt) : WellFounded (ltO lt) := by
 have hn : Acc (ltO lt) none := Acc.intro _ fun y hy => by cases y <;> exact hy.elim
 refine ⟨fun a => ?_⟩
 cases a with
 | none => exact hn
 | some x =>
  induction h.apply x with
  | intro x _ ih =>
   refine Acc.intro _ fun y hy => ?_
   cases y with
   | none => exact hn
   | some y => exact ih y hy
variable {M : Type} {Q : Program} {lt : M → M → Prop} {wk : Bool → Wkr M} {f : Bool → Bool} {o : Bool → Option M} {chs : List Nat} {own rd : Nat → Nat → Prop} {g0 : Goroutine} {gs : Array Goroutine} {u : World} {t : Trace} {q : Nat → Nat}
theorem own_zero (hp : ∀ s, f s = true → 0 < (wk s).i) {s : Bool} (hs : f s = true) (own' : Nat → Prop) : upd own (wk s).i own' 0 = own 0 := upd_ne _ _ (by have := hp s hs; omega)
theorem CI.others (hW : ∀ s, f s = true → Works Q lt (rd (wk s).i) (wk s)) (h : CI Q wk f o chs own rd g0 gs u t q) {i : Nat} {g : Goroutine} (hi : gs[i]? = some g) (hg : g.status = .running) (h0 : 0 < i) (sl : Option (Nat × Nat)) :
  (∃ o' own' gs' u' ops q', gs'.size = gs.size ∧ runT Q (crowd gs u sl) i = (.next (crowd gs' u' sl), ops) ∧ CI Q wk f o' chs own' rd g0 gs' u' (t ++ ops) q' ∧ own' 0 = own 0 ∧ Keeps (fun b => own 0 b ∨ rd 0 b) u u' ∧
   ((o' = o ∧ sumTo gs.size q' < sumTo gs.size q) ∨ ∃ s, f s = true ∧ o' = updB o s (o' s) ∧ ltO lt (o' s) (o s) ∧ (o' s = none → g0.status = .running))) ∨
  ∃ s g2 z n, f s = true ∧ i = (wk s).i ∧ o s ≠ none ∧ stepG Q false g u = .comm g2 #[scase (wk s).c (wk s).v z] true .send u #[] ∧ QuitsD Q n 0 (Go.Conc.served g2 undef) ∧ g0.status ≠ .running := by
 by_cases hw : ∃ s, f s = true ∧ i = (wk s).i
 ·obtain ⟨s, hs, rfl⟩ := hw
  have hsl := h.slot s hs
  unfold Slot at hsl
  cases ho : o s with
  | none =>
   rw [ho] at hsl
   obtain ⟨g2, z, n, e, _⟩ := hsl
   rw [e] at hi
   cases hi
   cases hg
  | some m =>
   rw [ho] at hsl
   obtain ⟨g', e, hg'⟩ := hsl
   rw [e] at hi
   cases hi
   rcases (hW s hs).step m _ _ u hg' (fun b hb => h.core.low _ b (.inr ⟨s, hs, rfl⟩) hb) with ⟨m', own', g2, u', es, hgo, hlt, hw', gd⟩ | ⟨g2, z, n, hst, hq⟩
   ·obtain ⟨gs', ops, h1, h2, h3, h4⟩ := h.work hW hs e hgo hw' gd sl
    exact .inl ⟨_, _, gs', u', ops, q, h1, h2, h3, own_zero (fun s hs => (h.pos s hs).1) hs _, h4, .inr ⟨s, hs, by rw [updB_same], by rw [updB_same, ho]; exact hlt, fun k => by rw [updB_same] at k; cases k⟩⟩
   ·by_cases hm : g0.status = .running
    ·obtain ⟨gs', ops, h1, h2, h3⟩ := h.park hW hm hs e hst hq sl
     exact .inl ⟨_, own, gs', u, ops, q, h1, h2, h3, rfl, Keeps.refl _ _, .inr ⟨s, hs, by rw [updB_same], by rw [updB_same, ho]; exact trivial, fun _ => hm⟩⟩
    ·exact .inr ⟨s, g2, z, n, hs, rfl, by rw [ho]; simp, hst, hq, hm⟩
 ·have hn : ∀ s, f s = true → i ≠ (wk s).i := fun s hs e => hw ⟨s, hs, e⟩
  obtain ⟨k, gs', ops, h1, h2, h3, h4⟩ := h.leave hW hi hg h0 hn sl
  have hlt : i < gs.size := (Array.getElem?_eq_some_iff.1 hi).1
  have hsum : sumTo gs.size (upd q i k) + q i = sumTo gs.size q + k := sumTo_upd q k id hlt
  exact .inl ⟨o, own, gs', u, ops, _, h2, h3, h4, rfl, Keeps.refl _ _, .inl ⟨rfl, by omega⟩⟩
abbrev Ms (M : Type) := Option M × (Option M × (Nat × Nat))
abbrev msR {lt : M → M → Prop} (h : WellFounded lt) : WellFoundedRelation (Ms M) := Prod.lex ⟨ltO lt, wfO h⟩ (Prod.lex ⟨ltO lt, wfO h⟩ (Prod.lex Nat.lt_wfRel Nat.lt_wfRel))
theorem ms_slot {lt : M → M → Prop} (hwf : WellFounded lt) {o o' : Bool → Option M} {s : Bool} (e : o' = updB o s (o' s)) (hl : ltO lt (o' s) (o s)) (a b c d : Nat) : (msR hwf).rel (o' false, (o' true, (a, b))) (o false, (o true, (c, d))) := by
 cases s with
 | false => exact Prod.Lex.left _ _ hl
 | true =>
  have e1 : o' false = o false := by
   have := congrFun e false
   rw [updB_ne _ _ (by simp)] at this
   exact this
  rw [e1]
  exact Prod.Lex.right _ (Prod.Lex.left _ _ hl)
theorem ms_sum {lt : M → M → Prop} (hwf : WellFounded lt) {o : Bool → Option M} {a c : Nat} (h : a < c) (b d : Nat) : (msR hwf).rel (o false, (o true, (a, b))) (o false, (o true, (c, d))) := Prod.Lex.right _ (Prod.Lex.right _ (Prod.Lex.left _ _ h))
theorem ms_last {lt : M → M → Prop} (hwf : WellFounded lt) {o : Bool → Option M} (a : Nat) {b d : Nat} (h : b < d) : (msR hwf).rel (o false, (o true, (a, b))) (o false, (o true, (a, d))) := Prod.Lex.right _ (Prod.Lex.right _ (Prod.Lex.right _ h))
theorem to_stop (hwf : WellFounded lt) {Stop : (Nat → Prop) → Goroutine → World → Prop} : ∀ (μ : Ms M) {f : Bool → Bool} {o : Bool → Option M} {own : Nat → Nat → Prop} {g0 : Goroutine} {gs : Array Goroutine} {u : World} {sl : Option (Nat × Nat)} {t : Trace} {q : Nat → Nat} {n : Nat},
  (∀ s, f s = true → Works Q lt (rd (wk s).i) (wk s)) → CI Q wk f o chs own rd g0 gs u t q → g0.status = .running → MGo Q (rd 0) Stop n (own 0) g0 u → μ = (o false, (o true, (sumTo gs.size q, n))) →
  ∃ N gs' u0 u' sl0 sl' t' o' own' g0' q', runNT Q N (crowd gs u sl) t = (.next (crowd gs' u0 sl0), t') ∧ gs'.size = gs.size ∧ stepT Q (crowd gs' u0 sl0) = runT Q (crowd gs' u' sl') 0 ∧ CI Q wk f o' chs own' rd g0' gs' u' t' q' ∧ g0'.status = .running ∧ Stop (own' 0) g0' u' := by
 intro μ
 induction μ using (msR hwf).wf.induction with
 | h μ ih =>
 intro f o own g0 gs u sl t q n hW h hrun hM hμ
 obtain ⟨i, g, d, sl', hi, hg, hst⟩ := crowd_pick (P := Q) (w := u) (sl := sl) (h.awake hW) ⟨0, g0, h.zero, hrun⟩
 have hd := h.at hW d
 have hMd := hM.keep (Keeps.at _ u d)
 rcases Nat.eq_zero_or_pos i with rfl | hpos
 ·have e : g = g0 := by rw [h.zero] at hi; exact (Option.some.inj hi).symm
  subst e
  have hcases : (∀ v, Keeps (fun b => own 0 b ∨ rd 0 b) (u.at d) v → Stop (own 0) g v) ∨ ∃ n', n = n' + 1 ∧ ∀ v, Keeps (fun b => own 0 b ∨ rd 0 b) (u.at d) v → ∃ g' u'', ∃ es : Array Event, ∃ own', stepG Q true g v = .go g' u'' es ∧ g'.status = .running ∧ Gd (own 0) (rd 0) own' v u'' es ∧ MGo Q (rd 0) Stop n' own' g' u'' := by
   cases n with
   | zero => exact .inl hMd
   | succ n' => exact hMd.imp id fun x => ⟨n', rfl, x.2⟩
  rcases hcases with hs | ⟨n', rfl, hs⟩
  ·exact ⟨0, gs, u, u.at d, sl, sl', t, o, own, g, q, rfl, rfl, hst, hd, hrun, hs _ (Keeps.refl _ _)⟩
  ·obtain ⟨g', u'', es, own', hgo, hr', gd, hM'⟩ := hs _ (Keeps.refl _ _)
   obtain ⟨gs', ops, h1, h2, h3⟩ := hd.zeroGo hW hr' hgo gd sl'
   have hM2 : MGo Q (rd 0) Stop n' (upd own 0 own' 0) g' u'' := by rw [upd_same]; exact hM'
   obtain ⟨N, gs2, u0, u2, sl0, sl2, t2, o2, own2, g02, q2, r1, r2, r3⟩ := ih _ (by rw [hμ]; exact ms_last hwf _ (Nat.lt_succ_self n')) (sl := sl') hW h3 hr' hM2 (by rw [h1])
   exact ⟨N + 1, gs2, u0, u2, sl0, sl2, t2, o2, own2, g02, q2, by simp only [runNT, hst, h2]; exact r1, r2.trans h1, r3⟩
 ·rcases hd.others hW hi hg hpos sl' with ⟨o', own', gs', u', ops, q', h1, h2, h3, h4, h5, h6⟩ | ⟨s, g2, z, k, _, _, _, _, _, hno⟩
  ·have hM2 : MGo Q (rd 0) Stop n (own' 0) g0 u' := by rw [h4]; exact hMd.keep h5
   have hμ2 : (msR hwf).rel (o' false, (o' true, (sumTo gs'.size q', n))) μ := by
    rw [hμ, h1]
    rcases h6 with ⟨rfl, h6⟩ | ⟨s, _, e, hl, _⟩
    ·exact ms_sum hwf h6 _ _
    ·exact ms_slot hwf e hl _ _ _ _
   obtain ⟨N, gs2, u0, u2, sl0, sl2, t2, o2, own2, g02, q2, r1, r2, r3⟩ := ih _ hμ2 (sl := sl') hW h3 hrun hM2 rfl
   exact ⟨N + 1, gs2, u0, u2, sl0, sl2, t2, o2, own2, g02, q2, by simp only [runNT, hst, h2]; exact r1, r2.trans h1, r3⟩
  ·exact absurd hrun hno
theorem to_take (hwf : WellFounded lt) {z0 : Value} (hcc : (wk false).c ≠ (wk true).c) : ∀ (μ : Ms M) {f : Bool → Bool} {o : Bool → Option M} {own : Nat → Nat → Prop} {g00 : Goroutine} {gs : Array Goroutine} {u : World} {sl : Option (Nat × Nat)} {t : Trace} {q : Nat → Nat},
  (∀ s, f s = true → Works Q lt (rd (wk s).i) (wk s)) → CI Q wk f o chs own rd (parked g00 (csel wk z0) .select) gs u t q → (∃ s, f s = true) → (∀ s, f s = true → o s ≠ none) → μ = (o false, (o true, (sumTo gs.size q, 0))) →
  ∃ s N gs' u' sl' t' o' own' q', f s = true ∧ runNT Q N (crowd gs u sl) t = (.next (crowd gs' u' sl'), t') ∧ gs'.size = gs.size ∧ CI Q wk (updB f s false) o' chs own' rd (g00.finishComm Q (csel wk z0) .select (kk s : Int) (wk s).v true) gs' u' t' q' ∧ own' 0 = own 0 ∧ Keeps (fun b => own 0 b ∨ rd 0 b) u u' := by
 intro μ
 induction μ using (msR hwf).wf.induction with
 | h μ ih =>
 intro f o own g00 gs u sl t q hW h hex hno hμ
 have hsome : ∃ (i : Nat) (g : Goroutine), gs[i]? = some g ∧ g.status = .running := by
  obtain ⟨s, hs⟩ := hex
  have hsl := h.slot s hs
  unfold Slot at hsl
  cases ho : o s with
  | none => exact absurd ho (hno s hs)
  | some m =>
   rw [ho] at hsl
   obtain ⟨g', e, hg'⟩ := hsl
   exact ⟨_, g', e, (hW s hs).run _ _ _ _ hg'⟩
 obtain ⟨i, g, d, sl', hi, hg, hst⟩ := crowd_pick (P := Q) (w := u) (sl := sl) (h.awake hW) hsome
 have hd := h.at hW d
 have hpos : 0 < i := by
  rcases Nat.eq_zero_or_pos i with rfl | hp
  ·rw [h.zero] at hi
   cases hi
   cases hg
  ·exact hp
 rcases hd.others hW hi hg hpos sl' with ⟨o', own', gs', u', ops, q', h1, h2, h3, h4, h5, h6⟩ | ⟨s, g2, z, k, hs, rfl, _, hcm, hq, _⟩
 ·have hno' : ∀ s, f s = true → o' s ≠ none := by
   intro s hs
   rcases h6 with ⟨rfl, _⟩ | ⟨r, hr, e, hl, hn⟩
   ·exact hno s hs
   ·by_cases e2 : s = r
    ·subst e2
     intro k
     have := hn k
     cases this
    ·rw [e, updB_ne _ _ e2]
     exact hno s hs
  have hμ2 : (msR hwf).rel (o' false, (o' true, (sumTo gs'.size q', 0))) μ := by
   rw [hμ, h1]
   rcases h6 with ⟨rfl, h6⟩ | ⟨s, _, e, hl, _⟩
   ·exact ms_sum hwf h6 _ _
   ·exact ms_slot hwf e hl _ _ _ _
  obtain ⟨s, N, gs2, u2, sl2, t2, o2, own2, q2, r1, r2, r3, r4, r5, r6⟩ := ih _ hμ2 (sl := sl') hW h3 hex hno' rfl
  rw [h4] at r5 r6
  exact ⟨s, N + 1, gs2, u2, sl2, t2, o2, own2, q2, r1, by simp only [runNT, hst, h2]; exact r2, r3.trans h1, r4, r5, ((Keeps.at _ u d).trans h5).trans r6⟩
 ·obtain ⟨gs', u', ops, q', h1, h2, h3, h4⟩ := hd.meet hW hcc hs hi hcm hq sl'
  exact ⟨s, 1, gs', u', sl', _, o, own, q', hs, by simp only [runNT, hst, h2], h1, h3, rfl, (Keeps.at _ u d).trans h4⟩
theorem receives (hwf : WellFounded lt) {z0 : Value} (hcc : (wk false).c ≠ (wk true).c) (hc2 : ∀ s, (wk s).c ∈ chs) {f : Bool → Bool} {o : Bool → Option M} {own : Nat → Nat → Prop} {g0 : Goroutine} {gs : Array Goroutine} {u : World} {sl : Option (Nat × Nat)} {t : Trace} {q : Nat → Nat} {n : Nat}
  {After : (Nat → Prop) → Goroutine → World → Prop} (hAf : ∀ ow g v v', After ow g v → Keeps (fun b => ow b ∨ rd 0 b) v v' → After ow g v')
  (hW : ∀ s, f s = true → Works Q lt (rd (wk s).i) (wk s)) (h : CI Q wk f o chs own rd g0 gs u t q) (hrun : g0.status = .running) (hex : ∃ s, f s = true)
  (hM : MGo Q (rd 0) (fun ow g v => ∃ g00, stepG Q true g v = .comm g00 (csel wk z0) true .select v #[] ∧ After ow g00 v) n (own 0) g0 u) :
  ∃ s g00 N gs' u' sl' t' o' own' q', f s = true ∧ runNT Q N (crowd gs u sl) t = (.next (crowd gs' u' sl'), t') ∧ gs'.size = gs.size ∧ CI Q wk (updB f s false) o' chs own' rd (g00.finishComm Q (csel wk z0) .select (kk s : Int) (wk s).v true) gs' u' t' q' ∧ After (own' 0) g00 u' := by
 obtain ⟨N, gs1, u0, u1, sl0, sl1, t1, o1, own1, g1, q1, r1, r2, r3, r4, r5, g00, r6, r7⟩ := to_stop hwf _ (sl := sl) hW h hrun hM rfl
 by_cases hp : ∃ s, f s = true ∧ o1 s = none
 ·obtain ⟨s, gs2, u2, ops, q2, a1, a2, a3, a4, a5⟩ := r4.take hW hcc hc2 hp r6 sl1
  refine ⟨s, g00, N + 1, gs2, u2, sl1, _, o1, own1, q2, a1, ?_, a2.trans r2, a4, hAf _ _ _ _ r7 a5⟩
  rw [runNT_add, r1]
  simp only [runNT, r3, a3]
 ·have hno : ∀ s, f s = true → o1 s ≠ none := fun s hs e => hp ⟨s, hs, e⟩
  obtain ⟨gs2, ops, a2, a3, a4⟩ := r4.wait hW hc2 hno r6 sl1
  obtain ⟨s, N2, gs3, u3, sl3, t3, o3, own3, q3, b1, b2, b3, b4, b5, b6⟩ := to_take hwf hcc _ (sl := sl1) hW a4 hex hno rfl
  rw [← b5] at b6
  refine ⟨s, g00, N + (1 + N2), gs3, u3, sl3, t3, o3, own3, q3, b1, ?_, b3.trans (a2.trans r2), b4, hAf _ _ _ _ (by rw [b5]; exact r7) (by rw [b5]; exact (by rw [b5] at b6; exact b6))⟩
  rw [runNT_add, r1]
  show runNT Q (1 + N2) _ _ = _
  rw [runNT_add]
  simp only [runNT, r3, a3]
  exact b2
end
end Go.Proofs.Ytpeoabopeihadaa.Sim
/- The machine of goroutine 0, two workers and goroutines that only leave: a worker is started; from and to the frame in which goroutine 0 works alone. No program of the project in this text. -/
namespace Go.Proofs.Ytpeoabopeihadaa.Sim
open Go Go.Conc
open Go.ConcN (sumTo upd sumTo_upd upd_ne upd_same)
section
variable {M : Type} {Q : Program} {lt : M → M → Prop} {wk : Bool → Wkr M} {f : Bool → Bool} {o : Bool → Option M} {chs : List Nat} {own rd : Nat → Nat → Prop} {g0 : Goroutine} {gs : Array Goroutine} {u : World} {t : Trace} {q : Nat → Nat}
theorem act_hire {s : Bool} (hs : f s = false) (x : Wkr M) : Act (updB wk s x) (updB f s true) = fun g => Act wk f g ∨ g = x.i := by
 funext g
 apply propext
 constructor
 ·rintro (rfl | ⟨r, hr, rfl⟩)
  ·exact .inl (.inl rfl)
  ·by_cases e : r = s
   ·rw [e, updB_same]; exact .inr rfl
   ·rw [updB_ne _ _ e] at hr ⊢
    exact .inl (.inr ⟨r, hr, rfl⟩)
 ·rintro ((rfl | ⟨r, hr, rfl⟩) | rfl)
  ·exact .inl rfl
  ·have e : r ≠ s := fun e => by rw [e, hs] at hr; cases hr
   exact .inr ⟨r, by rw [updB_ne _ _ e]; exact hr, by rw [updB_ne _ _ e]⟩
  ·exact .inr ⟨s, updB_same _ _ _, by rw [updB_same]⟩
theorem CI.spawn (h : CI Q wk f o chs own rd g0 gs u t q) {s : Bool} (hs : f s = false) {x : Wkr M} {m : M} {g' child : Goroutine} (hst : stepG Q true g0 u = .spawn g' child u #[]) (hr : g'.status = .running) (hxi : x.i = gs.size) (hw : x.W m (fun _ => False) child u)
  {own0 rd0 rdw : Nat → Prop} (ho : ∀ b, own0 b → own 0 b) (hr0 : ∀ b, rd0 b → own 0 b ∨ rd 0 b) (hrw : ∀ b, rdw b → rd0 b) (hdis : ∀ b, own0 b → ¬ rdw b) (hc : own 0 x.c) (hch : ∃ k, u.heap[x.c]? = some (.chan 0 #[] false k k false)) (hc0 : ¬ own0 x.c ∧ ¬ rd0 x.c) (sl : Option (Nat × Nat)) :
  ∃ gs' ops, gs'.size = gs.size + 1 ∧ runT Q (crowd gs u sl) 0 = (.next (crowd gs' u sl), ops) ∧
   CI Q (updB wk s x) (updB f s true) (updB o s (some m)) (x.c :: chs) (upd (upd own x.i (fun _ => False)) 0 own0) (upd (upd rd x.i rdw) 0 rd0) g' gs' u (t ++ ops) q := by
 have hlt : 0 < gs.size := (Array.getElem?_eq_some_iff.1 h.zero).1
 have hx0 : x.i ≠ 0 := by omega
 have wlt : ∀ r, f r = true → (wk r).i < gs.size := by
  intro r hr
  have hsl := h.slot r hr
  unfold Slot at hsl
  cases e : o r with
  | some m =>
   rw [e] at hsl
   obtain ⟨g, e1, _⟩ := hsl
   exact (Array.getElem?_eq_some_iff.1 e1).1
  | none =>
   rw [e] at hsl
   obtain ⟨g2, z, n, e1, _⟩ := hsl
   exact (Array.getElem?_eq_some_iff.1 e1).1
 have alt : ∀ g, Act wk f g → g ≠ x.i := by
  rintro g (rfl | ⟨r, hr, rfl⟩)
  ·omega
  ·have := wlt r hr; omega
 have hA0 : Act wk f 0 := .inl rfl
 have o0 : upd (upd own x.i (fun _ => False)) 0 own0 0 = own0 := upd_same _ _ _
 have ox : upd (upd own x.i (fun _ => False)) 0 own0 x.i = fun _ => False := by rw [upd_ne _ _ hx0, upd_same]
 have og : ∀ g, Act wk f g → g ≠ 0 → upd (upd own x.i (fun _ => False)) 0 own0 g = own g := fun g hg h0 => by rw [upd_ne _ _ h0, upd_ne _ _ (alt g hg)]
 have r0 : upd (upd rd x.i rdw) 0 rd0 0 = rd0 := upd_same _ _ _
 have rx : upd (upd rd x.i rdw) 0 rd0 x.i = rdw := by rw [upd_ne _ _ hx0, upd_same]
 have rg : ∀ g, Act wk f g → g ≠ 0 → upd (upd rd x.i rdw) 0 rd0 g = rd g := fun g hg h0 => by rw [upd_ne _ _ h0, upd_ne _ _ (alt g hg)]
 generalize hO : upd (upd own x.i (fun _ => False)) 0 own0 = own1 at o0 ox og
 generalize hR : upd (upd rd x.i rdw) 0 rd0 = rd1 at r0 rx rg
 have oSub : ∀ g b, Act wk f g → own1 g b → own g b := by
  intro g b hg hb
  by_cases e : g = 0
  ·subst e; rw [o0] at hb; exact ho b hb
  ·rw [og g hg e] at hb; exact hb
 have rSub : ∀ g b, Act wk f g → rd1 g b → own g b ∨ rd g b := by
  intro g b hg hb
  by_cases e : g = 0
  ·subst e; rw [r0] at hb; exact hr0 b hb
  ·rw [rg g hg e] at hb; exact .inr hb
 have xSub : ∀ b, rd1 x.i b → own 0 b ∨ rd 0 b := fun b hb => by rw [rx] at hb; exact hr0 b (hrw b hb)
 have xOwn : ∀ b, ¬ own1 x.i b := fun b hb => by rw [ox] at hb; exact hb
 have hti1 : TI (Act wk f) own1 rd1 u.heap.size t := h.core.ti.rights (fun g b hg hb => .inl (oSub g b hg hb)) (fun g b hg hb => (rSub g b hg hb).imp id .inl)
 have hti2 := hti1.hire (h := 0) (c := x.i) hA0 (fun k => alt _ k rfl) (h.above _ (by omega)) (fun b hb => absurd hb (xOwn b)) (fun b hb => by rw [rx] at hb; rw [r0]; exact .inr (hrw b hb)) g0.frame.fn g0.frame.place child.frame.fn
 have hrunT := runT_crowd_spawn (P := Q) (sl := sl) (i := 0) (w := u) h.zero (show stepG Q (0 == 0) g0 u = _ from hst)
 rw [events_nil] at hrunT
 have hops : ((#[] : Trace).push { g := 0, fn := g0.frame.fn, pos := g0.frame.place, act := .go gs.size }).push { g := gs.size, fn := child.frame.fn, pos := g0.frame.place, act := .start } = #[{ g := 0, fn := g0.frame.fn, pos := g0.frame.place, act := .go x.i }, { g := x.i, fn := child.frame.fn, pos := g0.frame.place, act := .start }] := by rw [hxi]; rfl
 rw [hops] at hrunT
 have hdeaf : ∀ j, Deaf (t ++ #[{ g := 0, fn := g0.frame.fn, pos := g0.frame.place, act := .go x.i }, { g := x.i, fn := child.frame.fn, pos := g0.frame.place, act := .start }]) j = Deaf t j := fun j => Deaf_quiet fun op hop d => by
  simp only [List.mem_toArray, List.mem_cons, List.not_mem_nil, or_false] at hop
  rcases hop with rfl | rfl <;> rfl
 have chlt : x.c < u.heap.size := by
  obtain ⟨k, e⟩ := hch
  exact (Array.getElem?_eq_some_iff.1 e).1
 have old : ∀ j, j < gs.size → j ≠ 0 → ((gs.setIfInBounds 0 g').push child)[j]? = gs[j]? := fun j hj h0 => by
  rw [Array.getElem?_push, if_neg (by simp; omega), Array.getElem?_setIfInBounds_ne (fun e => h0 e.symm)]
 refine ⟨_, _, by simp, hrunT, ⟨⟨fun c hcc => ?_, fun c hcc g hg => ?_, fun g g2 b hg hg2 hne => ?_, fun g b hg hb => ?_, ?_⟩, ?_, fun r hrr => ?_, fun j y hj hjn hy => ?_, fun j hj => ?_, fun r hrr => ?_, fun a b => ?_, .inl hr⟩⟩
 ·rcases List.mem_cons.1 hcc with rfl | hcc
  ·exact hch
  ·exact h.core.chan c hcc
 ·rw [act_hire hs x] at hg
  rcases List.mem_cons.1 hcc with rfl | hcc
  ·rcases hg with hg | rfl
   ·by_cases e : g = 0
    ·subst e; rw [o0, r0]; exact hc0
    ·rw [og g hg e, rg g hg e]
     exact (h.core.apart 0 g x.c hA0 hg e).1 hc
   ·refine ⟨xOwn _, fun k => ?_⟩
    rw [rx] at k
    exact hc0.2 (hrw _ k)
  ·rcases hg with hg | rfl
   ·have nb := h.core.nob c hcc g hg
    exact ⟨fun k => nb.1 (oSub g c hg k), fun k => (rSub g c hg k).elim nb.1 nb.2⟩
   ·have nb := h.core.nob c hcc 0 hA0
    exact ⟨xOwn _, fun k => (xSub c k).elim nb.1 nb.2⟩
 ·rw [act_hire hs x] at hg hg2
  rcases hg with hg | rfl
  ·rcases hg2 with hg2 | rfl
   ·have ap := h.core.apart g g2 b hg hg2 hne
    refine ⟨fun k => ⟨fun k2 => (ap.1 (oSub g b hg k)).1 (oSub g2 b hg2 k2), fun k2 => (rSub g2 b hg2 k2).elim (ap.1 (oSub g b hg k)).1 (ap.1 (oSub g b hg k)).2⟩, fun k k2 => ?_⟩
    rcases rSub g b hg k with k3 | k3
    ·exact (ap.1 k3).1 (oSub g2 b hg2 k2)
    ·exact ap.2 k3 (oSub g2 b hg2 k2)
   ·refine ⟨fun k => ⟨xOwn b, fun k2 => ?_⟩, fun _ => xOwn b⟩
    by_cases e : g = 0
    ·subst e
     rw [o0] at k
     rw [rx] at k2
     exact hdis b k k2
    ·have ap := h.core.apart g 0 b hg hA0 (fun e2 => e e2.symm)
     exact (xSub b k2).elim (ap.1 (oSub g b hg k)).1 (ap.1 (oSub g b hg k)).2
  ·rcases hg2 with hg2 | rfl
   ·refine ⟨fun k => absurd k (xOwn b), fun k k2 => ?_⟩
    by_cases e : g2 = 0
    ·subst e
     rw [o0] at k2
     rw [rx] at k
     exact hdis b k2 k
    ·have ap := h.core.apart 0 g2 b hA0 hg2 e
     rcases xSub b k with k3 | k3
     ·exact (ap.1 k3).1 (oSub g2 b hg2 k2)
     ·exact ap.2 k3 (oSub g2 b hg2 k2)
   ·exact absurd rfl hne
 ·rw [act_hire hs x] at hg
  rcases hg with hg | rfl
  ·rcases hb with hb | hb
   ·exact h.core.low g b hg (.inl (oSub g b hg hb))
   ·exact h.core.low g b hg (rSub g b hg hb)
  ·rcases hb with hb | hb
   ·exact absurd hb (xOwn b)
   ·exact h.core.low 0 b hA0 (xSub b hb)
 ·rw [act_hire hs x]
  exact hti2
 ·rw [Array.getElem?_push, if_neg (by simp; omega), Array.getElem?_setIfInBounds_self_of_lt hlt]
 ·by_cases e : r = s
  ·subst e
   rw [updB_same, updB_same, ox]
   refine ⟨child, ?_, hw⟩
   rw [hxi, Array.getElem?_push, if_pos (by simp)]
  ·rw [updB_ne _ _ e] at hrr
   rw [updB_ne _ _ e, updB_ne _ _ e]
   have hp := (h.pos r hrr).1
   have hsl := h.slot r hrr
   rw [og _ (.inr ⟨r, hrr, rfl⟩) (by omega)]
   unfold Slot at hsl ⊢
   rw [old _ (wlt r hrr) (by omega)]
   exact hsl
 ·rw [hdeaf]
  have hne : j ≠ x.i := fun e => hjn s (updB_same _ _ _) (by rw [updB_same]; exact e)
  have hjl : j < gs.size := by
   have := (Array.getElem?_eq_some_iff.1 hy).1
   simp at this
   omega
  rw [old j hjl (by omega)] at hy
  exact h.rest j y hj (fun r hrr e => by
   have e2 : r ≠ s := fun e2 => by rw [e2, hs] at hrr; cases hrr
   exact hjn r (by rw [updB_ne _ _ e2]; exact hrr) (by rw [updB_ne _ _ e2]; exact e)) hy
 ·rw [hdeaf]
  simp at hj
  exact h.above j (by omega)
 ·by_cases e : r = s
  ·subst e
   rw [updB_same]
   exact ⟨by omega, List.mem_cons_self ..⟩
  ·rw [updB_ne _ _ e] at hrr ⊢
   exact ⟨(h.pos r hrr).1, List.mem_cons_of_mem _ (h.pos r hrr).2⟩
 ·have key : ∀ r, r ≠ s → f r = true → (wk r).i ≠ x.i ∧ (wk r).c ≠ x.c := fun r e hrr => by
   refine ⟨by have := wlt r hrr; omega, fun e2 => ?_⟩
   have nb := h.core.nob _ (h.pos r hrr).2 0 hA0
   rw [e2] at nb
   exact nb.1 hc
  cases s
  ·rw [updB_ne _ _ (by simp)] at b
   rw [updB_same, updB_ne _ _ (by simp)]
   have := key true (by simp) b
   exact ⟨fun e => this.1 e.symm, fun e => this.2 e.symm⟩
  ·rw [updB_ne _ _ (by simp)] at a
   rw [updB_same, updB_ne _ _ (by simp)]
   exact key false (by simp) a
theorem act_none : Act wk (fun _ => false) = fun g => g = 0 := by
 funext g
 apply propext
 constructor
 ·rintro (rfl | ⟨r, hr, _⟩)
  ·rfl
  ·cases hr
 ·exact fun e => .inl e
theorem CI.ofFrame (h0 : gs[0]? = some g0) (hrun : g0.status = .running) (hL : Leavers Q t gs q) (hP : Past (fun _ => False) u.heap.size t) (hlow : ∀ b, own 0 b ∨ rd 0 b → b < u.heap.size) : CI Q wk (fun _ => false) o [] own rd g0 gs u t q := by
 refine ⟨⟨fun c hc => (by cases hc), fun c hc => (by cases hc), fun g g' b hg hg' hne => ?_, fun g b hg hb => ?_, ?_⟩, h0, fun s hs => (by cases hs), fun i g hi _ hg => hL.old i g hi hg, hL.above, fun s hs => (by cases hs), fun a => (by cases a), .inl hrun⟩
 ·rw [act_none] at hg hg'
  exact absurd (hg'.trans hg.symm) hne
 ·rw [act_none] at hg
  subst hg
  exact hlow b hb
 ·rw [act_none]
  exact TI.ofPast hP
theorem CI.toFrame (h : CI Q wk f o chs own rd g0 gs u t q) (hf : ∀ s, f s = false) : gs[0]? = some g0 ∧ Leavers Q t gs q ∧ Past (fun _ => False) u.heap.size t := by
 refine ⟨h.zero, ⟨fun i g hi hg => h.rest i g hi (fun s hs => by rw [hf s] at hs; cases hs) hg, h.above⟩, h.core.ti.toPast (.inl rfl) ?_⟩
 rintro g (rfl | ⟨s, hs, _⟩)
 ·rfl
 ·rw [hf s] at hs; cases hs
end
end Go.Proofs.Ytpeoabopeihadaa.Sim
/- A worker whose middle is a lone run: it turns blocks of its own, reads others', and comes to its send. No program of the project in this text. -/
namespace Go.Proofs.Ytpeoabopeihadaa.Sim
open Go Go.Conc
open Go.ConcN (sumTo upd sumTo_upd upd_ne upd_same)
section
variable [Glob] {P : Program}
theorem evs_r {q : Ren} {F own rd : Nat → Prop} (hm : ∀ d c, q d = some c → own c ∨ (rd c ∧ F d)) : ∀ {es es' : List Event}, EL q F es es' → ∀ e ∈ es', EvR own rd e
 | [], [], _, e, he => by cases he
 | x :: xs, y :: ys, h, e, he => by
  rcases List.mem_cons.1 he with rfl | he
  ·rcases h.1 with ⟨a, a', e1, e2, e3, e4⟩ | ⟨⟨m, mo, e1⟩, e2⟩ | ⟨b, c, e1, e2, e3⟩
   ·refine .inl ⟨a', _, e2, ?_⟩
    rcases hm _ _ e3.1 with h1 | ⟨h1, h2⟩
    ·exact .inl h1
    ·refine .inr ⟨?_, h1⟩
     cases hw : x.write with
     | false => rfl
     | true => exact absurd h2 (e4 hw)
   ·exact .inr (.inl ⟨m, mo, by rw [e2, e1]⟩)
   ·exact .inr (.inr ⟨c, e2, (hm _ _ e3).imp id (·.1)⟩)
  ·exact evs_r hm h.2 e he
structure Mid (P : Program) (Post : Value → Array Obj → Prop) (rd own : Nat → Prop) (p : Ren) (s : St) (b : Frame) (bs : List Frame) (u : World) : Prop where
 ends : AllEnd P Post s.a s.as s.w
 rel : Rel P p s b bs u
 mine : ∀ d c, p d = some c → own c ∨ (rd c ∧ Fz s.w d)
variable {Post : Value → Array Obj → Prop} {rd own : Nat → Prop} {p : Ren} {s : St} {b : Frame} {bs : List Frame} {u : World}
theorem Mid.keep (h : Mid P Post rd own p s b bs u) {u' : World} (k : Keeps (fun b => own b ∨ rd b) u u') : Mid P Post rd own p s b bs u' :=
 ⟨h.ends, ⟨h.rel.gp, ⟨fun d c e => by
    obtain ⟨o, o', h1, h2, h3⟩ := h.rel.wr.blk d c e
    exact ⟨o, o', h1, by rw [k.same c ((h.mine d c e).imp id (·.1))]; exact h2, h3⟩, h.rel.wr.inj, ⟨h.rel.wr.big.1, Nat.le_trans h.rel.wr.big.2 k.size⟩, h.rel.wr.dead⟩, h.rel.fr, h.rel.sk⟩, h.mine⟩
theorem gd_of {q : Ren} {w w1 u1 : World} {es es' : Array Event} (hm : ∀ d c, p d = some c → own c ∨ (rd c ∧ Fz w d)) (k : Eff p q w w1 u u1) (he : EL q (Fp p w) es.toList es'.toList) :
  Gd own rd (fun c => own c ∨ (u.heap.size ≤ c ∧ c < u1.heap.size)) u u1 es' ∧ ∀ d c, q d = some c → (own c ∨ (u.heap.size ≤ c ∧ c < u1.heap.size)) ∨ (rd c ∧ Fz w1 d) := by
 refine ⟨⟨fun _ h => .inl h, fun _ h => h, k.size, fun c hc hno => ?_, fun e h => evs_r (q := q) (F := Fp p w) (fun d c e => ?_) he e (by simpa using h), k.os, k.tape, k.out⟩, fun d c e => ?_⟩
 ·by_cases hx : ∃ d, p d = some c
  ·obtain ⟨d, e⟩ := hx
   rcases hm d c e with h | ⟨_, h⟩
   ·exact absurd h hno
   ·exact (k.still d c e h).1
  ·exact k.other c hc fun d e => hx ⟨d, e⟩
 ·rcases k.fresh d c e with e1 | ⟨_, e1⟩
  ·rcases hm d c e1 with h | ⟨h1, h2⟩
   ·exact .inl (.inl h)
   ·exact .inr ⟨h1, h2, c, e1⟩
  ·exact .inl (.inr ⟨e1, (k.wr.lt e).2⟩)
 ·rcases k.fresh d c e with e1 | ⟨_, e1⟩
  ·rcases hm d c e1 with h | ⟨h1, h2⟩
   ·exact .inl (.inl h)
   ·refine .inr ⟨h1, ?_⟩
    obtain ⟨xs, t, hi, e3, e4⟩ := h2
    exact ⟨xs, t, hi, (k.still d c e1 ⟨xs, t, hi, e3, e4⟩).2.trans e3, e4⟩
  ·exact .inl (.inr ⟨e1, (k.wr.lt e).2⟩)
theorem enter_fn (Q : Program) (g : FuncId) (ys : Array Value) (k : CallKind) : (Frame.enter Q g ys k).fn = g := rfl
theorem Mid.step (hz : Zero P) (hG : Glob.size = P.globals.size) (hc : Codes P) (hcut : ∀ f, Glob.ok f = true → Glob.cut f = false) (h : Mid P Post rd own p s b bs u) (no : ¬s.over) (main : Bool) (cs : List Frame) :
  ∃ own' p' s' b' bs' u', ∃ es : Array Event, stepG (co P) main (gor b (bs ++ cs)) u = .go (gor b' (bs' ++ cs)) u' es ∧ Ahead P s' s ∧ Mid P Post rd own' p' s' b' bs' u' ∧ Gd own rd own' u u' es := by
 obtain ⟨q, a1, b1, as1, bs1, w1, u1, es, es', g2, g3, g4, g5, g6, g7, g8, g9⟩ := own_step (main := main) (cs := cs) hz hG hc h.rel.gp h.rel.wr h.rel.fr h.rel.sk no h.ends
 have hf : Glob.cut s.a.fn = false := by
  obtain ⟨f, xs, ys, k, m, e1, e2, e3, _⟩ := h.rel.fr
  rw [e1]
  exact hcut _ e3
 obtain ⟨b2, hgo, hcb, _⟩ := g9 hf
 have e2 : b2 = b1 := by
  rcases hcb with ⟨e, _⟩ | ⟨g, ys, ⟨c1, _⟩, c2, _⟩
  ·exact e
  ·exfalso
   obtain ⟨f, xs, zs, k, m, d1, d2, d3, _⟩ := g3
   have : f = g := by
    have e := congrArg Frame.fn (d2.symm.trans c2)
    rw [enter_fn] at e
    exact e
   subst this
   rw [hcut _ d3] at c1
   cases c1
 subst e2
 obtain ⟨k1, k2⟩ := gd_of (w := wt s.w u.tape u.drawn) h.mine g5 g6
 exact ⟨_, q, ⟨a1, as1, w1⟩, b2, bs1, u1, es', hgo, ⟨u.tape, u.drawn, no, es, g8⟩, ⟨g7, ⟨h.rel.gp.le g5.le, g5.wr, g3, g4⟩, k2⟩, k1⟩
theorem Mid.ret (hc : Codes P) (hcut : ∀ f, Glob.ok f = true → Glob.cut f = false) (h : Mid P Post rd own p s b bs u) (ov : s.over) (main : Bool) (top : Frame) (cs : List Frame) :
  ∃ own' v v' q u', ∃ es : Array Event, bs = [] ∧ stepG (co P) main (gor b (top :: cs)) u = .go (gor (top.finish v') cs) u' es ∧ Post v s.w.heap ∧ V q v v' ∧ Gd own rd own' u u' es := by
 obtain ⟨n, fr, v, w', e, hl, hp⟩ := h.ends u.tape u.drawn
 obtain ⟨ov1, ov2⟩ := ov
 have hb : bs = [] := by
  have := h.rel.sk
  rw [ov2] at this
  cases bs with
  | nil => rfl
  | cons x xs => exact this.elim
 have n0 : n = 0 := by
  rw [ov2, List.nil_append] at e
  exact end_any hc h.rel.fr ov1 (as2 := []) e
 subst n0
 rw [ov2, List.nil_append] at e
 simp only [runN, Stepped.next.injEq, lone, Machine.mk.injEq] at e
 have e2 := e.2.1
 simp at e2
 have e1 := e.1
 subst e2
 subst e1
 obtain ⟨f, xs, ys, k, m, d1, d2, d3, d4, d5, d6⟩ := h.rel.fr
 have hm : m = .returning := by
  have := ov1
  rw [d1] at this
  exact this
 subst hm
 obtain ⟨fn, c, h1, _, _, _, fn2, h2, _, _, h3, _⟩ := hc.2 f d3
 have h3 := h3 (hcut f d3)
 rw [d1] at hl
 obtain ⟨_, _, _, fn', h4, h5⟩ := hl
 have h4 : P.funcs[f]? = some fn' := h4
 rw [h1] at h4
 cases h4
 have h5 : (results fn xs).run P (wt s.w u.tape u.drawn) = .ok v (wt s.w u.tape u.drawn) := h5
 have hx := sr_results (P := P) fn d4
 cases hr : (results fn xs).runT P (wt s.w u.tape u.drawn) #[] with
 | mk r es =>
  have e0 : r = .ok v (wt s.w u.tape u.drawn) := by
   have := Sem.runT_fst P (results fn xs) (wt s.w u.tape u.drawn) #[]
   rw [hr] at this
   exact this.trans h5
  subst e0
  have hw0 : WR p (wt s.w u.tape u.drawn) u := ⟨h.rel.wr.blk, h.rel.wr.inj, h.rel.wr.big, h.rel.wr.dead⟩
  obtain ⟨q, v', u1, ds, ds', ea, f2, f3, f4, f5⟩ := sr_runs _ (fs := #[]) hx hw0 hr (fun i _ => rfl)
  have f6 := ea (co P) (.inr rfl)
  have f7 := seen_co hc d3 f ((#[] : Array Event) ++ ds'.toArray)
  have f5 : EL q (Fp p (wt s.w u.tape u.drawn)) es.toList ((#[] : Array Event) ++ ds'.toArray).toList := by
   rw [f2]
   simpa using f5
  have f8 := seen_rel (P := P) f f5
  obtain ⟨k1, k2⟩ := gd_of (w := wt s.w u.tape u.drawn) h.mine f4 f8
  refine ⟨_, v, v', q, u1, _, hb, ?_, hp, f3, k1⟩
  rw [h3] at h2
  rw [d2, ← f7]
  simp only [stepG, gor, mkF, unwind, h2, f6, doReturn, GStep.after, Array.append_empty]
end
end Go.Proofs.Ytpeoabopeihadaa.Sim
/- A worker, whole: it comes to its middle, follows a lone run there, and comes to its send. No program of the project in this text. -/
namespace Go.Proofs.Ytpeoabopeihadaa.Sim
open Go Go.Conc
open Go.ConcN (sumTo upd sumTo_upd upd_ne upd_same)
section
def WGo (Q : Program) (rd : Nat → Prop) (Stop : (Nat → Prop) → Goroutine → World → Prop) : Nat → (Nat → Prop) → Goroutine → World → Prop
 | 0, own, g, u => g.status = .running ∧ ∀ u', Keeps (fun b => own b ∨ rd b) u u' → Stop own g u'
 | n + 1, own, g, u => g.status = .running ∧ ((∀ u', Keeps (fun b => own b ∨ rd b) u u' → Stop own g u') ∨ ∀ u', Keeps (fun b => own b ∨ rd b) u u' → ∃ g' u'', ∃ es : Array Event, ∃ own', stepG Q false g u' = .go g' u'' es ∧ Gd own rd own' u' u'' es ∧ WGo Q rd Stop n own' g' u'')
variable {Q : Program} {rd own : Nat → Prop} {Stop : (Nat → Prop) → Goroutine → World → Prop} {n : Nat} {g : Goroutine} {u : World}
theorem WGo.keep {u' : World} (h : WGo Q rd Stop n own g u) (k : Keeps (fun b => own b ∨ rd b) u u') : WGo Q rd Stop n own g u' := by
 cases n with
 | zero => exact ⟨h.1, fun v hv => h.2 v (k.trans hv)⟩
 | succ n => exact ⟨h.1, h.2.imp (fun h v hv => h v (k.trans hv)) fun h v hv => h v (k.trans hv)⟩
theorem WGo.run (h : WGo Q rd Stop n own g u) : g.status = .running := by
 cases n with
 | zero => exact h.1
 | succ n => exact h.1
theorem WGo.stop (hr : g.status = .running) (h : ∀ u', Keeps (fun b => own b ∨ rd b) u u' → Stop own g u') : WGo Q rd Stop n own g u := by
 cases n with
 | zero => exact ⟨hr, h⟩
 | succ n => exact ⟨hr, .inl h⟩
theorem WGo.next (hr : g.status = .running) (h : ∀ u', Keeps (fun b => own b ∨ rd b) u u' → ∃ g' u'', ∃ es : Array Event, ∃ own', stepG Q false g u' = .go g' u'' es ∧ Gd own rd own' u' u'' es ∧ WGo Q rd Stop n own' g' u'') : WGo Q rd Stop (n + 1) own g u := ⟨hr, .inr h⟩
theorem WGo.now (h : WGo Q rd Stop n own g u) : Stop own g u ∨ ∃ k g' u'', ∃ es : Array Event, ∃ own', n = k + 1 ∧ stepG Q false g u = .go g' u'' es ∧ Gd own rd own' u u'' es ∧ WGo Q rd Stop k own' g' u'' := by
 cases n with
 | zero => exact .inl (h.2 u (Keeps.refl _ _))
 | succ n =>
  rcases h.2 with h | h
  ·exact .inl (h u (Keeps.refl _ _))
  ·obtain ⟨g', u'', es, own', a, b, c⟩ := h u (Keeps.refl _ _)
   exact .inr ⟨n, g', u'', es, own', rfl, a, b, c⟩
end
section
variable [Glob] {P : Program}
abbrev Sa (P : Program) [Glob] := { s : St // Acc (Ahead P) s }
theorem sa_wf : WellFounded (fun x y : Sa P => Ahead P x.1 y.1) := by
 refine ⟨fun ⟨s, hs⟩ => ?_⟩
 induction hs with
 | intro s h ih => exact Acc.intro _ fun ⟨y, hy⟩ hr => ih y hr
abbrev Wm (P : Program) [Glob] := Nat × (Option (Sa P) × Nat)
abbrev wmR : WellFoundedRelation (Wm P) := Prod.lex Nat.lt_wfRel (Prod.lex ⟨ltO (fun x y : Sa P => Ahead P x.1 y.1), wfO sa_wf⟩ Nat.lt_wfRel)
theorem wm_one {a b : Nat} (h : a < b) (x y : Option (Sa P) × Nat) : wmR.rel (a, x) (b, y) := Prod.Lex.left _ _ h
theorem wm_mid {a : Nat} {x y : Sa P} (h : Ahead P x.1 y.1) (c d : Nat) : wmR.rel (a, (some x, c)) (a, (some y, d)) := Prod.Lex.right _ (Prod.Lex.left _ _ h)
theorem wm_last {a c d : Nat} (x : Option (Sa P)) (h : c < d) : wmR.rel (a, (x, c)) (a, (x, d)) := Prod.Lex.right _ (Prod.Lex.right _ h)
def AtSend (Q : Program) (c : Nat) (v : Value) (own : Nat → Prop) (g : Goroutine) (u : World) : Prop :=
 ∃ g2 z n, stepG Q false g u = .comm g2 #[scase c v z] true .send u #[] ∧ QuitsD Q n 0 (Go.Conc.served g2 undef)
def InMid (P : Program) (Post : Value → Array Obj → Prop) (rd : Nat → Prop) (U : World) (c : Nat) (v : Value) (s : St) (own : Nat → Prop) (g : Goroutine) (u : World) : Prop :=
 ∃ p b bs top cs, g = gor b (bs ++ top :: cs) ∧ Mid P Post rd own p s b bs u ∧
  ∀ x h x' q own' u', Post x h → V q x x' → (∀ c, rd c → u'.heap[c]? = U.heap[c]?) → ∃ n, WGo (co P) rd (AtSend (co P) c v) n own' (gor (top.finish x') cs) u'
def AtMid (P : Program) (Post : Value → Array Obj → Prop) (rd : Nat → Prop) (U : World) (c : Nat) (v : Value) (own : Nat → Prop) (g : Goroutine) (u : World) : Prop := ∃ s, Acc (Ahead P) s ∧ InMid P Post rd U c v s own g u
def WW (P : Program) (Post : Value → Array Obj → Prop) (rd : Nat → Prop) (U : World) (c : Nat) (v : Value) (m : Wm P) (own : Nat → Prop) (g : Goroutine) (u : World) : Prop :=
 (∀ c, own c → ¬rd c) ∧ (∀ c, rd c → u.heap[c]? = U.heap[c]?) ∧
  ((∃ n, m = (2, (none, n)) ∧ WGo (co P) rd (AtMid P Post rd U c v) n own g u) ∨ (∃ s : Sa P, m = (1, (some s, 0)) ∧ InMid P Post rd U c v s.1 own g u) ∨ ∃ n, m = (0, (none, n)) ∧ WGo (co P) rd (AtSend (co P) c v) n own g u)
variable {Post : Value → Array Obj → Prop} {rd own : Nat → Prop} {U : World} {c : Nat} {v : Value} {g : Goroutine} {u : World}
theorem gd_apart {own' : Nat → Prop} {u' : World} {es : Array Event} (k : Gd own rd own' u u' es) (h1 : ∀ c, own c → ¬rd c) (h2 : ∀ c, rd c → u.heap[c]? = U.heap[c]?) (hl : ∀ b, own b ∨ rd b → b < u.heap.size) : (∀ c, own' c → ¬rd c) ∧ ∀ c, rd c → u'.heap[c]? = U.heap[c]? := by
 refine ⟨fun c hc hr => ?_, fun c hr => ?_⟩
 ·rcases k.fresh c hc with h | ⟨h, _⟩
  ·exact h1 c h hr
  ·have := hl c (.inr hr)
   omega
 ·rw [k.other c (hl c (.inr hr)) (fun h => h1 c h hr)]
  exact h2 c hr
theorem mid_steps (hz : Zero P) (hG : Glob.size = P.globals.size) (hc : Codes P) (hcut : ∀ f, Glob.ok f = true → Glob.cut f = false) {s : St} (ha : Acc (Ahead P) s) (h1 : ∀ c, own c → ¬rd c) (h2 : ∀ c, rd c → u.heap[c]? = U.heap[c]?) (hl : ∀ b, own b ∨ rd b → b < u.heap.size) (h : InMid P Post rd U c v s own g u) :
  ∃ m' own' g' u', ∃ es : Array Event, stepG (co P) false g u = .go g' u' es ∧ ((∃ n, m' = (0, (none, n))) ∨ ∃ s' : Sa P, m' = (1, (some s', 0)) ∧ Ahead P s'.1 s) ∧ WW P Post rd U c v m' own' g' u' ∧ Gd own rd own' u u' es := by
 obtain ⟨p, b, bs, top, cs, rfl, hM, hk⟩ := h
 by_cases ov : s.over
 ·obtain ⟨own', x, x', q, u', es, rfl, e1, e2, e3, e4⟩ := hM.ret hc hcut ov false top cs
  obtain ⟨a1, a2⟩ := gd_apart e4 h1 h2 hl
  obtain ⟨n, hn⟩ := hk x _ x' q own' u' e2 e3 a2
  exact ⟨(0, (none, n)), own', _, u', es, e1, .inl ⟨n, rfl⟩, ⟨a1, a2, .inr (.inr ⟨n, rfl, hn⟩)⟩, e4⟩
 ·obtain ⟨own', p', s', b', bs', u', es, e1, e2, e3, e4⟩ := hM.step hz hG hc hcut ov false (top :: cs)
  obtain ⟨a1, a2⟩ := gd_apart e4 h1 h2 hl
  exact ⟨(1, (some ⟨s', ha.inv e2⟩, 0)), own', _, u', es, e1, .inr ⟨⟨s', ha.inv e2⟩, rfl, e2⟩, ⟨a1, a2, .inr (.inl ⟨⟨s', ha.inv e2⟩, rfl, p', b', bs', top, cs, rfl, e3, hk⟩)⟩, e4⟩
theorem works_mid (hz : Zero P) (hG : Glob.size = P.globals.size) (hc : Codes P) (hcut : ∀ f, Glob.ok f = true → Glob.cut f = false) (i : Nat) : Works (co P) wmR.rel rd ⟨i, c, v, WW P Post rd U c v⟩ where
 run m own g u h := by
  obtain ⟨_, _, ⟨n, _, h⟩ | ⟨s, _, p, b, bs, top, cs, rfl, _⟩ | ⟨n, _, h⟩⟩ := h
  ·exact h.run
  ·rfl
  ·exact h.run
 keep m own g u u' h k := by
  obtain ⟨h1, h2, h3⟩ := h
  refine ⟨h1, fun c hr => (k.same c (.inr hr)).trans (h2 c hr), ?_⟩
  rcases h3 with ⟨n, e, h⟩ | ⟨s, e, p, b, bs, top, cs, e2, hM, hk⟩ | ⟨n, e, h⟩
  ·exact .inl ⟨n, e, h.keep k⟩
  ·exact .inr (.inl ⟨s, e, p, b, bs, top, cs, e2, hM.keep k, hk⟩)
  ·exact .inr (.inr ⟨n, e, h.keep k⟩)
 step m own g u h hl := by
  obtain ⟨h1, h2, h3⟩ := h
  rcases h3 with ⟨n, rfl, h⟩ | ⟨⟨s, hs⟩, rfl, h⟩ | ⟨n, rfl, h⟩
  ·rcases h.now with ⟨s, hs, hm⟩ | ⟨k, g', u'', es, own', rfl, e1, e2, e3⟩
   ·obtain ⟨m', own', g', u', es, e1, e2, e3, e4⟩ := mid_steps hz hG hc hcut hs h1 h2 hl hm
    refine .inl ⟨m', own', g', u', es, e1, ?_, e3, e4⟩
    rcases e2 with ⟨n, rfl⟩ | ⟨s', rfl, _⟩
    ·exact wm_one (by omega) _ _
    ·exact wm_one (by omega) _ _
   ·obtain ⟨a1, a2⟩ := gd_apart e2 h1 h2 hl
    exact .inl ⟨(2, (none, k)), own', g', u'', es, e1, wm_last _ (by omega), ⟨a1, a2, .inl ⟨k, rfl, e3⟩⟩, e2⟩
  ·obtain ⟨m', own', g', u', es, e1, e2, e3, e4⟩ := mid_steps hz hG hc hcut hs h1 h2 hl h
   refine .inl ⟨m', own', g', u', es, e1, ?_, e3, e4⟩
   rcases e2 with ⟨n, rfl⟩ | ⟨s', rfl, h⟩
   ·exact wm_one (by omega) _ _
   ·exact wm_mid h _ _
  ·rcases h.now with h | ⟨k, g', u'', es, own', rfl, e1, e2, e3⟩
   ·exact .inr h
   ·obtain ⟨a1, a2⟩ := gd_apart e2 h1 h2 hl
    exact .inl ⟨(0, (none, k)), own', g', u'', es, e1, wm_last _ (by omega), ⟨a1, a2, .inr (.inr ⟨k, rfl, e3⟩)⟩, e2⟩
end
end Go.Proofs.Ytpeoabopeihadaa.Sim
/- Laws of a worker's walk; the orders that a region can draw; a contract is a lone run that ends. No program of the project in this text. -/
namespace Go.Proofs.Ytpeoabopeihadaa.Sim
open Go Go.Conc
open Go.ConcN (sumTo upd sumTo_upd upd_ne upd_same)
section
variable {Q : Program} {rd own : Nat → Prop} {Stop : (Nat → Prop) → Goroutine → World → Prop} {n : Nat} {g g' : Goroutine} {u : World}
theorem WGo.ctl (hs : ∀ u', stepG Q false g u' = .go g' u' #[]) (hr : g.status = .running) (h : WGo Q rd Stop n own g' u) : WGo Q rd Stop (n + 1) own g u :=
 WGo.next hr fun u' k => ⟨g', u', #[], own, hs u', Gd.quiet _ _ _, h.keep k⟩
theorem Gd.draw (own rd : Nat → Prop) (u : World) (d : Nat) : Gd own rd own u { u with drawn := d } #[] := ⟨fun _ h => h, fun _ h => .inl h, Nat.le_refl _, fun _ _ _ => rfl, by simp, rfl, rfl, rfl⟩
theorem WGo.drawn {f : FuncId} {id : Nat} {F : Nat → Goroutine} (hs : ∀ u', stepG Q false g u' = .go (F (u'.tape u'.drawn (.order f id))) { u' with drawn := u'.drawn + 1 } #[]) (hr : g.status = .running) (h : ∀ t, WGo Q rd Stop n own (F t) u) : WGo Q rd Stop (n + 1) own g u :=
 WGo.next hr fun u' k => ⟨_, _, #[], own, hs u', Gd.draw _ _ _ _, (h _).keep (k.trans ⟨Nat.le_refl _, fun _ _ => rfl, rfl, rfl, rfl⟩)⟩
theorem Gd.reads {own rd : Nat → Prop} {u : World} {es : Array Event} (h : ∀ e ∈ es, EvR own rd e) : Gd own rd own u u es := ⟨fun _ h => h, fun _ h => .inl h, Nat.le_refl _, fun _ _ _ => rfl, h, rfl, rfl, rfl⟩
section
variable {b : Frame} {a : Go.Act} {k : List Item} {cs : List Frame} {ops : Array Oper} {i : Nat} {rest : List Nat} {o : Oper}
theorem WGo.value {v : Value} (ho : ops[i]? = some o) (hw : Region.wanted o (yielded ops a.tmps) = true) (hk : b.kind ≠ .early)
  (hr : ∀ u', Keeps (fun b => own b ∨ rd b) u u' → (execOp a.eval o).run Q u' = .ok (.value v) u' ∧ ∀ e ∈ (execOp a.eval o).events Q u' #[], EvR own rd e)
  (h : WGo Q rd Stop n own (G (b.at (a.put o.dst v) (.inRegion ops rest :: k)) cs) u) : WGo Q rd Stop (n + 1) own (G (b.at a (.inRegion ops (i :: rest) :: k)) cs) u :=
 WGo.next rfl fun u' kk => ⟨_, u', _, own, stepG_value ho hw hk (hr u' kk).1, Gd.reads fun e he => (hr u' kk).2 e (mem_listed he), h.keep kk⟩
theorem WGo.enter {f : FuncId} {args : Array Value} (ho : ops[i]? = some o) (hw : Region.wanted o (yielded ops a.tmps) = true) (hk : b.kind ≠ .early)
  (hr : ∀ u', Keeps (fun b => own b ∨ rd b) u u' → (execOp a.eval o).run Q u' = .ok (.enter f args) u' ∧ ∀ e ∈ (execOp a.eval o).events Q u' #[], EvR own rd e)
  (h : WGo Q rd Stop n own (G (Frame.enter Q f args .normal) (b.at a (.inRegion ops (i :: rest) :: k) :: cs)) u) : WGo Q rd Stop (n + 1) own (G (b.at a (.inRegion ops (i :: rest) :: k)) cs) u :=
 WGo.next rfl fun u' kk => ⟨_, u', _, own, stepG_enter ho hw hk (hr u' kk).1, Gd.reads fun e he => (hr u' kk).2 e (mem_listed he), h.keep kk⟩
end
theorem evR_ld {a : Addr} (h : own a.block ∨ rd a.block) : EvR own rd ⟨.cell a, false, false⟩ := .inl ⟨a, false, rfl, h.imp id fun h => ⟨rfl, h⟩⟩
end
def orders (md : Region.Mode) (ops : Array Oper) : Nat → Array Bool → List (List Nat)
 | 0, _ => [[]]
 | n + 1, l => match Region.ready md ops l with
  | [] => [[]]
  | x :: xs => (x :: xs).flatMap fun i => (orders md ops n (l.setIfInBounds i true)).map (i :: ·)
theorem orders_all (md : Region.Mode) (ops : Array Oper) : ∀ (n t : Nat) (l : Array Bool), Region.linearise.go md ops n t l [] ∈ orders md ops n l := by
 intro n
 induction n with
 | zero => intro t l; simp [Region.linearise.go, orders]
 | succ n ih =>
  intro t l
  simp only [Region.linearise.go]
  change (match (Region.ready md ops l)[t % (Region.ready md ops l).length]? with
   | some i => Region.linearise.go md ops n (t / (Region.ready md ops l).length) (l.setIfInBounds i true) [i]
   | none => [].reverse) ∈ orders md ops (n + 1) l
  cases hr : Region.ready md ops l with
  | nil => simp [orders, hr]
  | cons x xs =>
   have hlt : t % (x :: xs).length < (x :: xs).length := Nat.mod_lt _ (by simp)
   rw [List.getElem?_eq_getElem hlt]
   simp only [orders, hr]
   rw [linearise_go_acc, List.reverse_singleton, List.singleton_append]
   exact List.mem_flatMap.2 ⟨_, List.getElem_mem hlt, List.mem_map.2 ⟨_, ih _ _, rfl⟩⟩
theorem schedule_all (mixed : Bool) (ops : Array Oper) (hd : Region.departs ops = false) (t : Nat) : Region.schedule mixed ops t ∈ orders .any ops ops.size (Array.replicate ops.size false) := by
 simp only [Region.schedule, hd, Bool.not_false, Bool.or_true, if_true, Region.linearise]
 exact orders_all _ _ _ _ _
section
variable {P : Program}
theorem allEnd_of {f : FuncId} {args : Array Value} {w : World} {Post : Value → Array Obj → Prop} (h : ∀ t d, Calls P f args (wt w t d) (fun e w' => ∃ v, e = .returned v ∧ Post v w'.heap)) : AllEnd P Post (Frame.enter P f args .normal) [] w := by
 intro t d
 obtain ⟨e, w', fr, ⟨v, rfl, hp⟩, ⟨n, hn⟩, _, hl⟩ := h t d [floor]
 exact ⟨n, fr, v, w', hn, hl, hp⟩
end
end Go.Proofs.Ytpeoabopeihadaa.Sim
