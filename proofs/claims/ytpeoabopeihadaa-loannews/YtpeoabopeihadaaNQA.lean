/- Two runs of one computation that part in the numbers of their memory's blocks alone: values, memory, computations and their runs held against one another. No program in this text. -/
import Derived.Calls
import Derived.Laws.Sem
set_option linter.unusedVariables false
set_option linter.unusedSimpArgs false
set_option linter.unusedSectionVars false
set_option maxHeartbeats 3200000
namespace Go.Proofs.Ytpeoabopeihadaa.Sim
open Go
abbrev Ren := Nat → Option Nat
def Le (p q : Ren) : Prop := ∀ b c, p b = some c → q b = some c
theorem Le.refl (p : Ren) : Le p p := fun _ _ h => h
theorem Le.trans {p q r : Ren} (h : Le p q) (k : Le q r) : Le p r := fun b c x => k b c (h b c x)
def ext (p : Ren) (b c : Nat) : Ren := fun x => if x = b then some c else p x
theorem ext_le {p : Ren} {b c : Nat} (h : p b = none) : Le p (ext p b c) := fun x y e => by
 unfold ext
 split
 ·next q => rw [q, h] at e; cases e
 ·exact e
theorem ext_at (p : Ren) (b c : Nat) : ext p b c b = some c := if_pos rfl
structure GlobS where
 size : Nat
 ok : FuncId → Bool
 glob : Nat → Bool
 funcs : Array Func
 cut : FuncId → Bool
 ext : FuncId → Bool
 inv : String → Bool
 eqt : TypeId → Bool
 dead : Nat → Bool
 iok : TypeId → Bool
abbrev Glob := Inhabited GlobS
abbrev Glob.size [Glob] : Nat := (default : GlobS).size
abbrev Glob.ok [Glob] : FuncId → Bool := (default : GlobS).ok
abbrev Glob.glob [Glob] : Nat → Bool := (default : GlobS).glob
abbrev Glob.funcs [Glob] : Array Func := (default : GlobS).funcs
abbrev Glob.cut [Glob] : FuncId → Bool := (default : GlobS).cut
abbrev Glob.ext [Glob] : FuncId → Bool := (default : GlobS).ext
abbrev Glob.inv [Glob] : String → Bool := (default : GlobS).inv
abbrev Glob.eqt [Glob] : TypeId → Bool := (default : GlobS).eqt
abbrev Glob.dead [Glob] : Nat → Bool := (default : GlobS).dead
abbrev Glob.iok [Glob] : TypeId → Bool := (default : GlobS).iok
def co [Glob] (P : Program) : Program := { P with funcs := Glob.funcs }
section
variable [Glob]
def AR (p : Ren) (a a' : Addr) : Prop := p a.block = some a'.block ∧ a.off = a'.off ∧ a.spot = a'.spot ∧ (a.block < Glob.size ∨ a'.block < Glob.size → a'.block = a.block)
theorem AR.le {p q : Ren} {a a' : Addr} (h : AR p a a') (l : Le p q) : AR q a a' := ⟨l _ _ h.1, h.2⟩
def OAR (p : Ren) : Option Addr → Option Addr → Prop
 | none, none => True
 | some a, some a' => AR p a a'
 | _, _ => False
theorem OAR.le {p q : Ren} {a a' : Option Addr} (h : OAR p a a') (l : Le p q) : OAR q a a' := by
 cases a <;> cases a' <;> simp only [OAR] at *
 exact AR.le h l
def LR (R : Value → Value → Prop) : List Value → List Value → Prop
 | [], [] => True
 | x :: xs, y :: ys => R x y ∧ LR R xs ys
 | _, _ => False
theorem LR.mono {R S : Value → Value → Prop} (h : ∀ x y, R x y → S x y) : ∀ {xs ys : List Value}, LR R xs ys → LR S xs ys
 | [], [], _ => trivial
 | _ :: _, _ :: _, k => ⟨h _ _ k.1, LR.mono h k.2⟩
theorem LR.len {R : Value → Value → Prop} : ∀ {xs ys : List Value}, LR R xs ys → xs.length = ys.length
 | [], [], _ => rfl
 | _ :: _, _ :: _, k => by simp [LR.len k.2]
theorem LR.at {R : Value → Value → Prop} : ∀ {xs ys : List Value} {i : Nat} {x : Value}, LR R xs ys → xs[i]? = some x → ∃ y, ys[i]? = some y ∧ R x y
 | x :: _, y :: _, 0, z, k, h => ⟨y, rfl, by simp at h; rw [← h]; exact k.1⟩
 | _ :: xs, _ :: ys, i + 1, z, k, h => by
  have := LR.at (xs := xs) (ys := ys) (i := i) (x := z) k.2 (by simpa using h)
  simpa using this
theorem LR.set {R : Value → Value → Prop} : ∀ {xs ys : List Value} (i : Nat) {x y : Value}, LR R xs ys → R x y → LR R (xs.set i x) (ys.set i y)
 | [], [], _, _, _, _, _ => trivial
 | _ :: _, _ :: _, 0, _, _, k, h => ⟨h, k.2⟩
 | _ :: _, _ :: _, i + 1, _, _, k, h => ⟨k.1, LR.set i k.2 h⟩
theorem LR.append {R : Value → Value → Prop} : ∀ {xs ys as bs : List Value}, LR R xs ys → LR R as bs → LR R (xs ++ as) (ys ++ bs)
 | [], [], _, _, _, h => h
 | _ :: _, _ :: _, _, _, k, h => ⟨k.1, LR.append k.2 h⟩
def ary (f : FuncId) : Nat := ((Glob.funcs[f]?).map (·.params.size)).getD 0
def okFn : Fn → Prop
 | .func f => (Glob.ok f = true ∧ Glob.cut f = false) ∨ Glob.ext f = true
 | _ => False
def VR (p : Ren) : Nat → Value → Value → Prop
 | _ + 1, .bool a, .bool b => a = b
 | _ + 1, .int k a, .int l b => k = l ∧ a = b
 | _ + 1, .string a, .string b => a = b
 | _ + 1, .pointer a, .pointer b => OAR p a b
 | _ + 1, .slice a l c, .slice b m d => OAR p a b ∧ l = m ∧ c = d
 | _ + 1, .map none, .map none => True
 | _ + 1, .chan none, .chan none => True
 | n + 1, .func f a c, .func g b d => f = g ∧ LR (VR p n) a.toList b.toList ∧ LR (VR p n) c.toList d.toList ∧ okFn f
 | _ + 1, .nilFunc, .nilFunc => True
 | n + 1, .iface t a, .iface u b => t = u ∧ VR p n a b ∧ Glob.iok t = true
 | _ + 1, .nilIface, .nilIface => True
 | n + 1, .agg a, .agg b => LR (VR p n) a.toList b.toList
 | _ + 1, .tuple _, .agg _ => False
 | _ + 1, .tuple _, .bool _ => False
 | n + 1, .tuple a, u => a.toList = [] ∨ ∃ b, u = .tuple b ∧ LR (VR p n) a.toList b.toList
 | _, _, _ => False
theorem VR.le {p q : Ren} (l : Le p q) : ∀ {n : Nat} {v u : Value}, VR p n v u → VR q n v u := by
 intro n
 induction n with
 | zero => intro v u h; simp [VR] at h
 | succ n ih =>
  intro v u h
  cases v <;> cases u <;> (try simp only [VR] at h ⊢) <;> first
   | exact h
   | exact OAR.le h l
   | exact ⟨OAR.le h.1 l, h.2⟩
   | exact ⟨h.1, LR.mono (fun _ _ => ih) h.2.1, LR.mono (fun _ _ => ih) h.2.2.1, h.2.2.2⟩
   | exact ⟨h.1, ih h.2.1, h.2.2⟩
   | exact LR.mono (fun _ _ => ih) h
   | exact h.imp id (fun ⟨b, e, k⟩ => ⟨b, e, LR.mono (fun _ _ => ih) k⟩)
   | (rename_i a b; cases a <;> cases b <;> simp_all [VR])
theorem VR.succ {p : Ren} : ∀ {n : Nat} {v u : Value}, VR p n v u → VR p (n + 1) v u := by
 intro n
 induction n with
 | zero => intro v u h; simp [VR] at h
 | succ n ih =>
  intro v u h
  cases v <;> cases u <;> (try simp only [VR] at h ⊢) <;> first
   | exact h
   | exact ⟨h.1, LR.mono (fun _ _ => ih) h.2.1, LR.mono (fun _ _ => ih) h.2.2.1, h.2.2.2⟩
   | exact ⟨h.1, ih h.2.1, h.2.2⟩
   | exact LR.mono (fun _ _ => ih) h
   | exact h.imp id (fun ⟨b, e, k⟩ => ⟨b, e, LR.mono (fun _ _ => ih) k⟩)
   | (rename_i a b; cases a <;> cases b <;> simp_all [VR])
theorem VR.up {p : Ren} {n m : Nat} (h : n ≤ m) {v u : Value} (k : VR p n v u) : VR p m v u := by
 induction h with
 | refl => exact k
 | step _ ih => exact VR.succ ih
def V (p : Ren) (v u : Value) : Prop := ∃ n, VR p n v u
theorem V.le {p q : Ren} (l : Le p q) {v u : Value} (h : V p v u) : V q v u := by
 obtain ⟨n, h⟩ := h
 exact ⟨n, h.le l⟩
theorem LR.unif {p : Ren} : ∀ {xs ys : List Value}, LR (V p) xs ys → ∃ n, LR (VR p n) xs ys
 | [], [], _ => ⟨0, trivial⟩
 | _ :: _, _ :: _, ⟨⟨a, ha⟩, k⟩ => by
  obtain ⟨b, hb⟩ := LR.unif k
  exact ⟨max a b, ha.up (Nat.le_max_left _ _), LR.mono (fun _ _ h => VR.up (Nat.le_max_right a b) h) hb⟩
theorem LR.v {p : Ren} {n : Nat} {xs ys : List Value} (h : LR (VR p n) xs ys) : LR (V p) xs ys := LR.mono (fun _ _ h => ⟨n, h⟩) h
theorem V.int (p : Ren) (k : IntKind) (a : Int) : V p (.int k a) (.int k a) := ⟨1, rfl, rfl⟩
theorem V.bool (p : Ren) (a : Bool) : V p (.bool a) (.bool a) := ⟨1, rfl⟩
theorem V.agg {p : Ren} {a b : Array Value} (h : LR (V p) a.toList b.toList) : V p (.agg a) (.agg b) := by
 obtain ⟨n, h⟩ := LR.unif h
 exact ⟨n + 1, h⟩
theorem V.tuple {p : Ren} {a b : Array Value} (h : LR (V p) a.toList b.toList) : V p (.tuple a) (.tuple b) := by
 obtain ⟨n, h⟩ := LR.unif h
 exact ⟨n + 1, .inr ⟨b, rfl, h⟩⟩
theorem V.void (p : Ren) {u : Value} (h : ∀ b, u ≠ .agg b) (k : ∀ b, u ≠ .bool b) : V p (.tuple #[]) u := by
 refine ⟨1, ?_⟩
 cases u <;> first
  | exact .inl rfl
  | exact absurd rfl (h _)
  | exact absurd rfl (k _)
theorem V.func {p : Ren} {f : Fn} (o : okFn f) {a b c d : Array Value} (h : LR (V p) a.toList b.toList) (k : LR (V p) c.toList d.toList) : V p (.func f a c) (.func f b d) := by
 obtain ⟨n, h⟩ := LR.unif h
 obtain ⟨m, k⟩ := LR.unif k
 exact ⟨max n m + 1, rfl, LR.mono (fun _ _ h => VR.up (Nat.le_max_left n m) h) h, LR.mono (fun _ _ h => VR.up (Nat.le_max_right n m) h) k, o⟩
theorem V.pointer {p : Ren} {a b : Option Addr} (h : OAR p a b) : V p (.pointer a) (.pointer b) := ⟨1, h⟩
theorem V.slice {p : Ren} {a b : Option Addr} {l c : Nat} (h : OAR p a b) : V p (.slice a l c) (.slice b l c) := ⟨1, h, rfl, rfl⟩
end
end Go.Proofs.Ytpeoabopeihadaa.Sim
/- Worlds and computations that part in the numbers of blocks alone, and that a run keeps that. No program in this text. -/
namespace Go.Proofs.Ytpeoabopeihadaa.Sim
open Go
section
variable [Glob]
def OR (p : Ren) (o o' : Obj) : Prop := (∃ xs t fz ys gz, o = .cells xs t fz ∧ o' = .cells ys t gz ∧ LR (V p) xs.toList ys.toList ∧ (gz = (0, 0) ∨ gz = fz ∨ (fz.1 = 0 ∧ xs.size ≤ fz.2))) ∨ ∃ a a' l, o = .number a l ∧ o' = .number a' l ∧ AR p a a'
theorem OR.le {p q : Ren} {o o' : Obj} (h : OR p o o') (l : Le p q) : OR q o o' := by
 rcases h with ⟨xs, t, fz, ys, gz, h1, h2, h3, h4⟩ | ⟨a, a', x, h1, h2, h3⟩
 ·exact .inl ⟨xs, t, fz, ys, gz, h1, h2, LR.mono (fun _ _ k => k.le l) h3, h4⟩
 ·exact .inr ⟨a, a', x, h1, h2, h3.le l⟩
structure WR (p : Ren) (w u : World) : Prop where
 blk : ∀ b c, p b = some c → ∃ o o', w.heap[b]? = some o ∧ u.heap[c]? = some o' ∧ OR p o o'
 inj : ∀ b d c, p b = some c → p d = some c → b = d
 big : Glob.size ≤ w.heap.size ∧ Glob.size ≤ u.heap.size
 dead : ∀ g, Glob.dead g = true → p g = none ∧ ∃ t fz, w.heap[g]? = some (.cells #[] t fz)
theorem WR.lt {p : Ren} {w u : World} (h : WR p w u) {b c : Nat} (e : p b = some c) : b < w.heap.size ∧ c < u.heap.size := by
 obtain ⟨_, _, h1, h2, _⟩ := h.blk b c e
 exact ⟨(Array.getElem?_eq_some_iff.1 h1).1, (Array.getElem?_eq_some_iff.1 h2).1⟩
theorem WR.fresh {p : Ren} {w u : World} (h : WR p w u) : p w.heap.size = none ∧ ∀ b, p b ≠ some u.heap.size := by
 constructor
 ·cases e : p w.heap.size with
  | none => rfl
  | some c => have := (h.lt e).1; omega
 ·intro b e
  have := (h.lt e).2
  omega
theorem cell_row {w : World} {a : Addr} {v : Value} (e : w.cell? a = some v) : ∃ xs t fz, w.heap[a.block]? = some (.cells xs t fz) ∧ a.spot = none ∧ xs[a.off]? = some v := by
 unfold World.cell? at e
 split at e
 ·next xs t fz h =>
  cases hs : a.spot with
  | none => simp [hs] at e; exact ⟨xs, t, fz, h, rfl, e⟩
  | some s => simp [hs] at e
 ·cases e
theorem WR.row {p : Ren} {w u : World} (h : WR p w u) {b c : Nat} (e : p b = some c) {xs : Array Value} {t : TypeId} {fz : Nat × Nat} (hb : w.heap[b]? = some (.cells xs t fz)) : ∃ ys gz, u.heap[c]? = some (.cells ys t gz) ∧ LR (V p) xs.toList ys.toList ∧ (gz = (0, 0) ∨ gz = fz ∨ (fz.1 = 0 ∧ xs.size ≤ fz.2)) := by
 obtain ⟨o, o', h1, h2, h3⟩ := h.blk b c e
 rw [hb] at h1
 cases h1
 rcases h3 with ⟨_, _, _, ys, gz, h4, h5, h6, h7⟩ | ⟨_, _, _, h4, _⟩
 ·cases h4
  exact ⟨ys, gz, by rw [h2, h5], h6, h7⟩
 ·cases h4
theorem WR.cell {p : Ren} {w u : World} (h : WR p w u) {a a' : Addr} (ha : AR p a a') {v : Value} (e : w.cell? a = some v) : ∃ v', u.cell? a' = some v' ∧ V p v v' := by
 obtain ⟨xs, t, fz, h1, h2, h3⟩ := cell_row e
 obtain ⟨ys, gz, h4, h5, h6⟩ := h.row ha.1 h1
 rw [← Array.getElem?_toList] at h3
 obtain ⟨y, hy, hv⟩ := LR.at h5 h3
 refine ⟨y, ?_, hv⟩
 have hs : a'.spot = none := by rw [← ha.2.2.1]; exact h2
 simp only [World.cell?, h4, hs, Option.isSome_none, Bool.false_eq_true, if_false]
 rw [← Array.getElem?_toList, ← ha.2.1]
 exact hy
def Fz (w : World) (b : Nat) : Prop := ∃ xs t hi, w.heap[b]? = some (.cells xs t (0, hi)) ∧ xs.size ≤ hi
structure Eff (p q : Ren) (w w1 u u1 : World) : Prop where
 le : Le p q
 wr : WR q w1 u1
 size : u.heap.size ≤ u1.heap.size
 lsize : w.heap.size ≤ w1.heap.size
 fresh : ∀ b c, q b = some c → p b = some c ∨ (w.heap.size ≤ b ∧ u.heap.size ≤ c)
 other : ∀ c, c < u.heap.size → (∀ b, p b ≠ some c) → u1.heap[c]? = u.heap[c]?
 still : ∀ b c, p b = some c → Fz w b → u1.heap[c]? = u.heap[c]? ∧ w1.heap[b]? = w.heap[b]?
 os : u1.os = u.os
 tape : u1.tape = u.tape
 out : u1.output = u.output
 los : w1.os = w.os
 ltape : w1.tape = w.tape
 lout : w1.output = w.output
 more : w.drawn ≤ w1.drawn
 drawn : u1.drawn = u.drawn + (w1.drawn - w.drawn)
theorem Eff.refl {p : Ren} {w u : World} (h : WR p w u) : Eff p p w w u u :=
 ⟨Le.refl _, h, Nat.le_refl _, Nat.le_refl _, fun _ _ e => .inl e, fun _ _ _ => rfl, fun _ _ _ _ => ⟨rfl, rfl⟩, rfl, rfl, rfl, rfl, rfl, rfl, Nat.le_refl _, by omega⟩
theorem Eff.trans {p q r : Ren} {w w1 w2 u u1 u2 : World} (h : Eff p q w w1 u u1) (k : Eff q r w1 w2 u1 u2) : Eff p r w w2 u u2 where
 le := h.le.trans k.le
 wr := k.wr
 size := Nat.le_trans h.size k.size
 lsize := Nat.le_trans h.lsize k.lsize
 fresh b c e := by
  rcases k.fresh b c e with e | ⟨e1, e2⟩
  ·exact h.fresh b c e
  ·exact .inr ⟨Nat.le_trans h.lsize e1, Nat.le_trans h.size e2⟩
 other c hc hn := by
  rw [k.other c (Nat.lt_of_lt_of_le hc h.size), h.other c hc hn]
  intro b e
  rcases h.fresh b c e with e | ⟨_, e⟩
  ·exact hn b e
  ·omega
 still b c e f := by
  obtain ⟨h1, h2⟩ := h.still b c e f
  have f1 : Fz w1 b := by
   obtain ⟨xs, t, hi, e1, e2⟩ := f
   exact ⟨xs, t, hi, h2.trans e1, e2⟩
  obtain ⟨k1, k2⟩ := k.still b c (h.le b c e) f1
  exact ⟨k1.trans h1, k2.trans h2⟩
 os := k.os.trans h.os
 tape := k.tape.trans h.tape
 out := k.out.trans h.out
 los := k.los.trans h.los
 ltape := k.ltape.trans h.ltape
 lout := k.lout.trans h.lout
 more := Nat.le_trans h.more k.more
 drawn := by
  have := h.drawn
  have := k.drawn
  have := h.more
  have := k.more
  omega
def MarkOk : Mark → Prop
 | .noRoom => True
 | .extern _ => True
 | _ => False
def ER (p : Ren) (F : Nat → Prop) (e f : Event) : Prop := (∃ a a', e = ⟨.cell a, e.write, false⟩ ∧ f = ⟨.cell a', e.write, false⟩ ∧ AR p a a' ∧ (e.write = true → ¬F a.block)) ∨ ((∃ m, MarkOk m ∧ e = ⟨.mark m, false, true⟩) ∧ f = e) ∨ ∃ b c, e = ⟨.obj b, false, false⟩ ∧ f = ⟨.obj c, false, false⟩ ∧ p b = some c
def EL (p : Ren) (F : Nat → Prop) : List Event → List Event → Prop
 | [], [] => True
 | x :: xs, y :: ys => ER p F x y ∧ EL p F xs ys
 | _, _ => False
theorem ER.less {p : Ren} {F G : Nat → Prop} (l : ∀ b, G b → F b) {e f : Event} (h : ER p F e f) : ER p G e f := by
 rcases h with ⟨a, a', h1, h2, h3, h4⟩ | h | h
 ·exact .inl ⟨a, a', h1, h2, h3, fun x y => h4 x (l _ y)⟩
 ·exact .inr (.inl h)
 ·exact .inr (.inr h)
theorem EL.less {p : Ren} {F G : Nat → Prop} (l : ∀ b, G b → F b) : ∀ {xs ys : List Event}, EL p F xs ys → EL p G xs ys
 | [], [], _ => trivial
 | _ :: _, _ :: _, h => ⟨h.1.less l, EL.less l h.2⟩
def Fp (p : Ren) (w : World) (b : Nat) : Prop := Fz w b ∧ ∃ c, p b = some c
theorem Eff.fp {p q : Ren} {w w1 u u1 : World} (h : Eff p q w w1 u u1) (b : Nat) (k : Fp p w b) : Fp q w1 b := by
 obtain ⟨f, c, e⟩ := k
 obtain ⟨xs, t, hi, e1, e2⟩ := f
 exact ⟨⟨xs, t, hi, (h.still b c e ⟨xs, t, hi, e1, e2⟩).2.trans e1, e2⟩, c, h.le b c e⟩
theorem EL.append {p : Ren} {F : Nat → Prop} : ∀ {xs ys zs us : List Event}, EL p F xs ys → EL p F zs us → EL p F (xs ++ zs) (ys ++ us)
 | [], [], _, _, _, h => h
 | _ :: _, _ :: _, _, _, k, h => ⟨k.1, EL.append k.2 h⟩
def OneV (v : Value) : Prop := (∀ c, v ≠ .agg c) ∧ ∀ c, v ≠ .tuple c
def NR (p : Ren) (o o' : Obj) : Prop := (∃ xs t ys, o = .cells xs t (0, 0) ∧ o' = .cells ys t (0, 0) ∧ LR (V p) xs.toList ys.toList) ∨ ∃ a a' l, o = .number a l ∧ o' = .number a' l ∧ AR p a a'
theorem NR.or {p : Ren} {o o' : Obj} (h : NR p o o') : OR p o o' := by
 rcases h with ⟨xs, t, ys, h1, h2, h3⟩ | h
 ·exact .inl ⟨xs, t, (0, 0), ys, (0, 0), h1, h2, h3, .inl rfl⟩
 ·exact .inr h
def okHalt : Halt → Prop
 | .panic _ => True
 | .stuck _ => True
 | .unsupported (.initOrder _) => False
 | .unsupported _ => True
 | _ => False
def Dead {α : Type} (P : Program) : Sem α → Prop
 | .halt h => okHalt h
 | .program k => Dead P (k P)
 | .choose _ k => ∀ n, Dead P (k n)
 | .mark _ k => Dead P k
 | .frozen _ k => ∀ b, Dead P (k b)
 | .shape _ k => ∀ x, Dead P (k x)
 | .new _ k => ∀ b, Dead P (k b)
 | .sys _ k => ∀ r, Dead P (k r)
 | _ => False
theorem Dead.bind {α β : Type} {P : Program} {f : α → Sem β} : ∀ {s : Sem α}, Dead P s → Dead P (s.bind f) := by
 intro s
 induction s with
 | program k ih => intro h; simp only [Dead, Sem.bind] at h ⊢; exact ih P h
 | choose q k ih => intro h; simp only [Dead, Sem.bind] at h ⊢; exact fun n => ih n (h n)
 | mark m k ih => intro h; simp only [Dead, Sem.bind] at h ⊢; exact ih h
 | frozen a k ih => intro h; simp only [Dead, Sem.bind] at h ⊢; exact fun n => ih n (h n)
 | shape r k ih => intro h; simp only [Dead, Sem.bind] at h ⊢; exact fun n => ih n (h n)
 | new o k ih => intro h; simp only [Dead, Sem.bind] at h ⊢; exact fun n => ih n (h n)
 | sys c k ih => intro h; simp only [Dead, Sem.bind] at h ⊢; exact fun n => ih n (h n)
 | halt x => intro h; exact h
 | _ => intro h; simp [Dead] at h
theorem Dead.run {α : Type} {P : Program} : ∀ {s : Sem α}, Dead P s → ∀ {w w1 : World} {es es1 : Array Event} {a : α}, s.runT P w es ≠ (.ok a w1, es1) := by
 intro s
 induction s with
 | program k ih => intro h w w1 es es1 a; simp only [Dead, Sem.runT] at h ⊢; exact ih P h
 | choose q k ih =>
  intro h w w1 es es1 a
  simp only [Dead, Sem.runT] at h ⊢
  split
  ·exact ih _ (h _)
  ·exact ih _ (h _)
 | mark m k ih => intro h w w1 es es1 a; simp only [Dead, Sem.runT] at h ⊢; exact ih h
 | frozen a k ih => intro h w w1 es es1 a; simp only [Dead, Sem.runT] at h ⊢; exact ih _ (h _)
 | shape r k ih => intro h w w1 es es1 a; simp only [Dead, Sem.runT] at h ⊢; exact ih _ (h _)
 | new o k ih => intro h w w1 es es1 a; simp only [Dead, Sem.runT] at h ⊢; exact ih _ (h _)
 | sys c k ih => intro h w w1 es es1 a; simp only [Dead, Sem.runT] at h ⊢; exact ih _ (h _)
 | halt x => intro _ w w1 es es1 a; simp [Sem.runT]
 | _ => intro h; simp [Dead] at h
def SR {α β : Type} (P : Program) (Q : Ren → α → β → Prop) : Ren → Sem α → Sem β → Prop
 | p, .pure a, .pure b => Q p a b
 | p, .load .plain a k, .load .plain a' k' => AR p a a' ∧ ∀ v v', V p v v' → SR P Q p (k v) (k' v')
 | p, .store .plain a v k, .store .plain a' v' k' => AR p a a' ∧ V p v v' ∧ SR P Q p k k'
 | p, .new o k, .new o' k' => NR p o o' ∧ ∀ b c, Glob.size ≤ b ∧ Glob.size ≤ c → p b = none → (∀ d, p d ≠ some c) → SR P Q (ext p b c) (k b) (k' c)
 | p, .choose q k, .choose q' k' => q = q' ∧ ∀ n, SR P Q p (k n) (k' n)
 | p, .program k, .program k' => (SR P Q p (k P) (k' P) ∧ k' (co P) = k' P) ∨ Dead P (k P)
 | _, .program k, _ => Dead P (k P)
 | p, .mark m k, .mark m' k' => m = m' ∧ MarkOk m ∧ SR P Q p k k'
 | p, .shape r k, .shape r' k' => p r = some r' ∧ ∀ x, SR P Q p (k x) (k' x)
 | p, .getObj r k, .getObj r' k' => p r = some r' ∧ ∀ a a' l, AR p a a' → SR P Q p (k (.number a l)) (k' (.number a' l))
 | _, .halt h, _ => okHalt h
 | _, .frozen _ k, _ => ∀ b, Dead P (k b)
 | _, .sys _ k, _ => ∀ b, Dead P (k b)
 | _, _, _ => False
theorem dead_program {α β : Type} {P : Program} {Q : Ren → α → β → Prop} {p : Ren} {k : Program → Sem α} (d : Dead P (k P)) {s' : Sem β} : SR P Q p (.program k) s' := by
 cases s' <;> first
  | exact .inr d
  | exact d
theorem SR.post {α β : Type} {P : Program} {Q R : Ren → α → β → Prop} : ∀ {s : Sem α} {s' : Sem β} {p : Ren}, SR P Q p s s' → (∀ q a b, Le p q → Q q a b → R q a b) → SR P R p s s' := by
 intro s
 induction s with
 | pure a => intro s' p h f; cases s' <;> simp only [SR] at h ⊢; exact f _ _ _ (Le.refl _) h
 | load m a k ih =>
  intro s' p h f
  cases m <;> cases s' <;> try simp only [SR] at h
  rename_i m' a' k'
  cases m' <;> simp only [SR] at h ⊢
  exact ⟨h.1, fun v v' hv => ih v (h.2 v v' hv) f⟩
 | store m a v k ih =>
  intro s' p h f
  cases m <;> cases s' <;> try simp only [SR] at h
  rename_i m' a' v' k'
  cases m' <;> simp only [SR] at h ⊢
  exact ⟨h.1, h.2.1, ih h.2.2 f⟩
 | new o k ih =>
  intro s' p h f
  cases s' <;> simp only [SR] at h ⊢
  exact ⟨h.1, fun b c hg hb hc => ih b (h.2 b c hg hb hc) (fun q a b' l => f q a b' ((ext_le hb).trans l))⟩
 | choose q k ih =>
  intro s' p h f
  cases s' <;> simp only [SR] at h ⊢
  exact ⟨h.1, fun n => ih n (h.2 n) f⟩
 | program k ih =>
  intro s' p h f
  cases s' <;> simp only [SR] at h ⊢
  all_goals first
   | exact h
   | exact h.imp (fun h => ⟨ih P h.1 f, h.2⟩) id
 | mark m k ih =>
  intro s' p h f
  cases s' <;> simp only [SR] at h ⊢
  exact ⟨h.1, h.2.1, ih h.2.2 f⟩
 | shape r k ih =>
  intro s' p h f
  cases s' <;> simp only [SR] at h ⊢
  exact ⟨h.1, fun x => ih x (h.2 x) f⟩
 | getObj r k ih =>
  intro s' p h f
  cases s' <;> simp only [SR] at h ⊢
  exact ⟨h.1, fun a a' l ha => ih _ (h.2 a a' l ha) f⟩
 | halt x => intro s' p h f; cases s' <;> simp only [SR] at h ⊢ <;> exact h
 | freeze a n k ih => intro s' p h f; cases s' <;> simp [SR] at h
 | frozen a k ih => intro s' p h f; cases s' <;> simp only [SR] at h ⊢ <;> exact h
 | setObj r o k ih => intro s' p h f; cases s' <;> simp [SR] at h
 | sys c k ih => intro s' p h f; cases s' <;> simp only [SR] at h ⊢ <;> exact h
theorem SR.bind {α β γ δ : Type} {P : Program} {Q : Ren → α → β → Prop} {R : Ren → γ → δ → Prop} {f : α → Sem γ} {f' : β → Sem δ} : ∀ {s : Sem α} {s' : Sem β} {p : Ren}, SR P Q p s s' → (∀ q a b, Le p q → Q q a b → SR P R q (f a) (f' b)) → SR P R p (s.bind f) (s'.bind f') := by
 intro s
 induction s with
 | pure a => intro s' p h k; cases s' <;> simp only [SR] at h; exact k _ _ _ (Le.refl _) h
 | load m a k ih =>
  intro s' p h g
  cases m <;> cases s' <;> try simp only [SR] at h
  rename_i m' a' k'
  cases m' <;> simp only [SR, Sem.bind] at h ⊢
  exact ⟨h.1, fun v v' hv => ih v (h.2 v v' hv) g⟩
 | store m a v k ih =>
  intro s' p h g
  cases m <;> cases s' <;> try simp only [SR] at h
  rename_i m' a' v' k'
  cases m' <;> simp only [SR, Sem.bind] at h ⊢
  exact ⟨h.1, h.2.1, ih h.2.2 g⟩
 | new o k ih =>
  intro s' p h g
  cases s' <;> simp only [SR, Sem.bind] at h ⊢
  exact ⟨h.1, fun b c hg hb hc => ih b (h.2 b c hg hb hc) (fun q a b' l => g q a b' ((ext_le hb).trans l))⟩
 | choose q k ih =>
  intro s' p h g
  cases s' <;> simp only [SR, Sem.bind] at h ⊢
  exact ⟨h.1, fun n => ih n (h.2 n) g⟩
 | program k ih =>
  intro s' p h g
  have dead : Dead P (k P) → ∀ s2 : Sem δ, SR P R p ((Sem.program k).bind f) s2 := fun d s2 => dead_program (k := fun x => (k x).bind f) d.bind
  cases s' <;> simp only [SR] at h
  all_goals first
   | exact dead h _
   | (rcases h with h | h
      ·exact .inl ⟨ih P h.1 g, by show (_ : Sem _).bind _ = (_ : Sem _).bind _; rw [h.2]⟩
      ·exact dead h _)
 | mark m k ih =>
  intro s' p h g
  cases s' <;> simp only [SR, Sem.bind] at h ⊢
  exact ⟨h.1, h.2.1, ih h.2.2 g⟩
 | shape r k ih =>
  intro s' p h g
  cases s' <;> simp only [SR, Sem.bind] at h ⊢
  exact ⟨h.1, fun x => ih x (h.2 x) g⟩
 | getObj r k ih =>
  intro s' p h g
  cases s' <;> simp only [SR, Sem.bind] at h ⊢
  exact ⟨h.1, fun a a' l ha => ih _ (h.2 a a' l ha) g⟩
 | halt x =>
  intro s' p h g
  have h : okHalt x := by cases s' <;> simpa only [SR] using h
  simp only [Sem.bind]
  cases (s'.bind f') <;> simp only [SR] <;> exact h
 | freeze a n k ih => intro s' p h g; cases s' <;> simp [SR] at h
 | frozen a k ih =>
  intro s' p h g
  have h : ∀ b, Dead P (k b) := by cases s' <;> simpa only [SR] using h
  simp only [Sem.bind]
  cases (s'.bind f') <;> simp only [SR] <;> exact fun b => (h b).bind
 | setObj r o k ih => intro s' p h g; cases s' <;> simp [SR] at h
 | sys c k ih =>
  intro s' p h g
  have h : ∀ b, Dead P (k b) := by cases s' <;> simpa only [SR] using h
  simp only [Sem.bind]
  cases (s'.bind f') <;> simp only [SR] <;> exact fun b => (h b).bind
end
end Go.Proofs.Ytpeoabopeihadaa.Sim
/- A computation's run, and that of a related one: step by step the same. No program in this text. -/
namespace Go.Proofs.Ytpeoabopeihadaa.Sim
open Go
section
variable [Glob]
theorem V.one {p : Ren} {v v' : Value} (h : V p v v') (o : OneV v) : OneV v' := by
 obtain ⟨n, h⟩ := h
 cases n with
 | zero => simp [VR] at h
 | succ n =>
  constructor
  ·intro c e
   subst e
   cases v <;> simp [VR] at h
   exact o.1 _ rfl
  ·intro c e
   subst e
   cases v <;> simp [VR] at h
   exact o.2 _ rfl
theorem runT_store {α : Type} {P : Program} {m : Mode} {a : Addr} {v : Value} {k : Sem α} {w : World} {es : Array Event} (o : OneV v) {x : Value} (hc : w.cell? a = some x) (hf : w.frozen? a = false) :
  (Sem.store m a v k).runT P w es = k.runT P (w.setCell a v) (es.push ⟨.cell a, true, m == .atomic⟩) := by
 cases v with
 | agg c => exact absurd rfl (o.1 c)
 | tuple c => exact absurd rfl (o.2 c)
 | _ => simp [Sem.runT, hc, hf]
theorem store_ok {α : Type} {P : Program} {m : Mode} {a : Addr} {v : Value} {k : Sem α} {w w1 : World} {es es1 : Array Event} {r : α} {x : Value} (hc : w.cell? a = some x) (h : (Sem.store m a v k).runT P w es = (.ok r w1, es1)) : OneV v ∧ w.frozen? a = false := by
 cases v with
 | agg c => simp [Sem.runT] at h
 | tuple c => simp [Sem.runT] at h
 | _ =>
  refine ⟨⟨fun _ e => (by cases e), fun _ e => (by cases e)⟩, ?_⟩
  cases hf : w.frozen? a with
  | false => rfl
  | true => simp [Sem.runT, hc, hf] at h
theorem set_here {w : World} {a : Addr} {v : Value} {xs : Array Value} {t : TypeId} {fz : Nat × Nat} (h : w.heap[a.block]? = some (.cells xs t fz)) (hs : a.spot = none) : (w.setCell a v).heap[a.block]? = some (.cells (xs.setIfInBounds a.off v) t fz) := by
 simp [World.setCell, Array.getElem?_modify, h, hs]
theorem set_there {w : World} {a : Addr} {v : Value} {b : Nat} (h : b ≠ a.block) : (w.setCell a v).heap[b]? = w.heap[b]? := by
 have : a.block ≠ b := fun e => h e.symm
 simp [World.setCell, Array.getElem?_modify, this]
theorem set_size (w : World) (a : Addr) (v : Value) : (w.setCell a v).heap.size = w.heap.size := by simp [World.setCell]
theorem toList_set (xs : Array Value) (i : Nat) (v : Value) : (xs.setIfInBounds i v).toList = xs.toList.set i v := by simp
theorem WR.set {p : Ren} {w u : World} (h : WR p w u) {a a' : Addr} (ha : AR p a a') {v v' : Value} (hv : V p v v') {x : Value} (hx : w.cell? a = some x) : WR p (w.setCell a v) (u.setCell a' v') where
 blk b c e := by
  by_cases hb : b = a.block
  ·subst hb
   have hc : c = a'.block := by rw [ha.1] at e; exact (Option.some.inj e).symm
   subst hc
   obtain ⟨xs, t, fz, h1, h2, _⟩ := cell_row hx
   obtain ⟨ys, gz, h4, h5, h6⟩ := h.row e h1
   refine ⟨_, _, set_here h1 h2, set_here h4 (by rw [← ha.2.2.1]; exact h2), .inl ⟨_, t, fz, _, gz, rfl, rfl, ?_, h6.imp id (Or.imp id fun k => ⟨k.1, by simpa using k.2⟩)⟩⟩
   rw [toList_set, toList_set, ← ha.2.1]
   exact LR.set _ h5 hv
  ·have hc : c ≠ a'.block := fun q => hb (h.inj b a.block c e (by rw [q]; exact ha.1))
   obtain ⟨o, o', h1, h2, h3⟩ := h.blk b c e
   exact ⟨o, o', (set_there hb).trans h1, (set_there hc).trans h2, h3⟩
 inj := h.inj
 big := by rw [set_size, set_size]; exact h.big
 dead g hg := by
  obtain ⟨h1, t, fz, h2⟩ := h.dead g hg
  exact ⟨h1, t, fz, (set_there (fun e => by rw [e, ha.1] at h1; cases h1)).trans h2⟩
theorem set_eff {p : Ren} {w u : World} (h : WR p w u) {a a' : Addr} (ha : AR p a a') {v v' : Value} (hv : V p v v') (hf : w.frozen? a = false) {x : Value} (hx : w.cell? a = some x) : Eff p p w (w.setCell a v) u (u.setCell a' v') where
 le := Le.refl _
 wr := h.set ha hv hx
 size := by rw [set_size]; exact Nat.le_refl _
 lsize := by rw [set_size]; exact Nat.le_refl _
 fresh _ _ e := .inl e
 other c _ hn := set_there (fun q => hn a.block (by rw [q]; exact ha.1))
 still b c e f := by
  have hb : b ≠ a.block := by
   intro q
   subst q
   obtain ⟨xs, t, hi, e1, e2⟩ := f
   obtain ⟨xs', t', fz', e3, _, e4⟩ := cell_row hx
   rw [e1] at e3
   cases e3
   have hlt := (Array.getElem?_eq_some_iff.1 e4).1
   simp only [World.frozen?, e1] at hf
   have : a.off < hi := by omega
   simp [this] at hf
  have hc : c ≠ a'.block := fun q => hb (h.inj b a.block c e (by rw [q]; exact ha.1))
  exact ⟨set_there hc, set_there hb⟩
 os := rfl
 tape := rfl
 out := rfl
 los := rfl
 ltape := rfl
 lout := rfl
 more := Nat.le_refl _
 drawn := by show u.drawn = u.drawn + (w.drawn - w.drawn); omega
theorem push_new (w : World) (o : Obj) : ({ w with heap := w.heap.push o } : World).heap[w.heap.size]? = some o := by simp
theorem push_old (w : World) (o : Obj) {b : Nat} (h : b < w.heap.size) : ({ w with heap := w.heap.push o } : World).heap[b]? = w.heap[b]? := by simp [Array.getElem?_push, Nat.ne_of_lt h]
theorem new_eff {p : Ren} {w u : World} (h : WR p w u) {o o' : Obj} (hl : NR p o o') :
  Eff p (ext p w.heap.size u.heap.size) w { w with heap := w.heap.push o } u { u with heap := u.heap.push o' } where
 le := ext_le h.fresh.1
 wr := {
  blk := fun b c e => by
   have hle := ext_le (c := u.heap.size) h.fresh.1
   unfold ext at e
   split at e
   ·next q =>
    subst q
    cases e
    exact ⟨o, o', push_new _ _, push_new _ _, hl.or.le hle⟩
   ·obtain ⟨x, x', h1, h2, h3⟩ := h.blk b c e
    have := h.lt e
    exact ⟨x, x', (push_old _ _ this.1).trans h1, (push_old _ _ this.2).trans h2, h3.le hle⟩
  inj := fun b d c e f => by
   unfold ext at e f
   split at e
   ·next q =>
    cases e
    split at f
    ·next q2 => rw [q, q2]
    ·exact absurd f (h.fresh.2 d)
   ·split at f
    ·cases f
     exact absurd e (h.fresh.2 b)
    ·exact h.inj b d c e f
  big := by have := h.big; simp; omega
  dead := fun g hg => by
   obtain ⟨h1, t, fz, h2⟩ := h.dead g hg
   have hlt := (Array.getElem?_eq_some_iff.1 h2).1
   exact ⟨by unfold ext; rw [if_neg (by omega)]; exact h1, t, fz, (push_old _ _ hlt).trans h2⟩ }
 size := by simp
 lsize := by simp
 fresh b c e := by
  unfold ext at e
  split at e
  ·next q => cases e; exact .inr ⟨by omega, Nat.le_refl _⟩
  ·exact .inl e
 other c hc _ := push_old _ _ hc
 still b c e _ := ⟨push_old _ _ (h.lt e).2, push_old _ _ (h.lt e).1⟩
 os := rfl
 tape := rfl
 out := rfl
 los := rfl
 ltape := rfl
 lout := rfl
 more := Nat.le_refl _
 drawn := by show u.drawn = u.drawn + (w.drawn - w.drawn); omega
theorem drew_eff {p : Ren} {w u : World} (h : WR p w u) : Eff p p w { w with drawn := w.drawn + 1 } u { u with drawn := u.drawn + 1 } :=
 ⟨Le.refl _, ⟨h.blk, h.inj, h.big, h.dead⟩, Nat.le_refl _, Nat.le_refl _, fun _ _ e => .inl e, fun _ _ _ => rfl, fun _ _ _ _ => ⟨rfl, rfl⟩, rfl, rfl, rfl, rfl, rfl, rfl, Nat.le_succ _, by show u.drawn + 1 = u.drawn + (w.drawn + 1 - w.drawn); omega⟩
theorem far_load {α : Type} {P : Program} {p : Ren} {w u w1 : World} (h : WR p w u) {a a' : Addr} (ha : AR p a a') (hc : w.cell? a = none) {k : Value → Sem α} {m : Mode} {es es1 : Array Event} {r : α}
  (e : (match w.cell? a with
   | some v => (k v).runT P w (es.push ⟨.cell a, false, m == .atomic⟩)
   | none => match w.farLoad P a (m == .atomic) with
    | .ok (v, touched) => (k v).runT P w (es ++ touched.toArray.map (⟨.cell ·, false, m == .atomic⟩))
    | .error h => (.halt h w, es)) = (.ok r w1, es1)) : False := by
 obtain ⟨o, o', h1, _, h3⟩ := h.blk _ _ ha.1
 rcases h3 with ⟨xs, t, fz, ys, gz, rfl, _, _, _⟩ | ⟨x, x', l, rfl, _, _⟩ <;> simp [hc, World.farLoad, h1] at e
theorem far_store {α : Type} {P : Program} {p : Ren} {w u w1 : World} (h : WR p w u) {a a' : Addr} (ha : AR p a a') (hc : w.cell? a = none) {k : Sem α} {m : Mode} {v : Value} {es es1 : Array Event} {r : α} (e : (Sem.store m a v k).runT P w es = (.ok r w1, es1)) : False := by
 obtain ⟨o, o', h1, _, h3⟩ := h.blk _ _ ha.1
 rcases h3 with ⟨xs, t, fz, ys, gz, rfl, _, _, _⟩ | ⟨x, x', l, rfl, _, _⟩ <;> cases v <;> simp [Sem.runT, hc, World.farStore, h1] at e
theorem shape_same {p : Ren} {w u : World} (h : WR p w u) {b c : Nat} (e : p b = some c) : w.shape? b = u.shape? c := by
 obtain ⟨o, o', h1, h2, h3⟩ := h.blk b c e
 rcases h3 with ⟨xs, t, fz, ys, gz, rfl, rfl, h4, _⟩ | ⟨x, x', l, rfl, rfl, _⟩
 ·have := LR.len h4
  simp only [Array.length_toList] at this
  simp [World.shape?, h1, h2, this]
 ·simp [World.shape?, h1, h2]
theorem sr_mono {α β : Type} {P : Program} {Q : Ren → α → β → Prop} : ∀ (s : Sem α) {s' : Sem β} {p : Ren} {w u : World} {es es1 : Array Event} {a : α} {w1 : World}, SR P Q p s s' → WR p w u → s.runT P w es = (.ok a w1, es1) → w.drawn ≤ w1.drawn := by
 intro s
 induction s with
 | pure a => intro s' p w u es es1 a w1 _ _ h; simp only [Sem.runT, Prod.mk.injEq, Result.ok.injEq] at h; rw [← h.1.2]; exact Nat.le_refl _
 | load m a k ih =>
  intro s' p w u es es1 r w1 hs hw h
  cases m <;> cases s' <;> try simp only [SR] at hs
  rename_i m' a' k'
  cases m' <;> simp only [SR] at hs
  simp only [Sem.runT] at h
  cases hc : w.cell? a with
  | some v =>
   obtain ⟨v', _, hv⟩ := hw.cell hs.1 hc
   simp only [hc] at h
   exact ih v (hs.2 v v' hv) hw h
  | none =>
   exact (far_load hw hs.1 hc h).elim
 | store m a v k ih =>
  intro s' p w u es es1 r w1 hs hw h
  cases m <;> cases s' <;> try simp only [SR] at hs
  rename_i m' a' v' k'
  cases m' <;> simp only [SR] at hs
  cases hc : w.cell? a with
  | some x =>
   obtain ⟨o, hf⟩ := store_ok hc h
   rw [runT_store o hc hf] at h
   have h2 := ih hs.2.2 (hw.set hs.1 hs.2.1 hc) h
   exact h2
  | none =>
   exact (far_store hw hs.1 hc h).elim
 | new o k ih =>
  intro s' p w u es es1 r w1 hs hw h
  cases s' <;> simp only [SR] at hs
  obtain ⟨hl, hk⟩ := hs
  simp only [Sem.runT] at h
  have h2 := ih _ (hk _ _ hw.big hw.fresh.1 hw.fresh.2) (new_eff hw hl).wr h
  exact h2
 | choose q k ih =>
  intro s' p w u es es1 r w1 hs hw h
  cases s' <;> simp only [SR] at hs
  simp only [Sem.runT] at h
  split at h
  ·exact ih _ (hs.2 _) hw h
  ·exact Nat.le_trans (Nat.le_succ _) (ih _ (hs.2 _) (drew_eff hw).wr h)
 | program k ih =>
  intro s' p w u es es1 r w1 hs hw h
  cases s' <;> simp only [SR] at hs <;> simp only [Sem.runT] at h
  all_goals first
   | exact absurd h hs.run
   | (rcases hs with hs | hs
      ·exact ih P hs.1 hw h
      ·exact absurd h hs.run)
 | mark m k ih =>
  intro s' p w u es es1 r w1 hs hw h
  cases s' <;> simp only [SR] at hs
  simp only [Sem.runT] at h
  exact ih hs.2.2 hw h
 | shape r k ih =>
  intro s' p w u es es1 x w1 hs hw h
  cases s' <;> simp only [SR] at hs
  simp only [Sem.runT] at h
  exact ih _ (hs.2 _) hw h
 | getObj r k ih =>
  intro s' p w u es es1 x w1 hs hw h
  cases s' <;> simp only [SR] at hs
  obtain ⟨o, o', h1, h2, h3⟩ := hw.blk _ _ hs.1
  rcases h3 with ⟨xs, t, fz, ys, gz, rfl, rfl, _, _⟩ | ⟨a, a', l, rfl, rfl, ha⟩
  ·simp only [Sem.runT, h1, Prod.mk.injEq, reduceCtorEq, false_and] at h
  ·simp only [Sem.runT, h1] at h
   exact ih _ (hs.2 a a' l ha) hw h
 | halt x => intro s' p w u es es1 r w1 hs hw h; simp [Sem.runT] at h
 | freeze a n k ih => intro s' p w u es es1 r w1 hs; cases s' <;> simp [SR] at hs
 | frozen a k ih =>
  intro s' p w u es es1 r w1 hs hw h
  have hs : ∀ b, Dead P (k b) := by cases s' <;> simpa only [SR] using hs
  simp only [Sem.runT] at h
  exact absurd h (hs _).run
 | setObj r o k ih => intro s' p w u es es1 r w1 hs; cases s' <;> simp [SR] at hs
 | sys c k ih =>
  intro s' p w u es es1 r w1 hs hw h
  have hs : ∀ b, Dead P (k b) := by cases s' <;> simpa only [SR] using hs
  simp only [Sem.runT] at h
  exact absurd h (hs _).run
theorem not_fz {p : Ren} {w : World} {a : Addr} {x : Value} (hc : w.cell? a = some x) (hf : w.frozen? a = false) : ¬Fp p w a.block := by
 rintro ⟨⟨xs, t, hi, e1, e2⟩, _⟩
 obtain ⟨ys, t', fz, e3, _, e4⟩ := cell_row hc
 rw [e1] at e3
 cases e3
 have := (Array.getElem?_eq_some_iff.1 e4).1
 simp only [World.frozen?, e1] at hf
 simp at hf
 omega
theorem sr_runs {α β : Type} {P : Program} {Q : Ren → α → β → Prop} : ∀ (s : Sem α) {s' : Sem β} {p : Ren} {w u : World} {es fs es1 : Array Event} {a : α} {w1 : World}, SR P Q p s s' → WR p w u → s.runT P w es = (.ok a w1, es1) →
  (∀ i, w.drawn + i < w1.drawn → w.tape (w.drawn + i) = u.tape (u.drawn + i)) →
  ∃ q b u1 ds ds', (∀ R, R = P ∨ R = co P → s'.runT R u fs = (.ok b u1, fs ++ ds'.toArray)) ∧ es1 = es ++ ds.toArray ∧ Q q a b ∧ Eff p q w w1 u u1 ∧ EL q (Fp p w) ds ds' := by
 intro s
 induction s with
 | pure a =>
  intro s' p w u es fs es1 a w1 hs hw h _
  cases s' <;> simp only [SR] at hs
  simp only [Sem.runT, Prod.mk.injEq, Result.ok.injEq] at h
  obtain ⟨⟨rfl, rfl⟩, rfl⟩ := h
  exact ⟨p, _, u, [], [], fun R hR => by simp [Sem.runT], by simp, hs, Eff.refl hw, trivial⟩
 | load m a k ih =>
  intro s' p w u es fs es1 r w1 hs hw h al
  cases m <;> cases s' <;> try simp only [SR] at hs
  rename_i m' a' k'
  cases m' <;> simp only [SR] at hs
  simp only [Sem.runT] at h
  cases hc : w.cell? a with
  | some v =>
   obtain ⟨v', hc', hv⟩ := hw.cell hs.1 hc
   simp only [hc] at h
   obtain ⟨q, b, u1, ds, ds', h1, h2, h3, h4, h5⟩ := ih v (fs := fs.push ⟨.cell a', false, false⟩) (hs.2 v v' hv) hw h al
   refine ⟨q, b, u1, ⟨.cell a, false, false⟩ :: ds, ⟨.cell a', false, false⟩ :: ds', ?_, ?_, h3, h4, .inl ⟨a, a', rfl, rfl, hs.1.le h4.le, fun h => by cases h⟩, h5⟩
   ·intro R hR
    simp only [Sem.runT, hc']
    refine (h1 R hR).trans ?_
    congr 1
    apply Array.ext'
    simp
   ·rw [h2]
    apply Array.ext'
    simp
  | none =>
   exact (far_load hw hs.1 hc h).elim
 | store m a v k ih =>
  intro s' p w u es fs es1 r w1 hs hw h al
  cases m <;> cases s' <;> try simp only [SR] at hs
  rename_i m' a' v' k'
  cases m' <;> simp only [SR] at hs
  cases hc : w.cell? a with
  | some x =>
   obtain ⟨o, hf⟩ := store_ok hc h
   rw [runT_store o hc hf] at h
   have e1 := set_eff hw hs.1 hs.2.1 hf hc
   obtain ⟨x', hc', _⟩ := hw.cell hs.1 hc
   have hf' : u.frozen? a' = false := by
    obtain ⟨xs, t, fz, e1, _, e9⟩ := cell_row hc
    obtain ⟨ys, gz, h2, _, hg⟩ := hw.row hs.1.1 e1
    simp only [World.frozen?, e1] at hf
    rcases hg with rfl | rfl | ⟨hg1, hg2⟩
    ·simp [World.frozen?, h2]
    ·simp only [World.frozen?, h2, ← hs.1.2.1]
     exact hf
    ·exfalso
     have := (Array.getElem?_eq_some_iff.1 e9).1
     obtain ⟨lo, hi⟩ := fz
     simp only at hg1 hg2 hf
     subst hg1
     simp at hf
     omega
   obtain ⟨q, b, u1, ds, ds', h1, h2, h3, h4, h5⟩ := ih (fs := fs.push ⟨.cell a', true, false⟩) hs.2.2 e1.wr h al
   refine ⟨q, b, u1, ⟨.cell a, true, false⟩ :: ds, ⟨.cell a', true, false⟩ :: ds', ?_, ?_, h3, e1.trans h4, .inl ⟨a, a', rfl, rfl, hs.1.le h4.le, fun _ => not_fz hc hf⟩, h5.less e1.fp⟩
   ·intro R hR
    rw [runT_store (V.one hs.2.1 o) hc' hf']
    refine (h1 R hR).trans ?_
    congr 1
    apply Array.ext'
    simp
   ·rw [h2]
    apply Array.ext'
    simp
  | none =>
   exact (far_store hw hs.1 hc h).elim
 | new o k ih =>
  intro s' p w u es fs es1 r w1 hs hw h al
  cases s' <;> simp only [SR] at hs
  obtain ⟨hl, hk⟩ := hs
  simp only [Sem.runT] at h
  have e1 := new_eff hw hl
  obtain ⟨q, b, u1, ds, ds', h1, h2, h3, h4, h5⟩ := ih _ (fs := fs) (hk _ _ hw.big hw.fresh.1 hw.fresh.2) e1.wr h al
  exact ⟨q, b, u1, ds, ds', fun R hR => by simp only [Sem.runT]; exact h1 R hR, h2, h3, e1.trans h4, h5.less e1.fp⟩
 | choose q k ih =>
  intro s' p w u es fs es1 r w1 hs hw h al
  cases s' <;> simp only [SR] at hs
  obtain ⟨rfl, hs⟩ := hs
  simp only [Sem.runT] at h ⊢
  split at h
  ·next hq =>
   obtain ⟨q', b, u1, ds, ds', h1, h2, h3, h4, h5⟩ := ih _ (fs := fs) (hs _) hw h al
   exact ⟨q', b, u1, ds, ds', fun R hR => by rw [if_pos hq]; exact h1 R hR, h2, h3, h4, h5⟩
  ·next hq =>
   have e1 := drew_eff hw
   have hm := sr_mono _ (hs _) e1.wr h
   have ha : w.tape w.drawn = u.tape u.drawn := by
    have := al 0 (by simp only at hm; omega)
    simpa using this
   rw [ha] at h
   obtain ⟨q', b, u1, ds, ds', h1, h2, h3, h4, h5⟩ := ih _ (fs := fs) (hs _) e1.wr h (fun i hi => by
    have := al (i + 1) (by simp only at hi; omega)
    rw [show w.drawn + (i + 1) = w.drawn + 1 + i by omega, show u.drawn + (i + 1) = u.drawn + 1 + i by omega] at this
    exact this)
   exact ⟨q', b, u1, ds, ds', fun R hR => by rw [if_neg hq]; exact h1 R hR, h2, h3, e1.trans h4, h5.less e1.fp⟩
 | program k ih =>
  intro s' p w u es fs es1 r w1 hs hw h al
  cases s' <;> simp only [SR] at hs <;> simp only [Sem.runT] at h ⊢
  case program =>
   rcases hs with hs | hs
   ·obtain ⟨q, b, u1, ds, ds', h1, h2, h3, h4, h5⟩ := ih P (fs := fs) hs.1 hw h al
    refine ⟨q, b, u1, ds, ds', fun R hR => ?_, h2, h3, h4, h5⟩
    rcases hR with rfl | rfl
    ·exact h1 _ (.inl rfl)
    ·rw [hs.2]
     exact h1 _ (.inr rfl)
   ·exact absurd h hs.run
  all_goals exact absurd h hs.run
 | mark m k ih =>
  intro s' p w u es fs es1 r w1 hs hw h al
  cases s' <;> simp only [SR] at hs
  obtain ⟨rfl, hm, hs⟩ := hs
  simp only [Sem.runT] at h
  obtain ⟨q, b, u1, ds, ds', h1, h2, h3, h4, h5⟩ := ih (fs := fs.push ⟨.mark m, false, true⟩) hs hw h al
  refine ⟨q, b, u1, ⟨.mark m, false, true⟩ :: ds, ⟨.mark m, false, true⟩ :: ds', ?_, ?_, h3, h4, .inr (.inl ⟨⟨m, hm, rfl⟩, rfl⟩), h5⟩
  ·intro R hR
   simp only [Sem.runT]
   refine (h1 R hR).trans ?_
   congr 1
   apply Array.ext'
   simp
  ·rw [h2]
   apply Array.ext'
   simp
 | shape r k ih =>
  intro s' p w u es fs es1 x w1 hs hw h al
  cases s' <;> simp only [SR] at hs
  simp only [Sem.runT] at h ⊢
  rw [← shape_same hw hs.1]
  exact ih _ (hs.2 _) hw h al
 | getObj r k ih =>
  intro s' p w u es fs es1 x w1 hs hw h al
  cases s' <;> simp only [SR] at hs
  rename_i r' k'
  obtain ⟨o, o', h1, h2, h3⟩ := hw.blk _ _ hs.1
  rcases h3 with ⟨xs, t, fz, ys, gz, rfl, rfl, _, _⟩ | ⟨a, a', l, rfl, rfl, ha⟩
  ·simp only [Sem.runT, h1, Prod.mk.injEq, reduceCtorEq, false_and] at h
  ·simp only [Sem.runT, h1, Obj.isChan] at h
   obtain ⟨q, b, u1, ds, ds', e1, e2, e3, e4, e5⟩ := ih _ (fs := fs.push ⟨.obj r', false, false⟩) (hs.2 a a' l ha) hw h al
   refine ⟨q, b, u1, ⟨.obj r, false, false⟩ :: ds, ⟨.obj r', false, false⟩ :: ds', ?_, ?_, e3, e4, .inr (.inr ⟨r, r', rfl, rfl, e4.le _ _ hs.1⟩), e5⟩
   ·intro R hR
    simp only [Sem.runT, h2, Obj.isChan]
    refine (e1 R hR).trans ?_
    congr 1
    apply Array.ext'
    simp
   ·rw [e2]
    apply Array.ext'
    simp
 | halt x => intro s' p w u es fs es1 r w1 hs hw h; simp [Sem.runT] at h
 | freeze a n k ih => intro s' p w u es fs es1 r w1 hs; cases s' <;> simp [SR] at hs
 | frozen a k ih =>
  intro s' p w u es fs es1 r w1 hs hw h
  have hs : ∀ b, Dead P (k b) := by cases s' <;> simpa only [SR] using hs
  simp only [Sem.runT] at h
  exact absurd h (hs _).run
 | setObj r o k ih => intro s' p w u es fs es1 r w1 hs; cases s' <;> simp [SR] at hs
 | sys c k ih =>
  intro s' p w u es fs es1 r w1 hs hw h
  have hs : ∀ b, Dead P (k b) := by cases s' <;> simpa only [SR] using hs
  simp only [Sem.runT] at h
  exact absurd h (hs _).run
end
end Go.Proofs.Ytpeoabopeihadaa.Sim
/- The model's smaller steps at related values: loads, stores, new memory, addresses. No program of the project in this text. -/
namespace Go.Proofs.Ytpeoabopeihadaa.Sim
open Go
section
variable [Glob] {P : Program} {p : Ren}
theorem sr_bind {α β γ δ : Type} {Q : Ren → α → β → Prop} {R : Ren → γ → δ → Prop} {f : α → Sem γ} {f' : β → Sem δ} {s : Sem α} {s' : Sem β} (h : SR P Q p s s') (k : ∀ q a b, Le p q → Q q a b → SR P R q (f a) (f' b)) : SR P R p (s >>= f) (s' >>= f') := SR.bind h k
theorem sr_pure {α β : Type} {Q : Ren → α → β → Prop} {a : α} {b : β} (h : Q p a b) : SR P Q p (pure a) (pure b) := h
theorem sr_halt {α β : Type} {Q : Ren → α → β → Prop} {h : Halt} {s : Sem β} (o : okHalt h := by exact trivial) : SR P Q p (.halt h) s := by cases s <;> simp only [SR] <;> exact o
theorem sr_ite {α β : Type} {Q : Ren → α → β → Prop} {c : Prop} [Decidable c] {a b : Sem α} {a' b' : Sem β} (h : c → SR P Q p a a') (k : ¬c → SR P Q p b b') : SR P Q p (if c then a else b) (if c then a' else b') := by
 split
 ·next e => exact h e
 ·next e => exact k e
def Pl {α : Type} (P : Program) : Sem α → Prop
 | .pure _ => True
 | .program k => Pl P (k P) ∧ k (co P) = k P
 | .choose _ k => ∀ n, Pl P (k n)
 | .mark m k => MarkOk m ∧ Pl P k
 | .halt h => okHalt h
 | _ => False
theorem Pl.sr {α : Type} : ∀ {s : Sem α}, Pl P s → SR P (fun _ a b => a = b) p s s := by
 intro s
 induction s with
 | pure a => intro _; rfl
 | program k ih => intro h; simp only [Pl, SR] at h ⊢; exact .inl ⟨ih P h.1, h.2⟩
 | choose q k ih => intro h; simp only [Pl, SR] at h ⊢; exact ⟨trivial, fun n => ih n (h n)⟩
 | mark m k ih => intro h; simp only [Pl, SR] at h ⊢; exact ⟨trivial, h.1, ih h.2⟩
 | halt x => intro h; exact sr_halt h
 | _ => intro h; simp [Pl] at h
theorem Pl.bind {α β : Type} {f : α → Sem β} : ∀ {s : Sem α}, Pl P s → (∀ a, Pl P (f a)) → Pl P (s >>= f) := by
 intro s
 show _ → _ → Pl P (s.bind f)
 induction s with
 | pure a => intro _ h; exact h a
 | program k ih => intro h g; simp only [Pl, Sem.bind] at h ⊢; exact ⟨ih P h.1 g, by rw [h.2]⟩
 | choose q k ih => intro h g; simp only [Pl, Sem.bind] at h ⊢; exact fun n => ih n (h n) g
 | mark m k ih => intro h g; simp only [Pl, Sem.bind] at h ⊢; exact ⟨h.1, ih h.2 g⟩
 | halt x => intro h _; exact h
 | _ => intro h; simp [Pl] at h
theorem pl_pure {α : Type} (a : α) : Pl P (pure a) := trivial
theorem co_under (t : TypeId) : (co P).underlying t = P.underlying t := rfl
theorem co_cells (t : TypeId) : (co P).cellsOf t = P.cellsOf t := rfl
theorem co_bytes (t : TypeId) : (co P).bytesOf t = P.bytesOf t := rfl
theorem co_depth : (co P).depth = P.depth := rfl
theorem co_byteOfCell : ∀ (d : Nat) (t : TypeId) (o : Nat), byteOfCell (co P) d t o = byteOfCell P d t o := by
 intro d
 induction d with
 | zero => intro t o; rfl
 | succ d ih => intro t o; simp only [byteOfCell, co_under, co_cells, co_bytes, ih]; rfl
theorem co_cellOfByte : ∀ (d : Nat) (t : TypeId) (o : Nat), cellOfByte (co P) d t o = cellOfByte P d t o := by
 intro d
 induction d with
 | zero => intro t o; rfl
 | succ d ih => intro t o; simp only [cellOfByte, co_under, co_cells, co_bytes, ih]; rfl
theorem co_cellAtBytes (d : Nat) (e : TypeId) (c o : Nat) (b : Int) : cellAtBytes (co P) d e c o b = cellAtBytes P d e c o b := by
 unfold cellAtBytes
 simp only [co_cells, co_bytes, co_byteOfCell, co_cellOfByte]
 rfl
theorem co_eqGuard : ∀ (d : Nat) (t : TypeId), (co P).eqGuardType d t = P.eqGuardType d t := by
 intro d
 induction d with
 | zero => intro t; rfl
 | succ d ih => intro t; simp only [Program.eqGuardType, co_under, ih]
theorem sr_program {α β : Type} {Q : Ren → α → β → Prop} {f : Program → Sem α} {f' : Program → Sem β} (h : SR P Q p (f P) (f' P)) (e : f' (co P) = f' P) : SR P Q p (program >>= f) (program >>= f') := .inl ⟨h, e⟩
theorem pl_with {α : Type} {f : Program → Sem α} (h : Pl P (f P)) (e : f (co P) = f P) : Pl P (program >>= f) := ⟨h, e⟩
theorem pl_choose (q : Question) : Pl P (choose q) := fun _ => trivial
theorem pl_typeInfo (t : TypeId) : Pl P (typeInfo t) := pl_with (by split <;> trivial) rfl
theorem pl_underlying (t : TypeId) : Pl P (underlying t) := pl_with (by split <;> trivial) rfl
theorem pl_sizeOf (t : TypeId) : Pl P (sizeOf t) := Pl.bind (pl_typeInfo t) (fun _ => trivial)
theorem pl_isAgg (t : TypeId) : Pl P (isAgg t) := Pl.bind (pl_underlying t) (fun x => by split <;> trivial)
theorem pl_askRoom (n : Nat) : Pl P (askRoom n) := by
 unfold askRoom
 split
 ·exact ⟨trivial, trivial⟩
 ·trivial
def Nr {α : Type} (P : Program) : Sem α → Prop
 | .pure _ => False
 | .program k => Nr P (k P) ∧ k (co P) = k P
 | .choose _ k => ∀ n, Nr P (k n)
 | .mark m k => MarkOk m ∧ Nr P k
 | .halt h => okHalt h
 | _ => False
theorem Nr.sr {α : Type} {Q : Ren → α → α → Prop} : ∀ {s : Sem α}, Nr P s → SR P Q p s s := by
 intro s
 induction s with
 | pure a => intro h; exact h.elim
 | program k ih => intro h; simp only [Nr, SR] at h ⊢; exact .inl ⟨ih P h.1, h.2⟩
 | choose q k ih => intro h; simp only [Nr, SR] at h ⊢; exact ⟨trivial, fun n => ih n (h n)⟩
 | mark m k ih => intro h; simp only [Nr, SR] at h ⊢; exact ⟨trivial, h.1, ih h.2⟩
 | halt x => intro h; exact sr_halt h
 | _ => intro h; simp [Nr] at h
theorem nr_boundsPanic {α : Type} (k : IntKind) (x y : Int) (c : BoundsCode) : Nr P (boundsPanic (α := α) k x y c) := by
 unfold boundsPanic
 dsimp only
 split <;> simp [Nr, choose, bind, Functor.map, Sem.bind, pure, runtimePanic, program, goPanic, okHalt, co]
theorem nr_error {α : Type} (m : String) : Nr P (runtimePanic (α := α) (.error m)) := by simp [Nr, bind, Sem.bind, runtimePanic, program, goPanic, okHalt, co]
theorem nr_nilDeref {α : Type} : Nr P (runtimePanic (α := α) .nilDeref) := by simp [Nr, bind, Sem.bind, runtimePanic, program, goPanic, okHalt, co]
def Zero (P : Program) : Prop := ∀ t i z, P.info? t = some i → i.zero = some z → ∀ p, V p z z
theorem sr_zero (hz : Zero P) (t : TypeId) : SR P (fun q a b => a = b ∧ V q a b) p (zeroValue t) (zeroValue t) := by
 show SR P _ p (zeroValue t) (zeroValue t)
 cases hi : P.info? t with
 | none =>
  have hi2 : (co P).info? t = none := hi
  simp [zeroValue, typeInfo, program, stuck, bind, Sem.bind, SR, hi, hi2, okHalt]
 | some i =>
  cases h0 : i.zero with
  | none =>
   have hi2 : (co P).info? t = some i := hi
   simp [zeroValue, typeInfo, program, unsupported, bind, Sem.bind, pure, SR, hi, hi2, h0, okHalt]
  | some z =>
   have hi2 : (co P).info? t = some i := hi
   simp only [zeroValue, typeInfo, program, bind, Sem.bind, pure, SR, hi, hi2, h0, okHalt]
   exact .inl ⟨⟨trivial, hz t i z hi h0 p⟩, trivial⟩
theorem V.split {v u : Value} (h : V p v u) : ∃ n, VR p (n + 1) v u := by
 obtain ⟨n, h⟩ := h
 exact ⟨n, h.succ⟩
theorem sr_asIntOf {x y : Value} (h : V p x y) : SR P (fun _ a b => a = b) p (asIntOf x) (asIntOf y) := by
 obtain ⟨n, h⟩ := h.split
 cases x with
 | int k a =>
  cases y <;> simp only [VR] at h
  obtain ⟨rfl, rfl⟩ := h
  rfl
 | pointer a => cases a <;> exact sr_halt
 | _ => exact sr_halt
theorem sr_asInt {x y : Value} (h : V p x y) : SR P (fun _ a b => a = b) p (asInt x) (asInt y) :=
 sr_bind (sr_asIntOf h) (fun q a b _ e => by subst e; rfl)
theorem sr_asBool {x y : Value} (h : V p x y) : SR P (fun _ a b => a = b) p (asBool x) (asBool y) := by
 obtain ⟨n, h⟩ := h.split
 cases x with
 | bool a =>
  cases y <;> simp only [VR] at h
  subst h
  rfl
 | _ => exact sr_halt
theorem AR.add {a b : Addr} (h : AR p a b) (i : Nat) : AR p (a.add i) (b.add i) := by
 unfold Addr.add
 split
 ·exact h
 ·exact ⟨h.1, by simp [h.2.1], rfl, h.2.2.2⟩
theorem sr_sureAddr {x y : Value} (h : V p x y) : SR P (fun q a b => AR q a b) p (Instr.sureAddr x) (Instr.sureAddr y) := by
 obtain ⟨n, h⟩ := h.split
 cases x with
 | pointer a =>
  cases a with
  | none => exact sr_halt
  | some a =>
   cases y with
   | pointer b =>
    cases b with
    | none => simp only [VR, OAR] at h
    | some b => exact h
   | _ => simp only [VR] at h
 | _ => exact sr_halt
theorem sr_load {a b : Addr} (h : AR p a b) : SR P (fun q v u => V q v u) p (load a) (load b) := ⟨h, fun _ _ hv => hv⟩
theorem sr_store {a b : Addr} (h : AR p a b) {v u : Value} (k : V p v u) : SR P (fun _ _ _ => True) p (store a v) (store b u) := ⟨h, k, trivial⟩
theorem LR.push {R : Value → Value → Prop} {xs ys : Array Value} {x y : Value} (h : LR R xs.toList ys.toList) (k : R x y) : LR R (xs.push x).toList (ys.push y).toList := by
 rw [Array.toList_push, Array.toList_push]
 exact LR.append h ⟨k, trivial⟩
theorem sr_loadCellsFrom {a b : Addr} : ∀ (n i : Nat) {q : Ren} {xs ys : Array Value}, AR q a b → LR (V q) xs.toList ys.toList → SR P (fun q v u => LR (V q) v.toList u.toList) q (loadCellsFrom a i n xs) (loadCellsFrom b i n ys)
 | 0, _, _, _, _, _, h => h
 | n + 1, i, q, xs, ys, ha, h => sr_bind (sr_load (ha.add i)) (fun q' v u l hv => sr_loadCellsFrom n (i + 1) (ha.le l) (LR.push (LR.mono (fun _ _ k => k.le l) h) hv))
theorem sr_loadCells {a b : Addr} (n : Nat) (h : AR p a b) : SR P (fun q v u => LR (V q) v.toList u.toList) p (loadCells a n) (loadCells b n) := sr_loadCellsFrom n 0 h trivial
theorem sr_storeCells {a b : Addr} : ∀ {xs ys : List Value} (i : Nat) {q : Ren}, AR q a b → LR (V q) xs ys → SR P (fun _ _ _ => True) q (storeCells a xs i) (storeCells b ys i)
 | [], [], _, _, _, _ => trivial
 | _ :: _, _ :: _, i, q, ha, h => sr_bind (sr_store (ha.add i) h.1) (fun q' _ _ l _ => sr_storeCells (i + 1) (ha.le l) (LR.mono (fun _ _ k => k.le l) h.2))
theorem V.cells {v u : Value} (h : V p v u) : LR (V p) v.cells.toList u.cells.toList := by
 have h0 := h
 obtain ⟨n, k⟩ := h.split
 cases v with
 | agg a =>
  cases u with
  | agg b => exact LR.v (n := n) k
  | _ => simp only [VR] at k
 | _ =>
  cases u with
  | agg b => simp [VR] at k
  | _ => exact ⟨h0, trivial⟩
theorem sr_loadVar (t : TypeId) {a b : Addr} (h : AR p a b) : SR P (fun q v u => V q v u) p (loadVar t a) (loadVar t b) := by
 refine sr_bind (pl_isAgg t).sr (fun q x y l e => ?_)
 subst e
 cases x with
 | true =>
  refine sr_bind (pl_sizeOf t).sr (fun q2 x y l2 e => ?_)
  subst e
  exact sr_bind (sr_loadCells x (h.le (l.trans l2))) (fun q3 xs ys _ k => V.agg k)
 | false => exact sr_load (h.le l)
theorem sr_storeVar (t : TypeId) {a b : Addr} (h : AR p a b) {v u : Value} (k : V p v u) : SR P (fun _ _ _ => True) p (storeVar t a v) (storeVar t b u) := by
 refine sr_bind (pl_sizeOf t).sr (fun q x y l e => ?_)
 subst e
 have hl := LR.len (k.le l).cells
 simp only [Array.length_toList] at hl
 rw [← hl]
 split
 ·exact sr_halt
 ·exact sr_storeCells 0 (h.le l) (k.le l).cells
theorem sr_newRow (t : TypeId) {xs ys : Array Value} (h : LR (V p) xs.toList ys.toList) : SR P (fun q a b => AR q a b) p (newRow t xs) (newRow t ys) := by
 refine sr_bind (Q := fun q b c => q b = some c ∧ Glob.size ≤ b ∧ Glob.size ≤ c) ⟨.inl ⟨xs, t, ys, rfl, rfl, h⟩, fun b c g _ _ => ⟨ext_at p b c, g⟩⟩ (fun q b c l e => ?_)
 exact ⟨e.1, rfl, rfl, fun k => absurd (show b < Glob.size ∨ c < Glob.size from k) (by have := e.2; omega)⟩
theorem sr_newVar (t : TypeId) {v u : Value} (h : V p v u) : SR P (fun q a b => AR q a b) p (newVar t v) (newVar t u) := sr_newRow t h.cells
theorem sr_box (t : TypeId) {v u : Value} (h : V p v u) : SR P (fun q a b => V q a b) p (Instr.box t v) (Instr.box t u) :=
 sr_bind (sr_newVar t h) (fun _ _ _ _ k => V.pointer k)
theorem sr_loadAt (t : TypeId) {v u : Value} (h : V p v u) : SR P (fun q a b => V q a b) p (Instr.loadAt t v) (Instr.loadAt t u) :=
 sr_bind (sr_sureAddr h) (fun _ _ _ _ k => sr_loadVar t k)
theorem sr_storeAt (t : TypeId) {v u x y : Value} (h : V p v u) (k : V p x y) : SR P (fun _ _ _ => True) p (Instr.storeAt t v x) (Instr.storeAt t u y) :=
 sr_bind (sr_sureAddr h) (fun _ _ _ l j => sr_storeVar t j (k.le l))
theorem sr_extract {v u : Value} (h : V p v u) (i : Nat) : SR P (fun q a b => V q a b) p (Instr.extract v i) (Instr.extract u i) := by
 obtain ⟨n, h⟩ := h.split
 cases v with
 | tuple xs =>
  have h : xs.toList = [] ∨ ∃ b, u = .tuple b ∧ LR (VR p n) xs.toList b.toList := by
   cases u <;> simp only [VR] at h
   all_goals exact h
  rcases h with h | ⟨ys, rfl, hl⟩
  ·have hx : xs[i]? = none := by rw [← Array.getElem?_toList, h]; rfl
   unfold Instr.extract
   dsimp only
   rw [hx]
   exact sr_halt
  ·unfold Instr.extract
   dsimp only
   cases hx : xs[i]? with
   | none => exact sr_halt
   | some x =>
    obtain ⟨y, hy, k⟩ := LR.at (i := i) (x := x) hl (by rw [Array.getElem?_toList]; exact hx)
    rw [Array.getElem?_toList] at hy
    rw [hy]
    exact sr_pure ⟨n, k⟩
 | _ => exact sr_halt
end
end Go.Proofs.Ytpeoabopeihadaa.Sim
/- Addresses of parts, slices made and cut, parts of values, at related values. No program of the project in this text. -/
namespace Go.Proofs.Ytpeoabopeihadaa.Sim
open Go
section
variable [Glob] {P : Program} {p : Ren}
theorem sr_shape {r s : Nat} (h : p r = some s) : SR P (fun _ a b => a = b) p (shape r) (shape s) := ⟨h, fun _ => rfl⟩
theorem sr_viewAt {r s : Nat} (h : p r = some s) : SR P (fun _ a b => a = none ∧ b = none) p (viewAt r) (viewAt s) := by
 refine sr_bind (sr_shape h) (fun q a b l e => ?_)
 subst e
 split
 ·exact ⟨rfl, rfl⟩
 ·exact ⟨l _ _ h, fun _ _ _ _ => ⟨rfl, rfl⟩⟩
theorem sr_noView {a b : Addr} (h : AR p a b) : SR P (fun _ _ _ => True) p (noView a) (noView b) := by
 refine sr_bind (sr_viewAt h.1) (fun q x y l e => ?_)
 obtain ⟨rfl, rfl⟩ := e
 trivial
theorem sr_byteOf {a b : Addr} (h : AR p a b) : SR P (fun _ x y => x = y) p (byteOf a) (byteOf b) := by
 obtain ⟨h1, h2, h3, h4⟩ := h
 unfold byteOf
 rw [← h3]
 cases hs : a.spot with
 | some s => rfl
 | none =>
  refine sr_program ?_ (by simp only [co_cells, co_bytes, co_depth, co_byteOfCell])
  have l := Le.refl p
  refine sr_bind (sr_noView (a := a) (b := b) ⟨l _ _ h1, h2, h3, h4⟩) (fun q2 _ _ l2 _ => ?_)
  refine sr_bind (sr_shape (l2 _ _ (l _ _ h1))) (fun q3 x2 y2 _ e => ?_)
  subst e
  rw [← h2]
  cases x2 with
  | none => exact sr_halt
  | some z =>
   dsimp only
   split
   ·rfl
   ·split <;> first | exact sr_halt | rfl
theorem sr_partAt {a b : Addr} (h : AR p a b) (m n : Nat) : SR P (fun q x y => AR q x y) p (partAt a m n) (partAt b m n) := by
 refine sr_bind (sr_byteOf h) (fun q x y l e => ?_)
 subst e
 have hp : AR q { block := a.block, off := a.off + m } { block := b.block, off := b.off + m } := ⟨l _ _ h.1, by simp [h.2.1], rfl, h.2.2.2⟩
 refine sr_bind (sr_byteOf hp) (fun q2 x2 y2 l2 e => ?_)
 subst e
 show AR q2 _ _
 split
 ·exact hp.le l2
 ·exact ⟨(hp.le l2).1, hp.2.1, rfl, h.2.2.2⟩
theorem sr_fieldPlace {a b : Addr} (h : AR p a b) (f : Field) : SR P (fun q x y => AR q x y) p (fieldPlace a f) (fieldPlace b f) := by
 refine sr_bind (pl_sizeOf f.type).sr (fun q x y l e => ?_)
 subst e
 split
 ·exact sr_partAt (h.le l) _ _
 ·exact sr_pure ((h.le l).add _)
theorem sr_fieldAt (t : TypeId) {v u : Value} (h : V p v u) (i : Nat) : SR P (fun q x y => V q x y) p (Instr.fieldAt t v i) (Instr.fieldAt t u i) := by
 refine sr_bind (pl_underlying t).sr (fun q x y l e => ?_)
 subst e
 split
 ·split
  ·refine sr_bind (sr_sureAddr (h.le l)) (fun q2 a b l2 ha => ?_)
   exact sr_bind (sr_fieldPlace ha _) (fun q3 _ _ _ k => V.pointer k)
  ·exact sr_halt
 ·exact sr_halt
theorem sr_makeFunc (f : Fn) (o : okFn f) {xs ys zs us : Array Value} (h : LR (V p) xs.toList ys.toList) (k : LR (V p) zs.toList us.toList) : SR P (fun q x y => V q x y) p (Instr.makeFunc f xs zs) (Instr.makeFunc f ys us) := V.func o h k
theorem sr_indexAt (t : TypeId) {v u i j : Value} (h : V p v u) (k : V p i j) : SR P (fun q x y => V q x y) p (Instr.indexAt t v i) (Instr.indexAt t u j) := by
 refine sr_bind (sr_asIntOf k) (fun q x y l e => ?_)
 subst e
 obtain ⟨ki, n⟩ := x
 refine sr_bind (pl_underlying t).sr (fun q2 d d' l2 e => ?_)
 subst e
 replace h := (h.le l).le l2
 clear k l l2
 cases d with
 | array len elem =>
  refine sr_bind (sr_sureAddr h) (fun q3 a b l3 ha => ?_)
  show SR P _ q3 (underlying t >>= _) (underlying t >>= _)
  refine sr_bind (pl_underlying t).sr (fun q d d' l e => ?_)
  subst e
  replace ha := ha.le l
  dsimp only
  split
  ·refine sr_bind (pl_sizeOf elem).sr (fun q2 s s' l2 e => ?_)
   subst e
   exact sr_pure (V.pointer (AR.add (AR.le ha l2) _))
  ·split <;> split <;> first | exact sr_halt | exact (nr_boundsPanic _ _ _ _).sr
 | slice elem =>
  obtain ⟨m, hv⟩ := h.split
  cases v with
  | slice a len c =>
   cases u with
   | slice b len' c' =>
    simp only [VR] at hv
    obtain ⟨ha, rfl, rfl⟩ := hv
    show SR P _ q2 (underlying t >>= _) (underlying t >>= _)
    refine sr_bind (pl_underlying t).sr (fun q d d' l e => ?_)
    subst e
    replace ha := ha.le l
    cases a <;> cases b <;> simp only [OAR] at ha
    ·exact (nr_boundsPanic _ _ _ _).sr
    ·dsimp only
     split
     ·refine sr_bind (pl_sizeOf elem).sr (fun q2 s s' l2 e => ?_)
      subst e
      exact sr_pure (V.pointer (AR.add (AR.le ha l2) _))
     ·split <;> split <;> first | exact sr_halt | exact (nr_boundsPanic _ _ _ _).sr
   | _ => simp only [VR] at hv
  | _ => exact sr_halt
 | _ => exact sr_halt
end
end Go.Proofs.Ytpeoabopeihadaa.Sim
/- Parts of values, slices cut and made, rows built, at related values. No program of the project in this text. -/
namespace Go.Proofs.Ytpeoabopeihadaa.Sim
open Go
section
variable [Glob] {P : Program} {p : Ren}
theorem LR.take {R : Value → Value → Prop} : ∀ {xs ys : List Value} (n : Nat), LR R xs ys → LR R (xs.take n) (ys.take n)
 | [], [], _, _ => by simp [LR]
 | _ :: _, _ :: _, 0, _ => by simp [LR]
 | _ :: _, _ :: _, n + 1, h => ⟨h.1, LR.take n h.2⟩
theorem LR.drop {R : Value → Value → Prop} : ∀ {xs ys : List Value} (n : Nat), LR R xs ys → LR R (xs.drop n) (ys.drop n)
 | [], [], _, _ => by simp [LR]
 | _ :: _, _ :: _, 0, h => h
 | _ :: _, _ :: _, n + 1, h => LR.drop n h.2
theorem LR.extract {R : Value → Value → Prop} {xs ys : Array Value} (i j : Nat) (h : LR R xs.toList ys.toList) : LR R (xs.extract i j).toList (ys.extract i j).toList := by
 rw [Array.toList_extract, Array.toList_extract, List.extract_eq_take_drop, List.extract_eq_take_drop]
 exact LR.take _ (LR.drop _ h)
theorem LR.arr {R : Value → Value → Prop} {xs ys : Array Value} {i : Nat} {x : Value} (h : LR R xs.toList ys.toList) (e : xs[i]? = some x) : ∃ y, ys[i]? = some y ∧ R x y := by
 obtain ⟨y, hy, k⟩ := LR.at (i := i) (x := x) h (by rw [Array.getElem?_toList]; exact e)
 rw [Array.getElem?_toList] at hy
 exact ⟨y, hy, k⟩
theorem LR.none {R : Value → Value → Prop} {xs ys : Array Value} {i : Nat} (h : LR R xs.toList ys.toList) (e : xs[i]? = none) : ys[i]? = none := by
 have := LR.len h
 simp at this e ⊢
 omega
theorem sr_asAgg {x y : Value} (h : V p x y) : SR P (fun q a b => LR (V q) a.toList b.toList) p (asAgg x) (asAgg y) := by
 obtain ⟨n, h⟩ := h.split
 cases x with
 | agg a =>
  cases y <;> simp only [VR] at h
  exact LR.v h
 | _ => exact sr_halt
theorem sr_part (t : TypeId) {xs ys : Array Value} (h : LR (V p) xs.toList ys.toList) (off : Nat) : SR P (fun q a b => V q a b) p (part t xs off) (part t ys off) := by
 refine sr_bind (pl_isAgg t).sr (fun q x y l e => ?_)
 subst e
 have h := LR.mono (fun _ _ k => V.le l k) h
 cases x with
 | true =>
  refine sr_bind (pl_sizeOf t).sr (fun q2 x y l2 e => ?_)
  subst e
  exact V.agg (LR.extract _ _ (LR.mono (fun _ _ k => V.le l2 k) h))
 | false =>
  simp only [Bool.false_eq_true, if_false]
  cases e : xs[off]? with
  | none => exact sr_halt
  | some v =>
   obtain ⟨u, e2, k⟩ := LR.arr h e
   rw [e2]
   exact sr_pure k
theorem sr_field (t : TypeId) {x y : Value} (h : V p x y) (i : Nat) : SR P (fun q a b => V q a b) p (Instr.field t x i) (Instr.field t y i) := by
 refine sr_bind (pl_underlying t).sr (fun q d d' l e => ?_)
 subst e
 split
 ·split
  ·exact sr_bind (sr_asAgg (h.le l)) (fun q2 a b l2 k => sr_part _ k _)
  ·exact sr_halt
 ·exact sr_halt
theorem sr_index (t : TypeId) {x y i j : Value} (h : V p x y) (k : V p i j) : SR P (fun q a b => V q a b) p (Instr.index t x i) (Instr.index t y j) := by
 refine sr_bind (sr_asIntOf k) (fun q c c' l e => ?_)
 subst e
 obtain ⟨ki, n⟩ := c
 refine sr_bind (pl_underlying t).sr (fun q2 d d' l2 e => ?_)
 subst e
 have hv := (h.le l).le l2
 obtain ⟨m, hv⟩ := hv.split
 cases x with
 | agg a =>
  cases y <;> simp only [VR] at hv
  split
  ·next e1 e2 =>
   cases e2
   split
   ·refine sr_bind (pl_sizeOf _).sr (fun q3 s s' l3 e => ?_)
    subst e
    exact sr_part _ (LR.mono (fun _ _ k => V.le l3 k) (LR.v hv)) _
   ·exact (nr_boundsPanic _ _ _ _).sr
  ·next e2 => cases e2
  ·exact sr_halt
 | string s =>
  cases y <;> simp only [VR] at hv
  subst hv
  split
  ·next e2 => cases e2
  ·next e2 =>
   cases e2
   split
   ·exact sr_pure (V.int _ _ _)
   ·exact (nr_boundsPanic _ _ _ _).sr
  ·exact sr_halt
 | _ =>
  split
  ·next e2 => cases e2
  ·next e2 => cases e2
  ·exact sr_halt
theorem sr_asAddr {x y : Value} (h : V p x y) : SR P (fun q a b => AR q a b) p (asAddr x) (asAddr y) := by
 obtain ⟨n, h⟩ := h.split
 cases x with
 | pointer a =>
  cases y with
  | pointer b =>
   cases a <;> cases b <;> simp only [VR, OAR] at h
   ·exact nr_nilDeref.sr
   ·exact h
  | _ => simp only [VR] at h
 | _ => exact sr_halt
def OVR (p : Ren) : Option Value → Option Value → Prop
 | none, none => True
 | some a, some b => V p a b
 | _, _ => False
theorem OVR.le {p q : Ren} {a b : Option Value} (h : OVR p a b) (l : Le p q) : OVR q a b := by
 cases a <;> cases b <;> simp only [OVR] at *
 exact V.le l h
theorem sr_sliceBound {x y : Value} (h : V p x y) (n : Nat) (c : BoundsCode) : SR P (fun q a b => a = b) p (Instr.sliceBound x n c) (Instr.sliceBound y n c) := by
 refine sr_bind (sr_asIntOf h) (fun q a b l e => ?_)
 subst e
 dsimp only
 split
 ·rfl
 ·exact (nr_boundsPanic _ _ _ _).sr
theorem sr_sliceBounds (s : Bool) (len cap : Nat) {a a' b b' c c' : Option Value} (ha : OVR p a a') (hb : OVR p b b') (hc : OVR p c c') : SR P (fun q x y => x = y) p (Instr.sliceBounds s len cap a b c) (Instr.sliceBounds s len cap a' b' c') := by
 unfold Instr.sliceBounds
 cases c <;> cases c' <;> (try (simp only [OVR] at hc; done)) <;> cases b <;> cases b' <;> (try (simp only [OVR] at hb; done)) <;> cases a <;> cases a' <;> (try (simp only [OVR] at ha; done)) <;>
  dsimp only [Option.isSome] <;>
  (repeat' first
   | exact sr_halt
   | exact sr_pure rfl
   | (refine sr_bind (sr_sliceBound (by assumption) _ _) (fun q x y l e => ?_)
      subst e
      replace ha := OVR.le ha l
      replace hb := OVR.le hb l
      replace hc := OVR.le hc l)
   | (refine sr_bind (sr_pure (Q := fun _ x y => x = y) rfl) (fun q x y l e => ?_)
      subst e
      replace ha := OVR.le ha l
      replace hb := OVR.le hb l
      replace hc := OVR.le hc l))
theorem sr_slice (t : TypeId) {x y : Value} (h : V p x y) {a a' b b' c c' : Option Value} (ha : OVR p a a') (hb : OVR p b b') (hc : OVR p c c') : SR P (fun q x y => V q x y) p (Instr.slice t x a b c) (Instr.slice t y a' b' c') := by
 refine sr_bind (pl_underlying t).sr (fun q d d' l e => ?_)
 subst e
 have h := h.le l
 have ha := ha.le l
 have hb := hb.le l
 have hc := hc.le l
 have hi : c.isSome = c'.isSome := by cases c <;> cases c' <;> simp only [OVR] at hc <;> rfl
 have hv := h
 obtain ⟨m, hv⟩ := hv.split
 cases d with
 | pointer arr =>
  refine sr_bind (sr_asAddr h) (fun q2 a0 b0 l2 ka => ?_)
  refine sr_bind (pl_underlying arr).sr (fun q3 d d' l3 e => ?_)
  subst e
  split
  ·refine sr_bind (sr_sliceBounds _ _ _ ((ha.le l2).le l3) ((hb.le l2).le l3) ((hc.le l2).le l3)) (fun q4 z z' l4 e => ?_)
   subst e
   obtain ⟨i, j, k⟩ := z
   dsimp only
   refine sr_bind (pl_sizeOf _).sr (fun q5 s s' l5 e => ?_)
   subst e
   have ka := ((ka.le l3).le l4).le l5
   refine sr_pure (V.slice ?_)
   show AR q5 _ _
   split
   ·exact ka
   ·exact ka.add _
  ·exact sr_halt
 | string =>
  cases x with
  | string s =>
   cases y <;> simp only [VR] at hv
   subst hv
   simp only [hi]
   split
   ·exact sr_halt
   ·refine sr_bind (sr_sliceBounds _ _ _ ha hb (by trivial)) (fun q4 z z' l4 e => ?_)
    subst e
    exact sr_pure ⟨1, rfl⟩
  | _ => exact sr_halt
 | slice elem =>
  cases x with
  | slice a0 len cap =>
   cases y with
   | slice b0 len' cap' =>
    obtain ⟨h1, rfl, rfl⟩ := hv
    refine sr_bind (sr_sliceBounds _ _ _ ha hb hc) (fun q4 z z' l4 e => ?_)
    subst e
    obtain ⟨i, j, k⟩ := z
    dsimp only
    refine sr_bind (pl_sizeOf _).sr (fun q5 s s' l5 e => ?_)
    subst e
    have ka := (h1.le l4).le l5
    refine sr_pure (V.slice ?_)
    split
    ·exact ka
    ·cases a0 <;> cases b0 <;> simp only [OAR, Option.map] at ka ⊢
     exact ka.add _
   | _ => simp only [VR] at hv
  | _ => exact sr_halt
 | _ => exact sr_halt
theorem sr_sliceAt (t : TypeId) {x y : Value} (h : V p x y) {a a' b b' c c' : Option Value} (ha : OVR p a a') (hb : OVR p b b') (hc : OVR p c c') : SR P (fun q x y => V q x y) p (Instr.sliceAt t x a b c) (Instr.sliceAt t y a' b' c') := by
 refine sr_bind (pl_underlying t).sr (fun q d d' l e => ?_)
 subst e
 have h := h.le l
 have ha := ha.le l
 have hb := hb.le l
 have hc := hc.le l
 split
 ·refine sr_bind (sr_sureAddr h) (fun q2 a0 b0 l2 ka => ?_)
  refine sr_bind (sr_sliceBounds _ _ _ (ha.le l2) (hb.le l2) (hc.le l2)) (fun q4 z z' l4 e => ?_)
  subst e
  obtain ⟨i, j, k⟩ := z
  dsimp only
  refine sr_bind (pl_sizeOf _).sr (fun q5 s s' l5 e => ?_)
  subst e
  have ka := (ka.le l4).le l5
  refine sr_pure (V.slice ?_)
  show AR q5 _ _
  split
  ·exact ka
  ·exact ka.add _
 ·exact sr_slice t h ha hb hc
theorem sr_alloc (hz : Zero P) (t : TypeId) : SR P (fun q a b => V q a b) p (Instr.alloc t true (.tuple #[])) (Instr.alloc t true (.tuple #[])) := by
 refine sr_bind (sr_zero hz t) (fun q z z' l e => ?_)
 obtain ⟨rfl, k⟩ := e
 exact sr_bind (sr_newVar t k) (fun q2 a b l2 ka => V.pointer ka)
theorem LR.map {q : Ren} {f : Nat → Value} (h : ∀ i, V q (f i) (f i)) : ∀ l : List Nat, LR (V q) (l.map f) (l.map f)
 | [] => trivial
 | i :: l => ⟨h i, LR.map h l⟩
theorem V.dflt (q : Ren) : V q (default : Value) (default : Value) := ⟨1, rfl⟩
theorem LR.rounds {q : Ren} {z : Array Value} (h : LR (V q) z.toList z.toList) (n : Nat) : LR (V q) ((Array.range n).map (fun i => z[i % z.size]!)).toList ((Array.range n).map (fun i => z[i % z.size]!)).toList := by
 simp only [Array.toList_map]
 refine LR.map (fun i => ?_) _
 cases e : z[i % z.size]? with
 | none => rw [getElem!_def, e]; exact V.dflt q
 | some v =>
  obtain ⟨y, e2, k⟩ := LR.arr h e
  rw [e] at e2
  cases e2
  rw [getElem!_def, e]
  exact k
end
end Go.Proofs.Ytpeoabopeihadaa.Sim
/- Slices made, rows and structs built, operators and conversions, at related values. No program of the project in this text. -/
namespace Go.Proofs.Ytpeoabopeihadaa.Sim
open Go
section
variable [Glob] {P : Program} {p : Ren}
theorem Nr.bind {α β : Type} {f : α → Sem β} : ∀ {s : Sem α}, Nr P s → Nr P (s >>= f) := by
 intro s
 show _ → Nr P (s.bind f)
 induction s with
 | pure a => intro h; exact h.elim
 | program k ih => intro h; simp only [Nr, Sem.bind] at h ⊢; exact ⟨ih P h.1, by rw [h.2]⟩
 | choose q k ih => intro h; simp only [Nr, Sem.bind] at h ⊢; exact fun n => ih n (h n)
 | mark m k ih => intro h; simp only [Nr, Sem.bind] at h ⊢; exact ⟨h.1, ih h.2⟩
 | halt x => intro h; exact h
 | _ => intro h; simp [Nr] at h
theorem sr_rounds (elem : TypeId) {z : Array Value} (h : LR (V p) z.toList z.toList) (n l c : Nat) : SR P (fun q a b => V q a b) p (newRow elem ((Array.range n).map (fun i => z[i % z.size]!)) >>= fun a => pure (Value.slice (some a) l c)) (newRow elem ((Array.range n).map (fun i => z[i % z.size]!)) >>= fun a => pure (Value.slice (some a) l c)) :=
 sr_bind (sr_newRow elem (LR.rounds h n)) (fun q a b _ k => V.slice (a := some a) (b := some b) k)
theorem sr_makeSlice (hz : Zero P) (t : TypeId) {x y i j : Value} (h : V p x y) (k : V p i j) : SR P (fun q a b => V q a b) p (Instr.makeSlice t x i) (Instr.makeSlice t y j) := by
 refine sr_bind (pl_underlying t).sr (fun q d d' l e => ?_)
 subst e
 split
 ·refine sr_bind (sr_asInt (h.le l)) (fun q2 n n' l2 e => ?_)
  subst e
  refine sr_bind (sr_asInt ((k.le l).le l2)) (fun q3 m m' l3 e => ?_)
  subst e
  refine sr_bind (pl_typeInfo _).sr (fun q4 ti ti' l4 e => ?_)
  subst e
  dsimp only
  split
  ·split
   ·exact (Nr.bind (nr_error _)).sr
   ·split
    ·exact (Nr.bind (nr_error _)).sr
    ·refine sr_bind (pl_choose _).sr (fun q5 z z' l5 e => ?_)
     subst e
     exact (Nr.bind (nr_error _)).sr
  ·refine sr_bind (pl_askRoom _).sr (fun q5 _ _ l5 _ => ?_)
   refine sr_bind (pl_sizeOf _).sr (fun q6 s s' l6 e => ?_)
   subst e
   split
   ·exact sr_rounds _ (z := #[]) trivial _ _ _
   ·refine sr_bind (sr_zero hz _) (fun q7 z z' l7 e => ?_)
    obtain ⟨rfl, kz⟩ := e
    exact sr_rounds _ (z := z.cells) kz.cells _ _ _
 ·exact sr_halt
def PR (p : Ren) : List (Nat × Value) → List (Nat × Value) → Prop
 | [], [] => True
 | (i, x) :: xs, (j, y) :: ys => i = j ∧ V p x y ∧ PR p xs ys
 | _, _ => False
theorem PR.le {p q : Ren} (l : Le p q) : ∀ {xs ys : List (Nat × Value)}, PR p xs ys → PR q xs ys
 | [], [], _ => trivial
 | _ :: _, _ :: _, h => ⟨h.1, h.2.1.le l, PR.le l h.2.2⟩
theorem LR.puts {R : Value → Value → Prop} (off : Nat) : ∀ {xs ys : List Value} (i : Nat) {cs ds : Array Value}, LR R xs ys → LR R cs.toList ds.toList →
  LR R ((xs.zipIdx i).foldl (fun cs (c, j) => cs.setIfInBounds (off + j) c) cs).toList ((ys.zipIdx i).foldl (fun cs (c, j) => cs.setIfInBounds (off + j) c) ds).toList
 | [], [], _, _, _, _, k => k
 | x :: xs, y :: ys, i, cs, ds, h, k => by
  simp only [List.zipIdx_cons, List.foldl_cons]
  refine LR.puts off (i + 1) h.2 ?_
  rw [toList_set, toList_set]
  exact LR.set _ k h.1
theorem fill_rel {q : Ren} (place : Nat → Option (Nat × Nat)) : ∀ {xs ys : List (Nat × Value)} {cs ds : Array Value}, PR q xs ys → LR (V q) cs.toList ds.toList → ∀ r, Instr.fill place cs xs = some r → ∃ r', Instr.fill place ds ys = some r' ∧ LR (V q) r.toList r'.toList
 | [], [], cs, ds, _, h, r, e => by
  simp only [Instr.fill, Option.some.injEq] at e ⊢
  subst e
  exact ⟨ds, rfl, h⟩
 | (i, x) :: xs, (j, y) :: ys, cs, ds, k, h, r, e => by
  obtain ⟨rfl, k1, k2⟩ := k
  simp only [Instr.fill] at e ⊢
  cases hp : place i with
  | none => simp [hp] at e
  | some z =>
   obtain ⟨off, size⟩ := z
   simp only [hp] at e ⊢
   have l1 := LR.len k1.cells
   have l2 := LR.len h
   simp only [Array.length_toList] at l1 l2
   rw [← l1, ← l2]
   split at e
   ·cases e
   ·next hc =>
    rw [if_neg hc]
    refine fill_rel place k2 ?_ r e
    rw [← Array.foldl_toList, ← Array.foldl_toList, Array.toList_zipIdx, Array.toList_zipIdx]
    exact LR.puts off 0 k1.cells h
theorem Pl.list {α β : Type} {f : α → Sem β} (h : ∀ a, Pl P (f a)) : ∀ l : List α, Pl P (l.mapM f)
 | [] => by simp [pure, Pl]
 | a :: l => by
  rw [List.mapM_cons]
  exact Pl.bind (h a) (fun b => Pl.bind (Pl.list h l) (fun _ => trivial))
theorem Pl.arr {α β : Type} {f : α → Sem β} (h : ∀ a, Pl P (f a)) (l : Array α) : Pl P (l.mapM f) := by
 rw [Array.mapM_eq_mapM_toList]
 rw [← bind_pure_comp]
 exact Pl.bind (Pl.list h _) (fun _ => trivial)
theorem sr_fill {q : Ren} (place : Nat → Option (Nat × Nat)) {xs ys : List (Nat × Value)} {cs ds : Array Value} (k : PR q xs ys) (h : LR (V q) cs.toList ds.toList) {β : Type} {Q : Ren → β → β → Prop} {f g : Array Value → Sem β} {m : String}
  (hf : ∀ r r', LR (V q) r.toList r'.toList → SR P Q q (f r) (g r')) : SR P Q q (match Instr.fill place cs xs with | some r => f r | _ => stuck m) (match Instr.fill place ds ys with | some r => g r | _ => stuck m) := by
 cases e : Instr.fill place cs xs with
 | none => exact sr_halt
 | some r =>
  obtain ⟨r', e2, k2⟩ := fill_rel place k h r e
  rw [e2]
  exact hf r r' k2
theorem sr_build (hz : Zero P) (t : TypeId) {xs ys : Array (Nat × Value)} (h : PR p xs.toList ys.toList) : SR P (fun q a b => V q a b) p (Instr.build t xs) (Instr.build t ys) := by
 refine sr_bind (sr_zero hz t) (fun q z z' l e => ?_)
 obtain ⟨rfl, kz⟩ := e
 refine sr_bind (pl_underlying t).sr (fun q2 d d' l2 e => ?_)
 subst e
 have h := (h.le l).le l2
 have kz := kz.le l2
 split
 ·refine sr_bind (Pl.arr (fun f => Pl.bind (pl_sizeOf _) (fun _ => pl_pure _)) _).sr (fun q3 s s' l3 e => ?_)
  subst e
  exact sr_fill _ (h.le l3) (kz.le l3).cells (fun r r' k => sr_pure (V.agg k))
 ·refine sr_bind (pl_sizeOf _).sr (fun q3 s s' l3 e => ?_)
  subst e
  exact sr_fill _ (h.le l3) (kz.le l3).cells (fun r r' k => sr_pure (V.agg k))
 ·exact sr_halt
theorem sr_buildSlice (hz : Zero P) (t : TypeId) (n : Nat) {xs ys : Array (Nat × Value)} (h : PR p xs.toList ys.toList) : SR P (fun q a b => V q a b) p (Instr.buildSlice t n xs) (Instr.buildSlice t n ys) := by
 refine sr_bind (pl_underlying t).sr (fun q2 d d' l2 e => ?_)
 subst e
 have h := h.le l2
 split
 ·next elem =>
  refine sr_bind (pl_sizeOf _).sr (fun q3 s s' l3 e => ?_)
  subst e
  have h := h.le l3
  dsimp only
  split
  ·exact sr_halt
  ·split
   ·exact sr_fill _ h (LR.rounds (z := #[]) (by trivial) _) (fun r r' k => sr_bind (sr_newRow elem k) (fun q a b _ k => V.slice (a := some a) (b := some b) k))
   ·refine sr_bind (sr_zero hz _) (fun q7 z z' l7 e => ?_)
    obtain ⟨rfl, kz⟩ := e
    exact sr_fill _ (h.le l7) (LR.rounds kz.cells _) (fun r r' k => sr_bind (sr_newRow elem k) (fun q a b _ k => V.slice (a := some a) (b := some b) k))
 ·exact sr_halt
end
end Go.Proofs.Ytpeoabopeihadaa.Sim
/- Operators and conversions, at related values. No program of the project in this text. -/
namespace Go.Proofs.Ytpeoabopeihadaa.Sim
open Go
section
variable [Glob] {P : Program} {p : Ren}
theorem V.str (p : Ren) (s : ByteArray) : V p (.string s) (.string s) := ⟨1, rfl⟩
theorem sr_under (t : TypeId) : SR P (fun _ a b => a = b ∧ P.underlying t = some a) p (underlying t) (underlying t) := by
 have e2 : (co P).underlying t = P.underlying t := rfl
 cases e : P.underlying t <;> rw [e] at e2 <;> simp [underlying, program, bind, Sem.bind, SR, e, e2, stuck, pure, okHalt]
theorem sr_info (t : TypeId) : SR P (fun _ a b => a = b ∧ P.info? t = some a) p (typeInfo t) (typeInfo t) := by
 have e2 : (co P).info? t = P.info? t := rfl
 cases e : P.info? t <;> rw [e] at e2 <;> simp [typeInfo, program, bind, Sem.bind, SR, e, e2, stuck, pure, okHalt]
def okType (P : Program) (t : TypeId) : Bool :=
 (match P.info? t with
  | some i => (match i.desc with | .named n _ => n != "sync.copyChecker" | _ => true)
  | none => true) &&
 match P.underlying t with
 | some (.int _) | some .bool | some .string | some (.slice _) | some (.func _ _ _) => true
 | _ => false
theorem sr_numberAt {r s : Nat} (h : p r = some s) : SR P (fun q a b => (a = none ∧ b = none) ∨ ∃ x y l, a = some (x, l) ∧ b = some (y, l) ∧ AR q x y) p (numberAt r) (numberAt s) := by
 refine sr_bind (sr_shape h) (fun q a b l e => ?_)
 subst e
 split
 ·exact sr_pure (.inl ⟨rfl, rfl⟩)
 ·refine ⟨l _ _ h, fun a a' z ha => ?_⟩
  exact .inr ⟨a, a', z, rfl, rfl, ha⟩
theorem sr_behind {a b : Addr} (h : AR p a b) : SR P (fun q x y => AR q x.1 y.1 ∧ x.2 = y.2) p (behindNumber a) (behindNumber b) := by
 refine sr_bind (sr_numberAt h.1) (fun q x y l e => ?_)
 rcases e with ⟨rfl, rfl⟩ | ⟨x, y, z, rfl, rfl, k⟩
 ·exact sr_pure ⟨h.le l, rfl⟩
 ·exact sr_pure ⟨k, rfl⟩
theorem sr_asNumber {a b : Addr} (h : AR p a b) (l : Bool) : SR P (fun q x y => V q x y) p (asNumber a l) (asNumber b l) := by
 refine sr_bind (Q := fun q b c => q b = some c ∧ Glob.size ≤ b ∧ Glob.size ≤ c) ⟨.inr ⟨a, b, l, rfl, rfl, h⟩, fun b c g _ _ => ⟨ext_at p b c, g⟩⟩ (fun q x y l e => ?_)
 exact sr_pure (V.pointer (a := some _) (b := some _) ⟨e.1, rfl, rfl, fun k => absurd (show x < Glob.size ∨ y < Glob.size from k) (by have := e.2; omega)⟩)
theorem sr_twoPlaces (hG : Glob.size = P.globals.size) {a a' b b' : Addr} (h : AR p a a') (k : AR p b b') : SR P (fun q x y => x = y) p (Op.twoPlaces a b) (Op.twoPlaces a' b') := by
 refine sr_program ?_ rfl
 have l := Le.refl p
 obtain ⟨y, hy⟩ : ∃ y, y = P := ⟨P, rfl⟩
 subst hy
 by_cases e1 : a.block = b.block
 ·by_cases e2 : a.block < y.globals.size
  ·have e3 : a'.block = a.block := h.2.2.2 (by omega)
   have e4 : b'.block = b.block := k.2.2.2 (by omega)
   have c1 : (a.block != b.block || decide (a.block ≥ y.globals.size)) = false := by simp [e1]; omega
   have c2 : (a'.block != b'.block || decide (a'.block ≥ y.globals.size)) = false := by simp [e3, e4, e1]; omega
   simp only [c1, c2, Bool.false_eq_true, if_false]
   refine sr_bind (sr_byteOf (h.le l)) (fun q2 x2 y2 l2 e => ?_)
   subst e
   refine sr_bind (sr_byteOf ((k.le l).le l2)) (fun q3 x3 y3 l3 e => ?_)
   subst e
   exact sr_pure rfl
  ·have c1 : (a.block != b.block || decide (a.block ≥ y.globals.size)) = true := by simp; omega
   simp only [c1, if_true]
   exact sr_halt
 ·have c1 : (a.block != b.block || decide (a.block ≥ y.globals.size)) = true := by simp [e1]
  simp only [c1, if_true]
  exact sr_halt
theorem sr_addrSub (hG : Glob.size = P.globals.size) (ki : IntKind) {a a' b b' : Addr} (h : AR p a a') (k : AR p b b') : SR P (fun q x y => V q x y) p (Op.addrSub ki a b) (Op.addrSub ki a' b') := by
 refine sr_bind (sr_twoPlaces hG h k) (fun q x y l e => ?_)
 subst e
 exact sr_pure (V.int _ _ _)
theorem sr_addrCmp (hG : Glob.size = P.globals.size) (op : BinOp) {a a' b b' : Addr} (h : AR p a a') (k : AR p b b') : SR P (fun q x y => V q x y) p (Op.addrCmp op a b) (Op.addrCmp op a' b') := by
 refine sr_bind (sr_twoPlaces hG h k) (fun q x y l e => ?_)
 subst e
 cases op <;> first | exact sr_pure (V.bool _ _) | exact sr_halt
theorem sr_addrMod (ki : IntKind) {a a' : Addr} (h : AR p a a') (n : Int) : SR P (fun q x y => V q x y) p (Op.addrMod ki a n) (Op.addrMod ki a' n) := by
 refine sr_bind (sr_shape h.1) (fun q x y l e => ?_)
 subst e
 split
 ·refine sr_bind (pl_typeInfo _).sr (fun q2 x2 y2 l2 e => ?_)
  subst e
  dsimp only
  split
  ·exact sr_halt
  ·refine sr_bind (sr_byteOf ((h.le l).le l2)) (fun q3 x3 y3 l3 e => ?_)
   subst e
   exact sr_pure (V.int _ _ _)
 ·exact sr_halt
theorem sr_unsafeAdd (t : TypeId) {a a' : Option Addr} (h : OAR p a a') {x y : Value} (k : V p x y) : SR P (fun q x y => V q x y ∧ (∀ b, x = .pointer (some b) → ∃ c, y = .pointer (some c) ∧ AR q b c) ∧ ∃ z, x = .pointer z) p (Builtin.unsafeAdd_ #[] t #[.pointer a, x]) (Builtin.unsafeAdd_ #[] t #[.pointer a', y]) := by
 refine sr_bind (sr_asInt k) (fun q n n' l e => ?_)
 subst e
 have h := h.le l
 cases a with
 | none =>
  dsimp only
  split
  ·exact sr_halt
  ·split <;> exact sr_halt
 | some a =>
  cases a' with
  | none => simp only [OAR] at h
  | some b =>
   have h : AR q a b := h
   dsimp only
   split
   ·refine sr_bind (sr_viewAt h.1) (fun q2 x2 y2 l2 e => ?_)
    obtain ⟨rfl, rfl⟩ := e
    have h := h.le l2
    exact sr_pure ⟨V.pointer (a := some _) (b := some _) h, fun c e => by cases e; exact ⟨b, rfl, h⟩, _, rfl⟩
   ·split
    ·exact sr_halt
    ·refine sr_bind (sr_shape h.1) (fun q2 x2 y2 l2 e => ?_)
     subst e
     split
     ·refine sr_program ?_ (by simp only [co_depth, co_cells, co_bytes, co_cellAtBytes])
      obtain ⟨q3, l3⟩ : ∃ q3, q3 = q2 := ⟨q2, rfl⟩
      subst l3
      have l3 := Le.refl q3
      rw [← h.2.1]
      split
      ·next off _ =>
       have h := (h.le l2).le l3
       have h2 : AR q3 { a with off := off } { b with off := off } := ⟨h.1, rfl, h.2.2.1, h.2.2.2⟩
       exact sr_pure ⟨V.pointer (a := some _) (b := some _) h2, fun c e => by cases e; exact ⟨_, rfl, h2⟩, _, rfl⟩
      ·exact sr_halt
     ·exact sr_halt
theorem sr_movedNumber (t : TypeId) (ht : ∀ d, P.underlying t = some d → d ≠ .unsafePointer) {x x' y y' : Value} (h : V p x x') (k : V p y y') : SR P (fun q x y => V q x y) p (movedNumber t x y) (movedNumber t x' y') := by
 refine sr_bind (sr_under t) (fun q d d' l e => ?_)
 obtain ⟨rfl, e⟩ := e
 have hd := ht _ e
 replace h := h.le l
 replace k := k.le l
 dsimp only
 refine sr_ite (fun hc => sr_halt) (fun hc => ?_)
 clear hc hd e
 obtain ⟨m, hv⟩ := h.split
 cases x with
 | pointer a =>
  cases x' with
  | pointer b =>
   cases a <;> cases b <;> simp only [VR, OAR] at hv
   ·exact (sr_unsafeAdd t (a := none) (a' := none) trivial k).post (fun _ _ _ _ e => e.1)
   ·refine sr_bind (sr_behind hv) (fun q2 z z' l2 e => ?_)
    obtain ⟨e1, e2⟩ := e
    obtain ⟨z1, z2⟩ := z
    obtain ⟨z1', z2'⟩ := z'
    dsimp only at e1 e2 ⊢
    subst e2
    refine sr_bind (sr_unsafeAdd t (a := some _) (a' := some _) e1 (k.le l2)) (fun q3 v v' l3 e => ?_)
    obtain ⟨e3, e4, z5, ez⟩ := e
    split
    ·next b =>
     obtain ⟨c, rfl, hc⟩ := e4 b rfl
     exact sr_asNumber hc _
    ·next hn =>
     split
     ·next c =>
      exfalso
      subst ez
      obtain ⟨m2, e3⟩ := e3.split
      cases z5 with
      | none => simp only [VR, OAR] at e3
      | some w => exact hn w rfl
     ·exact sr_pure e3
  | _ => simp only [VR] at hv
 | _ => cases x' <;> exact sr_halt
end
end Go.Proofs.Ytpeoabopeihadaa.Sim
/- Comparisons, operators and conversions, at related values. No program of the project in this text. -/
namespace Go.Proofs.Ytpeoabopeihadaa.Sim
open Go
section
variable [Glob] {P : Program} {p : Ren}
theorem ok_not {t : TypeId} (h : okType P t = true) : ∀ d, P.underlying t = some d → d ≠ .unsafePointer := by
 intro d e q
 subst q
 simp [okType, e] at h
theorem ok_chk {t : TypeId} (h : okType P t = true) {i : TypeInfo} (e : P.info? t = some i) : ∀ u, i.desc ≠ .named "sync.copyChecker" u := by
 intro u q
 simp [okType, e, q] at h
theorem under_at {α β : Type} {Q : Ren → α → β → Prop} {t : TypeId} {c : TypeDesc} (e : P.underlying t = some c) {f : TypeDesc → Sem α} {g : TypeDesc → Sem β} (h : SR P Q p (f c) (g c)) : SR P Q p (underlying t >>= f) (underlying t >>= g) := by
 have e2 : (co P).underlying t = some c := e
 simp only [underlying, program, bind, Sem.bind, SR, e, e2]
 exact .inl ⟨h, trivial⟩
theorem eq_pi {d : Nat} {t : TypeId} {ki : IntKind} (e : P.underlying t = some (.int ki)) {a a' : Option Addr} {b b' : Addr} {k : IntKind} {n : Int} (h : AR p b b') : SR P (fun _ a b => a = b) p (Op.equalIn (d + 1) t (.pointer (some b)) (.int k n)) (Op.equalIn (d + 1) t (.pointer (some b')) (.int k n)) := by
 unfold Op.equalIn
 refine under_at e ?_
 cases n with
 | ofNat n =>
  cases n with
  | zero => exact sr_pure rfl
  | succ n => exact sr_halt
 | negSucc n => exact sr_halt
theorem eq_ip {d : Nat} {t : TypeId} {ki : IntKind} (e : P.underlying t = some (.int ki)) {a a' : Option Addr} {b b' : Addr} {k : IntKind} {n : Int} (h : AR p b b') : SR P (fun _ a b => a = b) p (Op.equalIn (d + 1) t (.int k n) (.pointer (some b))) (Op.equalIn (d + 1) t (.int k n) (.pointer (some b'))) := by
 unfold Op.equalIn
 refine under_at e ?_
 cases n with
 | ofNat n =>
  cases n with
  | zero => exact sr_pure rfl
  | succ n => exact sr_halt
 | negSucc n => exact sr_halt
theorem eq_pp (hG : Glob.size = P.globals.size) {d : Nat} {t : TypeId} (ht : okType P t = true) {ki : IntKind} (e : P.underlying t = some (.int ki)) {a a' b b' : Addr} (h : AR p a a') (k : AR p b b') : SR P (fun _ a b => a = b) p (Op.equalIn (d + 1) t (.pointer (some a)) (.pointer (some b))) (Op.equalIn (d + 1) t (.pointer (some a')) (.pointer (some b'))) := by
 unfold Op.equalIn
 refine under_at e ?_
 refine sr_bind (sr_behind h) (fun q2 z z' l2 e1 => ?_)
 refine sr_bind (sr_behind (k.le l2)) (fun q3 w w' l3 e2 => ?_)
 have e1 := e1.1.le l3
 have e2 := e2.1
 refine sr_program ?_ rfl
 have l4 := Le.refl q3
 obtain ⟨y, hy⟩ : ∃ y, y = P := ⟨P, rfl⟩
 subst hy
 have e1 := e1.le l4
 have e2 := e2.le l4
 by_cases c : z.1.block = w.1.block ∧ z.1.block < y.globals.size
 ·obtain ⟨c1, c2⟩ := c
  have e3 : z'.1.block = z.1.block := e1.2.2.2 (by omega)
  have e4 : w'.1.block = w.1.block := e2.2.2.2 (by omega)
  have d1 : (z.1.block == w.1.block && decide (z.1.block < y.globals.size)) = true := by simp [c1]; omega
  have d2 : (z'.1.block == w'.1.block && decide (z'.1.block < y.globals.size)) = true := by simp [e3, e4, c1]; omega
  rw [if_pos d1, if_pos d2]
  refine sr_bind (sr_byteOf e1) (fun q5 x2 y2 l5 e => ?_)
  subst e
  refine sr_bind (sr_byteOf (e2.le l5)) (fun q6 x3 y3 l6 e => ?_)
  subst e
  exact sr_pure rfl
 ·have d1 : ¬(z.1.block == w.1.block && decide (z.1.block < y.globals.size)) = true := by simpa using c
  have d2 : ¬(z'.1.block == w'.1.block && decide (z'.1.block < y.globals.size)) = true := by
   simp only [Bool.and_eq_true, beq_iff_eq, decide_eq_true_eq]
   intro x
   have e3 : z'.1.block = z.1.block := e1.2.2.2 (by omega)
   have e4 : w'.1.block = w.1.block := e2.2.2.2 (by omega)
   omega
  rw [if_neg d1, if_neg d2]
  refine sr_bind (sr_info t) (fun q5 i i' l5 e5 => ?_)
  obtain ⟨rfl, e5⟩ := e5
  have no := ok_chk ht e5
  split
  ·next e6 => exact absurd e6 (no _)
  ·exact sr_halt
theorem eq_int (hG : Glob.size = P.globals.size) {d : Nat} {t : TypeId} (ht : okType P t = true) {ki : IntKind} (e : P.underlying t = some (.int ki)) {x x' y y' : Value} (h : V p x x') (k : V p y y') : SR P (fun _ a b => a = b) p (Op.equalIn (d + 1) t x y) (Op.equalIn (d + 1) t x' y') := by
 obtain ⟨m, h⟩ := h.split
 obtain ⟨n, k⟩ := k.split
 cases x with
 | int k1 a =>
  cases x' <;> simp only [VR] at h
  obtain ⟨rfl, rfl⟩ := h
  cases y with
  | int k2 b =>
   cases y' <;> simp only [VR] at k
   obtain ⟨rfl, rfl⟩ := k
   unfold Op.equalIn
   refine under_at e ?_
   dsimp only
   split
   ·exact sr_pure rfl
   ·exact sr_halt
  | pointer b =>
   cases y' with
   | pointer b' =>
    cases b <;> cases b' <;> simp only [VR, OAR] at k
    ·unfold Op.equalIn
     exact under_at e sr_halt
    ·exact eq_ip e (a := none) (a' := none) k
   | _ => simp only [VR] at k
  | _ => unfold Op.equalIn; exact under_at e sr_halt
 | pointer a =>
  cases x' with
  | pointer a' =>
   cases a <;> cases a' <;> simp only [VR, OAR] at h
   ·unfold Op.equalIn
    refine under_at e ?_
    cases y <;> exact sr_halt
   ·cases y with
    | int k2 b =>
     cases y' <;> simp only [VR] at k
     obtain ⟨rfl, rfl⟩ := k
     exact eq_pi e (a := none) (a' := none) h
    | pointer b =>
     cases y' with
     | pointer b' =>
      cases b <;> cases b' <;> simp only [VR, OAR] at k
      ·unfold Op.equalIn
       exact under_at e sr_halt
      ·exact eq_pp hG ht e h k
     | _ => simp only [VR] at k
    | _ => unfold Op.equalIn; exact under_at e sr_halt
  | _ => simp only [VR] at h
 | _ =>
  unfold Op.equalIn
  refine under_at e ?_
  cases y <;> exact sr_halt
theorem eq_bool {d : Nat} {t : TypeId} (e : P.underlying t = some .bool) {x x' y y' : Value} (h : V p x x') (k : V p y y') : SR P (fun _ a b => a = b) p (Op.equalIn (d + 1) t x y) (Op.equalIn (d + 1) t x' y') := by
 obtain ⟨m, h⟩ := h.split
 obtain ⟨n, k⟩ := k.split
 unfold Op.equalIn
 refine under_at e ?_
 cases x with
 | bool a =>
  cases x' <;> simp only [VR] at h
  subst h
  cases y with
  | bool b =>
   cases y' <;> simp only [VR] at k
   subst k
   exact sr_pure rfl
  | _ => exact sr_halt
 | _ => cases y <;> exact sr_halt
theorem eq_string {d : Nat} {t : TypeId} (e : P.underlying t = some .string) {x x' y y' : Value} (h : V p x x') (k : V p y y') : SR P (fun _ a b => a = b) p (Op.equalIn (d + 1) t x y) (Op.equalIn (d + 1) t x' y') := by
 obtain ⟨m, h⟩ := h.split
 obtain ⟨n, k⟩ := k.split
 unfold Op.equalIn
 refine under_at e ?_
 cases x with
 | string a =>
  cases x' <;> simp only [VR] at h
  subst h
  cases y with
  | string b =>
   cases y' <;> simp only [VR] at k
   subst k
   exact sr_pure rfl
  | _ => exact sr_halt
 | _ => cases y <;> exact sr_halt
theorem OAR.isNone {a b : Option Addr} (h : OAR p a b) : a.isNone = b.isNone := by
 cases a <;> cases b <;> simp only [OAR] at h <;> rfl
theorem eq_slice {d : Nat} {t u : TypeId} (e : P.underlying t = some (.slice u)) {x x' y y' : Value} (h : V p x x') (k : V p y y') : SR P (fun _ a b => a = b) p (Op.equalIn (d + 1) t x y) (Op.equalIn (d + 1) t x' y') := by
 obtain ⟨m, h⟩ := h.split
 obtain ⟨n, k⟩ := k.split
 unfold Op.equalIn
 refine under_at e ?_
 cases x with
 | slice a l c =>
  cases x' with
  | slice a' l' c' =>
   cases y with
   | slice b m c =>
    cases y' with
    | slice b' m' c' =>
     have h := h.1
     have k := k.1
     cases a <;> cases a' <;> simp only [OAR] at h
     ·exact sr_pure k.isNone
     ·cases b <;> cases b' <;> simp only [OAR] at k
      ·exact sr_pure rfl
      ·exact sr_halt
    | _ => simp only [VR] at k
   | _ => cases a <;> exact sr_halt
  | _ => simp only [VR] at h
 | _ => cases y <;> exact sr_halt
theorem eq_func {d : Nat} {t : TypeId} {a1 : Array TypeId} {a2 : Array TypeId} {a3 : Bool} (e : P.underlying t = some (.func a1 a2 a3)) {x x' y y' : Value} (h : V p x x') (k : V p y y') : SR P (fun _ a b => a = b) p (Op.equalIn (d + 1) t x y) (Op.equalIn (d + 1) t x' y') := by
 obtain ⟨m, h⟩ := h.split
 obtain ⟨n, k⟩ := k.split
 unfold Op.equalIn
 refine under_at e ?_
 cases x with
 | func f a c =>
  cases x' <;> simp only [VR] at h
  cases y with
  | nilFunc =>
   cases y' <;> simp only [VR] at k
   exact sr_pure rfl
  | _ => exact sr_halt
 | nilFunc =>
  cases x' <;> simp only [VR] at h
  cases y with
  | nilFunc =>
   cases y' <;> simp only [VR] at k
   exact sr_pure rfl
  | func f a c =>
   cases y' <;> simp only [VR] at k
   exact sr_pure rfl
  | _ => exact sr_halt
 | _ => cases y <;> exact sr_halt
theorem sr_equal (hG : Glob.size = P.globals.size) {t : TypeId} (ht : okType P t = true) {x x' y y' : Value} (h : V p x x') (k : V p y y') : SR P (fun _ a b => a = b) p (Op.equal t x y) (Op.equal t x' y') := by
 show SR P _ p (Op.equalIn (9999 + 1) t x y) (Op.equalIn (9999 + 1) t x' y')
 cases e : P.underlying t with
 | none => simp [okType, e] at ht
 | some c =>
  cases c with
  | int ki => exact eq_int hG ht e h k
  | bool => exact eq_bool e h k
  | string => exact eq_string e h k
  | slice u => exact eq_slice e h k
  | func _ _ _ => exact eq_func e h k
  | _ => simp [okType, e] at ht
theorem sr_guardIn {d : Nat} {t : TypeId} (ht : okType P t = true) {x x' y y' : Value} : SR P (fun _ a b => a = false ∧ b = false) p (Op.eqGuardIn (d + 1) t x y) (Op.eqGuardIn (d + 1) t x' y') := by
 unfold Op.eqGuardIn
 cases e : P.underlying t with
 | none => simp [okType, e] at ht
 | some c =>
  refine under_at e ?_
  cases c with
  | int _ => exact sr_pure ⟨rfl, rfl⟩
  | bool => exact sr_pure ⟨rfl, rfl⟩
  | string => exact sr_pure ⟨rfl, rfl⟩
  | slice u => exact sr_pure ⟨rfl, rfl⟩
  | func _ _ _ => exact sr_pure ⟨rfl, rfl⟩
  | _ => simp [okType, e] at ht
theorem guard_else {op : BinOp} {t : TypeId} {o o' : Operand} {a b : Value} (h1 : ¬(a = .nilIface ∧ b = .nilIface)) (h2 : ¬∃ c d, a = .agg c ∧ b = .agg d) : eqGuard op t o o' a b = pure () := by
 cases op <;> first
  | rfl
  | (unfold eqGuard
     simp only [Bool.not_true, Bool.false_eq_true, if_false]
     split
     ·exact absurd ⟨rfl, rfl⟩ h1
     ·exact absurd ⟨_, _, rfl, rfl⟩ h2
     ·rfl)
theorem V.nilIface {x y : Value} (h : V p x y) (hx : ∀ a, x ≠ .tuple a) : x = .nilIface ↔ y = .nilIface := by
 obtain ⟨n, h⟩ := h.split
 constructor
 ·intro e
  subst e
  cases y <;> simp only [VR] at h
  rfl
 ·intro e
  subst e
  cases x <;> simp only [VR] at h
  ·rfl
  ·exact absurd rfl (hx _)
theorem V.isAgg {x y : Value} (h : V p x y) : (∃ c, x = .agg c) ↔ ∃ c, y = .agg c := by
 obtain ⟨n, h⟩ := h.split
 constructor
 ·rintro ⟨c, rfl⟩
  cases y <;> simp only [VR] at h
  exact ⟨_, rfl⟩
 ·rintro ⟨c, rfl⟩
  cases x <;> simp only [VR] at h
  exact ⟨_, rfl⟩
theorem sr_eqGuard {t : TypeId} (ht : okType P t = true) (op : BinOp) (o o' : Operand) {x x' y y' : Value} (h : V p x x') (k : V p y y') (hx : ∀ a, x ≠ .tuple a) (hy : ∀ a, y ≠ .tuple a) : SR P (fun _ _ _ => True) p (eqGuard op t o o' x y) (eqGuard op t o o' x' y') := by
 by_cases c1 : x = .nilIface ∧ y = .nilIface
 ·obtain ⟨rfl, rfl⟩ := c1
  rw [(h.nilIface hx).1 rfl, (k.nilIface hy).1 rfl]
  cases op <;> first
   | exact sr_pure trivial
   | (unfold eqGuard
      simp only [Bool.not_true, Bool.false_eq_true, if_false]
      refine sr_ite (fun _ => sr_pure trivial) (fun _ => ?_)
      refine sr_bind (sr_guardIn (d := 9999) ht) (fun q a b l e => ?_)
      obtain ⟨rfl, rfl⟩ := e
      exact sr_pure trivial)
 ·by_cases c2 : ∃ c d, x = .agg c ∧ y = .agg d
  ·obtain ⟨c, d, rfl, rfl⟩ := c2
   obtain ⟨c', rfl⟩ := h.isAgg.1 ⟨_, rfl⟩
   obtain ⟨d', rfl⟩ := k.isAgg.1 ⟨_, rfl⟩
   cases op <;> first
    | exact sr_pure trivial
    | (unfold eqGuard
       simp only [Bool.not_true, Bool.false_eq_true, if_false]
       refine sr_program ?_ (by simp only [co_eqGuard])
       refine sr_program ?_ (by simp only [co_depth]; rfl)
       split
       ·exact sr_pure trivial
       ·refine sr_bind (sr_guardIn (d := 9999) ht) (fun q a b l e => ?_)
        obtain ⟨rfl, rfl⟩ := e
        exact sr_pure trivial)
  ·rw [guard_else c1 c2, guard_else (fun e => c1 ⟨(h.nilIface hx).2 e.1, (k.nilIface hy).2 e.2⟩) (fun ⟨c, d, e1, e2⟩ => c2 (by
    obtain ⟨c', e3⟩ := h.isAgg.2 ⟨c, e1⟩
    obtain ⟨d', e4⟩ := k.isAgg.2 ⟨d, e2⟩
    exact ⟨c', d', e3, e4⟩))]
   exact sr_pure trivial
theorem sr_intOps (op : BinOp) (t : TypeId) (k k' : IntKind) (a b : Int) : SR P (fun q x y => V q x y) p (binOp op t (.int k a) (.int k' b)) (binOp op t (.int k a) (.int k' b)) := by
 cases op <;> unfold binOp <;> dsimp only <;> (try split) <;> first
  | exact sr_halt
  | exact sr_pure (V.int _ _ _)
  | exact sr_pure (V.bool _ _)
  | (unfold Op.shift; dsimp only; split <;> first | exact (nr_error _).sr | exact sr_pure (V.int _ _ _))
  | (unfold Op.intDiv; dsimp only; split <;> first | exact (nr_error _).sr | exact sr_pure (V.int _ _ _))
  | skip
theorem sr_strOps (op : BinOp) (t : TypeId) (a b : ByteArray) : SR P (fun q x y => V q x y) p (binOp op t (.string a) (.string b)) (binOp op t (.string a) (.string b)) := by
 cases op <;> unfold binOp <;> dsimp only [Op.stringOp] <;> (try split) <;> first
  | exact sr_halt
  | exact sr_pure (V.str _ _)
  | exact sr_pure (V.bool _ _)
  | skip
theorem sr_intToInt (k : IntKind) (n : Int) : SR P (fun q x y => V q x y) p (Conv.intToInt k n) (Conv.intToInt k n) := sr_pure (V.int _ _ _)
theorem sr_unary (op : UnOp) {x y : Value} (h : V p x y) : SR P (fun q x y => V q x y) p (Op.unary op x) (Op.unary op y) := by
 obtain ⟨n, h⟩ := h.split
 cases x with
 | int k a =>
  cases y <;> simp only [VR] at h
  obtain ⟨rfl, rfl⟩ := h
  cases op <;> first | exact sr_halt | exact sr_pure (V.int _ _ _)
 | bool a =>
  cases y <;> simp only [VR] at h
  subst h
  cases op <;> first | exact sr_halt | exact sr_pure (V.bool _ _)
 | float => cases y <;> simp only [VR] at h
 | complex => cases y <;> simp only [VR] at h
 | pointer a => cases op <;> cases a <;> exact sr_halt
 | _ => cases op <;> exact sr_halt
theorem sr_eqls (hG : Glob.size = P.globals.size) {t : TypeId} (ht : okType P t = true) (op : BinOp) (ho : op = .eql ∨ op = .neq) {x x' y y' : Value} (h : V p x x') (k : V p y y') (hx : ∀ a, x ≠ .tuple a) (hy : ∀ a, y ≠ .tuple a) : SR P (fun q x y => V q x y) p (binOp op t x y) (binOp op t x' y') := by
 have tail : SR P (fun q x y => V q x y) p (Op.equal t x y >>= fun b => pure (Value.bool b)) (Op.equal t x' y' >>= fun b => pure (Value.bool b)) := sr_bind (sr_equal hG ht h k) (fun q a b l e => by subst e; exact sr_pure (V.bool _ _))
 have tail2 : SR P (fun q x y => V q x y) p (Op.equal t x y >>= fun b => pure (Value.bool !b)) (Op.equal t x' y' >>= fun b => pure (Value.bool !b)) := sr_bind (sr_equal hG ht h k) (fun q a b l e => by subst e; exact sr_pure (V.bool _ _))
 obtain ⟨m, h⟩ := h.split
 obtain ⟨n, k⟩ := k.split
 cases x with
 | int k1 a =>
  cases x' <;> simp only [VR] at h
  obtain ⟨rfl, rfl⟩ := h
  cases y with
  | int k2 b =>
   cases y' <;> simp only [VR] at k
   obtain ⟨rfl, rfl⟩ := k
   exact sr_intOps _ _ _ _ _ _
  | tuple a => exact absurd rfl (hy a)
  | _ => cases y' <;> first | (simp only [VR] at k; done) | (rcases ho with rfl | rfl <;> first | exact tail | exact tail2)
 | string a =>
  cases x' <;> simp only [VR] at h
  subst h
  cases y with
  | string b =>
   cases y' <;> simp only [VR] at k
   subst k
   exact sr_strOps _ _ _ _
  | tuple a => exact absurd rfl (hy a)
  | _ => cases y' <;> first | (simp only [VR] at k; done) | (rcases ho with rfl | rfl <;> first | exact tail | exact tail2)
 | tuple a => exact absurd rfl (hx a)
 | _ => cases x' <;> first | (simp only [VR] at h; done) | (rcases ho with rfl | rfl <;> first | exact tail | exact tail2)
theorem dead_eqIn (d : Nat) {t : TypeId} (ht : okType P t = true) (a : Array Value) (y : Value) : Dead P (Op.equalIn (d + 1) t (.tuple a) y) ∧ Dead P (Op.equalIn (d + 1) t y (.tuple a)) := by
 unfold Op.equalIn
 simp only [underlying, program, bind, Sem.bind, Dead]
 cases e : P.underlying t with
 | none => exact ⟨trivial, trivial⟩
 | some c =>
  simp only [pure, Sem.bind]
  cases c <;> first
   | (simp [okType, e] at ht; done)
   | (cases y <;> exact ⟨trivial, trivial⟩)
   | (cases y with
      | pointer b => cases b <;> exact ⟨trivial, trivial⟩
      | slice b _ _ => cases b <;> exact ⟨trivial, trivial⟩
      | _ => exact ⟨trivial, trivial⟩)
theorem sr_dead {α β : Type} {Q : Ren → α → β → Prop} {s : Sem α} {s' : Sem β} (d : Dead P s) (hf : (∃ h, s = .halt h) ∨ ∃ k, s = .program k) : SR P Q p s s' := by
 rcases hf with ⟨h, rfl⟩ | ⟨k, rfl⟩
 ·have d : okHalt h := d
  cases s' <;> exact d
 ·exact dead_program d
theorem dead_bin {t : TypeId} (ht : okType P t = true) (op : BinOp) (a : Array Value) (y : Value) {β : Type} {Q : Ren → Value → β → Prop} {s' : Sem β} : SR P Q p (binOp op t (.tuple a) y) s' ∧ SR P Q p (binOp op t y (.tuple a)) s' := by
 have k := dead_eqIn (P := P) 9999 ht a y
 cases op <;> cases y <;> first
  | exact ⟨sr_dead (show Dead P _ from trivial) (.inl ⟨_, rfl⟩), sr_dead (show Dead P _ from trivial) (.inl ⟨_, rfl⟩)⟩
  | exact ⟨sr_dead (Dead.bind k.1) (.inr ⟨_, rfl⟩), sr_dead (Dead.bind k.2) (.inr ⟨_, rfl⟩)⟩
  | (rename_i b; cases b <;> exact ⟨sr_dead (show Dead P _ from trivial) (.inl ⟨_, rfl⟩), sr_dead (show Dead P _ from trivial) (.inl ⟨_, rfl⟩)⟩)
theorem sr_guarded {t : TypeId} (ht : okType P t = true) (op : BinOp) (o o' : Operand) {x x' y y' : Value} (h : V p x x') (k : V p y y') (hc : (∀ a, x ≠ .tuple a) → (∀ a, y ≠ .tuple a) → ∀ q, Le p q → SR P (fun q x y => V q x y) q (binOp op t x y) (binOp op t x' y')) :
  SR P (fun q x y => V q x y) p (do eqGuard op t o o' x y; binOp op t x y) (do eqGuard op t o o' x' y'; binOp op t x' y') := by
 by_cases hx : ∃ a, x = .tuple a
 ·obtain ⟨a, rfl⟩ := hx
  rw [guard_else (fun e => by cases e.1) (fun ⟨c, d, e, _⟩ => by cases e)]
  exact (dead_bin ht op a y).1
 ·by_cases hy : ∃ a, y = .tuple a
  ·obtain ⟨a, rfl⟩ := hy
   rw [guard_else (fun e => by cases e.2) (fun ⟨c, d, _, e⟩ => by cases e)]
   exact (dead_bin ht op a x).2
  ·have hx : ∀ a, x ≠ .tuple a := fun a e => hx ⟨a, e⟩
   have hy : ∀ a, y ≠ .tuple a := fun a e => hy ⟨a, e⟩
   exact sr_bind (sr_eqGuard ht op o o' h k hx hy) (fun q _ _ l _ => hc hx hy q l)
end
end Go.Proofs.Ytpeoabopeihadaa.Sim
/- Operators on numbers and addresses, conversions of integers, the builtins len, cap, min, max, copy, append, at related values. No program of the project in this text. -/
namespace Go.Proofs.Ytpeoabopeihadaa.Sim
open Go
section
variable [Glob] {P : Program} {p : Ren}
theorem bin_ip {t : TypeId} (ht : okType P t = true) (op : BinOp) (ho : op ≠ .eql ∧ op ≠ .neq) {k1 : IntKind} {n : Int} {a a' : Option Addr} (h : OAR p a a') : SR P (fun q x y => V q x y) p (binOp op t (.int k1 n) (.pointer a)) (binOp op t (.int k1 n) (.pointer a')) := by
 cases op with
 | add => exact sr_movedNumber t (ok_not ht) (V.pointer h) (V.int _ _ _)
 | and =>
  cases a <;> cases a' <;> simp only [OAR] at h
  ·exact sr_halt
  ·exact sr_bind (sr_behind h) (fun q z z' l e => sr_addrMod _ e.1 _)
 | eql => exact absurd rfl ho.1
 | neq => exact absurd rfl ho.2
 | _ => cases a <;> exact sr_halt
theorem bin_pi {t : TypeId} (ht : okType P t = true) (op : BinOp) (ho : op ≠ .eql ∧ op ≠ .neq) {k1 : IntKind} {n : Int} {a a' : Option Addr} (h : OAR p a a') : SR P (fun q x y => V q x y) p (binOp op t (.pointer a) (.int k1 n)) (binOp op t (.pointer a') (.int k1 n)) := by
 cases op with
 | add =>
  refine sr_bind (sr_under t) (fun q d d' l e => ?_)
  obtain ⟨rfl, e⟩ := e
  have hd := ok_not ht _ e
  have tail := sr_movedNumber (P := P) t (ok_not ht) (V.pointer (h.le l)) (V.int q k1 n)
  clear h e
  cases d <;> first | exact absurd rfl hd | exact tail
 | sub => exact sr_movedNumber t (ok_not ht) (V.pointer h) (V.int _ _ _)
 | rem =>
  cases a <;> cases a' <;> simp only [OAR] at h
  ·exact sr_halt
  ·exact sr_bind (sr_behind h) (fun q z z' l e => sr_addrMod _ e.1 _)
 | and =>
  cases a <;> cases a' <;> simp only [OAR] at h
  ·exact sr_halt
  ·exact sr_bind (sr_behind h) (fun q z z' l e => sr_addrMod _ e.1 _)
 | eql => exact absurd rfl ho.1
 | neq => exact absurd rfl ho.2
 | _ => cases a <;> exact sr_halt
theorem bin_pp (hG : Glob.size = P.globals.size) {t : TypeId} (ht : okType P t = true) (op : BinOp) (ho : op ≠ .eql ∧ op ≠ .neq) {a a' b b' : Option Addr} (h : OAR p a a') (k : OAR p b b') : SR P (fun q x y => V q x y) p (binOp op t (.pointer a) (.pointer b)) (binOp op t (.pointer a') (.pointer b')) := by
 have two : ∀ {a a' b b' : Addr}, AR p a a' → AR p b b' → ∀ {f : Addr → Addr → Sem Value}, (∀ q (x x' y y' : Addr), AR q x x' → AR q y y' → SR P (fun q x y => V q x y) q (f x y) (f x' y')) →
   SR P (fun q x y => V q x y) p (behindNumber a >>= fun x => behindNumber b >>= fun y => f x.1 y.1) (behindNumber a' >>= fun x => behindNumber b' >>= fun y => f x.1 y.1) := by
  intro a a' b b' h k f hf
  refine sr_bind (sr_behind h) (fun q z z' l e => ?_)
  refine sr_bind (sr_behind (k.le l)) (fun q2 w w' l2 e2 => ?_)
  exact hf _ _ _ _ _ (e.1.le l2) e2.1
 cases a <;> cases a' <;> simp only [OAR] at h <;> cases b <;> cases b' <;> simp only [OAR] at k
 ·cases op <;> first | exact absurd rfl ho.1 | exact absurd rfl ho.2 | exact sr_halt
 ·cases op <;> first | exact absurd rfl ho.1 | exact absurd rfl ho.2 | exact sr_halt
 ·cases op <;> first | exact absurd rfl ho.1 | exact absurd rfl ho.2 | exact sr_halt
 ·cases op with
  | sub => exact two h k (fun q x x' y y' h k => sr_addrSub hG _ h k)
  | lss => exact two h k (fun q x x' y y' h k => sr_addrCmp hG _ h k)
  | leq => exact two h k (fun q x x' y y' h k => sr_addrCmp hG _ h k)
  | gtr => exact two h k (fun q x x' y y' h k => sr_addrCmp hG _ h k)
  | geq => exact two h k (fun q x x' y y' h k => sr_addrCmp hG _ h k)
  | eql => exact absurd rfl ho.1
  | neq => exact absurd rfl ho.2
  | _ => exact sr_halt
theorem sr_binOp (hG : Glob.size = P.globals.size) {t : TypeId} (ht : okType P t = true) (op : BinOp) {x x' y y' : Value} (h : V p x x') (k : V p y y') (hx : ∀ a, x ≠ .tuple a) (hy : ∀ a, y ≠ .tuple a) : SR P (fun q x y => V q x y) p (binOp op t x y) (binOp op t x' y') := by
 by_cases ho : op = .eql ∨ op = .neq
 ·exact sr_eqls hG ht op ho h k hx hy
 have ho : op ≠ .eql ∧ op ≠ .neq := ⟨fun e => ho (.inl e), fun e => ho (.inr e)⟩
 obtain ⟨m, h⟩ := h.split
 obtain ⟨n, k⟩ := k.split
 cases x with
 | int k1 a =>
  cases x' <;> simp only [VR] at h
  obtain ⟨rfl, rfl⟩ := h
  cases y with
  | int k2 b =>
   cases y' <;> simp only [VR] at k
   obtain ⟨rfl, rfl⟩ := k
   exact sr_intOps _ _ _ _ _ _
  | pointer b =>
   cases y' <;> simp only [VR] at k
   exact bin_ip ht op ho k
  | _ => cases op <;> first | exact sr_halt | exact absurd rfl ho.1 | exact absurd rfl ho.2
 | string a =>
  cases x' <;> simp only [VR] at h
  subst h
  cases y with
  | string b =>
   cases y' <;> simp only [VR] at k
   subst k
   exact sr_strOps _ _ _ _
  | _ => cases op <;> first | exact sr_halt | exact absurd rfl ho.1 | exact absurd rfl ho.2
 | pointer a =>
  cases x' <;> simp only [VR] at h
  cases y with
  | int k2 b =>
   cases y' <;> simp only [VR] at k
   obtain ⟨rfl, rfl⟩ := k
   exact bin_pi ht op ho h
  | pointer b =>
   cases y' <;> simp only [VR] at k
   exact bin_pp hG ht op ho h k
  | _ => cases op <;> first | exact absurd rfl ho.1 | exact absurd rfl ho.2 | (cases a <;> exact sr_halt)
 | float => cases x' <;> simp only [VR] at h
 | complex => cases x' <;> simp only [VR] at h
 | _ => cases op <;> first | exact absurd rfl ho.1 | exact absurd rfl ho.2 | (cases y <;> exact sr_halt)
end
end Go.Proofs.Ytpeoabopeihadaa.Sim
/- Conversions of integers and the builtins len, cap, min, max, copy, append, at related values. No program of the project in this text. -/
namespace Go.Proofs.Ytpeoabopeihadaa.Sim
open Go
section
variable [Glob] {P : Program} {p : Ren}
def isInt (P : Program) (t : TypeId) : Bool := match P.underlying t with | some (.int _) => true | _ => false
theorem isInt_at {t : TypeId} (h : isInt P t = true) : ∃ k, P.underlying t = some (.int k) := by
 unfold isInt at h
 split at h
 ·next k e => exact ⟨k, e⟩
 ·cases h
theorem sr_convert {s t : TypeId} (hs : isInt P s = true) (ht : isInt P t = true) {x y : Value} (h : V p x y) : SR P (fun q x y => V q x y) p (convert s t x) (convert s t y) := by
 obtain ⟨ks, hs⟩ := isInt_at hs
 obtain ⟨kt, ht⟩ := isInt_at ht
 obtain ⟨n, h⟩ := h.split
 unfold convert
 refine under_at hs (under_at ht ?_)
 cases x with
 | int k a =>
  cases y <;> simp only [VR] at h
  obtain ⟨rfl, rfl⟩ := h
  exact sr_intToInt _ _
 | float => cases y <;> simp only [VR] at h
 | pointer a => cases a <;> exact sr_halt
 | _ => exact sr_halt
theorem V.goInt (n : Nat) : V p (Go.goInt n) (Go.goInt n) := V.int _ _ _
theorem sr_len (ts : Array TypeId) (t : TypeId) {xs ys : Array Value} (h : LR (V p) xs.toList ys.toList) : SR P (fun q x y => V q x y) p (Builtin.len_ ts t xs) (Builtin.len_ ts t ys) := by
 unfold Builtin.len_
 cases e1 : ts[0]? with
 | none => exact sr_halt
 | some u =>
  cases e2 : xs[0]? with
  | none => exact sr_halt
  | some x =>
   obtain ⟨y, e3, k⟩ := LR.arr h e2
   rw [e3]
   refine sr_bind (sr_under u) (fun q d d' l e => ?_)
   obtain ⟨rfl, _⟩ := e
   obtain ⟨n, k⟩ := (k.le l).split
   cases d with
   | array m _ => exact sr_pure (V.goInt _)
   | pointer arr =>
    refine sr_bind (pl_underlying _).sr (fun q2 d d' l2 e => ?_)
    subst e
    split
    ·exact sr_pure (V.goInt _)
    ·exact sr_halt
   | string =>
    cases x with
    | string s =>
     cases y <;> simp only [VR] at k
     subst k
     exact sr_pure (V.goInt _)
    | _ => exact sr_halt
   | slice _ =>
    cases x with
    | slice a l c =>
     cases y <;> simp only [VR] at k
     obtain ⟨_, rfl, _⟩ := k
     exact sr_pure (V.goInt _)
    | _ => exact sr_halt
   | map _ _ =>
    cases x with
    | map a =>
     cases y with
     | map b => cases a <;> cases b <;> simp only [VR] at k; exact sr_pure (V.goInt _)
     | _ => simp only [VR] at k
    | _ => exact sr_halt
   | chan _ _ =>
    cases x with
    | chan a =>
     cases y with
     | chan b => cases a <;> cases b <;> simp only [VR] at k; exact sr_pure (V.goInt _)
     | _ => simp only [VR] at k
    | _ => exact sr_halt
   | _ => exact sr_halt
theorem sr_cap (ts : Array TypeId) (t : TypeId) {xs ys : Array Value} (h : LR (V p) xs.toList ys.toList) : SR P (fun q x y => V q x y) p (Builtin.cap_ ts t xs) (Builtin.cap_ ts t ys) := by
 unfold Builtin.cap_
 cases e1 : ts[0]? with
 | none => exact sr_halt
 | some u =>
  cases e2 : xs[0]? with
  | none => exact sr_halt
  | some x =>
   obtain ⟨y, e3, k⟩ := LR.arr h e2
   rw [e3]
   refine sr_bind (sr_under u) (fun q d d' l e => ?_)
   obtain ⟨rfl, _⟩ := e
   obtain ⟨n, k⟩ := (k.le l).split
   cases d with
   | array m _ => exact sr_pure (V.goInt _)
   | pointer arr =>
    refine sr_bind (pl_underlying _).sr (fun q2 d d' l2 e => ?_)
    subst e
    split
    ·exact sr_pure (V.goInt _)
    ·exact sr_halt
   | slice _ =>
    cases x with
    | slice a l c =>
     cases y <;> simp only [VR] at k
     obtain ⟨_, _, rfl⟩ := k
     exact sr_pure (V.goInt _)
    | _ => exact sr_halt
   | chan _ _ =>
    cases x with
    | chan a =>
     cases y with
     | chan b => cases a <;> cases b <;> simp only [VR] at k; exact sr_pure (V.goInt _)
     | _ => simp only [VR] at k
    | _ => exact sr_halt
   | _ => exact sr_halt
theorem sr_fold {f : Value → Value → Sem Value} (hf : ∀ {q : Ren} {x x' y y' : Value}, V q x x' → V q y y' → SR P (fun q x y => V q x y) q (f x y) (f x' y')) : ∀ {xs ys : List Value} {p : Ren} {x y : Value}, LR (V p) xs ys → V p x y → SR P (fun q x y => V q x y) p (xs.foldlM f x) (ys.foldlM f y)
 | [], [], p, x, y, _, k => sr_pure k
 | a :: xs, b :: ys, p, x, y, h, k => by
  simp only [List.foldlM_cons]
  exact sr_bind (hf k h.1) (fun q c d l e => sr_fold hf (LR.mono (fun _ _ k => k.le l) h.2) e)
theorem sr_max2 {x x' y y' : Value} (h : V p x x') (k : V p y y') : SR P (fun q x y => V q x y) p (Builtin.max2 x y) (Builtin.max2 x' y') := by
 obtain ⟨m, h⟩ := h.split
 obtain ⟨n, k⟩ := k.split
 cases x with
 | int k1 a =>
  cases x' <;> simp only [VR] at h
  obtain ⟨rfl, rfl⟩ := h
  cases y with
  | int k2 b =>
   cases y' <;> simp only [VR] at k
   obtain ⟨rfl, rfl⟩ := k
   exact sr_pure (V.int _ _ _)
  | pointer b => cases b <;> exact sr_halt
  | _ => exact sr_halt
 | string a =>
  cases x' <;> simp only [VR] at h
  subst h
  cases y with
  | string b =>
   cases y' <;> simp only [VR] at k
   subst k
   exact sr_pure (V.str _ _)
  | pointer b => cases b <;> exact sr_halt
  | _ => exact sr_halt
 | float => cases x' <;> simp only [VR] at h
 | pointer a =>
  cases a with
  | none =>
   cases y with
   | pointer b => cases b <;> exact sr_halt
   | _ => exact sr_halt
  | some a => cases y <;> exact sr_halt
 | _ =>
  cases y with
  | pointer b => cases b <;> exact sr_halt
  | _ => exact sr_halt
theorem sr_min2 {x x' y y' : Value} (h : V p x x') (k : V p y y') : SR P (fun q x y => V q x y) p (Builtin.min2 x y) (Builtin.min2 x' y') := by
 obtain ⟨m, h⟩ := h.split
 obtain ⟨n, k⟩ := k.split
 cases x with
 | int k1 a =>
  cases x' <;> simp only [VR] at h
  obtain ⟨rfl, rfl⟩ := h
  cases y with
  | int k2 b =>
   cases y' <;> simp only [VR] at k
   obtain ⟨rfl, rfl⟩ := k
   exact sr_pure (V.int _ _ _)
  | pointer b => cases b <;> exact sr_halt
  | _ => exact sr_halt
 | string a =>
  cases x' <;> simp only [VR] at h
  subst h
  cases y with
  | string b =>
   cases y' <;> simp only [VR] at k
   subst k
   exact sr_pure (V.str _ _)
  | pointer b => cases b <;> exact sr_halt
  | _ => exact sr_halt
 | float => cases x' <;> simp only [VR] at h
 | pointer a =>
  cases a with
  | none =>
   cases y with
   | pointer b => cases b <;> exact sr_halt
   | _ => exact sr_halt
  | some a => cases y <;> exact sr_halt
 | _ =>
  cases y with
  | pointer b => cases b <;> exact sr_halt
  | _ => exact sr_halt
theorem sr_max (ts : Array TypeId) (t : TypeId) {xs ys : Array Value} (h : LR (V p) xs.toList ys.toList) : SR P (fun q x y => V q x y) p (Builtin.max_ ts t xs) (Builtin.max_ ts t ys) := by
 unfold Builtin.max_
 revert h
 generalize xs.toList = l
 generalize ys.toList = m
 intro h
 cases l <;> cases m <;> simp only [LR] at h
 ·exact sr_halt
 ·exact sr_fold sr_max2 h.2 h.1
theorem sr_min (ts : Array TypeId) (t : TypeId) {xs ys : Array Value} (h : LR (V p) xs.toList ys.toList) : SR P (fun q x y => V q x y) p (Builtin.min_ ts t xs) (Builtin.min_ ts t ys) := by
 unfold Builtin.min_
 revert h
 generalize xs.toList = l
 generalize ys.toList = m
 intro h
 cases l <;> cases m <;> simp only [LR] at h
 ·exact sr_halt
 ·exact sr_fold sr_min2 h.2 h.1
theorem sr_lenOf {x y : Value} (h : V p x y) : SR P (fun _ a b => a = b) p (Builtin.lenOf x) (Builtin.lenOf y) := by
 obtain ⟨n, h⟩ := h.split
 cases x with
 | slice a l c =>
  cases y <;> simp only [VR] at h
  exact sr_pure h.2.1
 | string s =>
  cases y <;> simp only [VR] at h
  subst h
  exact sr_pure rfl
 | _ => exact sr_halt
theorem LR.same {q : Ren} {f : UInt8 → Value} (h : ∀ i, V q (f i) (f i)) : ∀ l : List UInt8, LR (V q) (l.map f) (l.map f)
 | [] => trivial
 | i :: l => ⟨h i, LR.same h l⟩
theorem sr_firstCells (s n : Nat) {x y : Value} (h : V p x y) : SR P (fun q a b => LR (V q) a.toList b.toList) p (Builtin.firstCells s n x) (Builtin.firstCells s n y) := by
 obtain ⟨m, h⟩ := h.split
 cases x with
 | slice a l c =>
  cases y with
  | slice b l' c' =>
   have h := h.1
   cases a <;> cases b <;> simp only [OAR] at h
   ·exact sr_pure (by trivial)
   ·exact sr_loadCells _ h
  | _ => simp only [VR] at h
 | string s =>
  cases y <;> simp only [VR] at h
  subst h
  refine sr_pure ?_
  rw [Array.toList_map]
  exact LR.same (fun i => V.int _ _ _) _
 | _ => exact sr_halt
theorem sr_copy (ts : Array TypeId) (t : TypeId) {xs ys : Array Value} (h : LR (V p) xs.toList ys.toList) : SR P (fun q x y => V q x y) p (Builtin.copy_ ts t xs) (Builtin.copy_ ts t ys) := by
 unfold Builtin.copy_
 cases e1 : ts[0]? with
 | none => exact sr_halt
 | some u =>
  cases e2 : xs[0]? with
  | none => exact sr_halt
  | some x =>
   obtain ⟨y, e3, k⟩ := LR.arr h e2
   rw [e3]
   cases e4 : xs[1]? with
   | none => exact sr_halt
   | some z =>
    obtain ⟨w, e5, k2⟩ := LR.arr h e4
    rw [e5]
    refine sr_bind (pl_underlying u).sr (fun q d d' l e => ?_)
    subst e
    have k := k.le l
    have k2 := k2.le l
    split
    ·obtain ⟨n, k⟩ := k.split
     cases x with
     | slice a l c =>
      cases y with
      | slice b l' c' =>
       obtain ⟨ka, rfl, rfl⟩ := k
       refine sr_bind (sr_lenOf k2) (fun q2 a2 b2 l2 e => ?_)
       subst e
       refine sr_bind (pl_sizeOf _).sr (fun q3 a3 b3 l3 e => ?_)
       subst e
       refine sr_bind (sr_firstCells _ _ ((k2.le l2).le l3)) (fun q4 a4 b4 l4 k4 => ?_)
       have ka := ((ka.le l2).le l3).le l4
       cases a <;> cases b <;> simp only [OAR] at ka
       ·exact sr_pure (V.goInt _)
       ·exact sr_bind (sr_storeCells 0 ka k4) (fun _ _ _ _ _ => sr_pure (V.goInt _))
      | _ => simp only [VR] at k
     | _ => exact sr_halt
    ·exact sr_halt
end
end Go.Proofs.Ytpeoabopeihadaa.Sim
/- The builtin append at related values. No program of the project in this text. -/
namespace Go.Proofs.Ytpeoabopeihadaa.Sim
open Go
section
variable [Glob] {P : Program} {p : Ren}
theorem sr_share {α β : Type} {Q : Ren → α → β → Prop} {f : Bool → Sem α} {f' : Bool → Sem β} (hd : ∀ b, Dead P (f b)) (hf : ∀ q b, SR P Q q (f b) (f' b)) (s l n : Nat) {a b : Option Addr} (ka : OAR p a b) {x y : Value} (k : V p x y) (hx : ∀ a, x ≠ .tuple a) :
  SR P Q p (Builtin.mayShare s l n a x >>= f) (Builtin.mayShare s l n b y >>= f') := by
 unfold Builtin.mayShare
 cases a with
 | none =>
  cases b with
  | some b => simp only [OAR] at ka
  | none =>
   obtain ⟨m, k⟩ := k.split
   cases x with
   | slice c i j =>
    cases y with
    | slice d i' j' =>
     have k := k.1
     cases c <;> cases d <;> simp only [OAR] at k
     ·exact hf _ _
     ·next c d =>
      refine ⟨k.1, fun x => ?_⟩
      have hs := k.2.2.1
      have ho := k.2.1
      cases x with
      | none => exact hf _ _
      | some z =>
       obtain ⟨z1, z2⟩ := z
       show SR P Q p (f _) (f' _)
       rw [hs, ho]
       exact hf _ _
    | _ => simp only [VR] at k
   | tuple a => exact absurd rfl (hx a)
   | _ => cases y <;> first | (simp only [VR] at k; done) | exact hf _ _
 | some a =>
  cases b with
  | none => simp only [OAR] at ka
  | some b =>
   have ka : AR p a b := ka
   refine ⟨ka.1, fun r => ?_⟩
   cases r with
   | none =>
    refine fun c => ?_
    exact hd _
   | some z =>
    obtain ⟨z1, z2⟩ := z
    refine fun c => ?_
    dsimp only [bind, Sem.bind, pure]
    split
    ·exact hd _
    ·split
     ·intro r
      cases r <;> exact hd _
     ·exact hd _
theorem LR.zeroCells {q : Ren} {z : Array Value} (h : LR (V q) z.toList z.toList) (n : Nat) : LR (V q) (Builtin.zeroCells z n).toList (Builtin.zeroCells z n).toList := LR.rounds h _
theorem sr_append (hz : Zero P) (ts : Array TypeId) (t : TypeId) {xs ys : Array Value} (h : LR (V p) xs.toList ys.toList) : SR P (fun q x y => V q x y) p (Builtin.append_ ts t xs) (Builtin.append_ ts t ys) := by
 unfold Builtin.append_
 cases e1 : ts[0]? with
 | none => exact sr_halt
 | some u =>
  cases e2 : xs[0]? with
  | none => exact sr_halt
  | some x =>
   obtain ⟨y, e3, k⟩ := LR.arr h e2
   rw [e3]
   cases e4 : xs[1]? with
   | none => exact sr_halt
   | some z =>
    obtain ⟨w, e5, k2⟩ := LR.arr h e4
    rw [e5]
    refine sr_bind (pl_underlying u).sr (fun q d d' l e => ?_)
    subst e
    replace k := k.le l
    replace k2 := k2.le l
    clear h e2 e3 e4 e5 l
    split
    ·next elem =>
     obtain ⟨n, k⟩ := k.split
     cases x with
     | slice a l c =>
      cases y with
      | slice b l' c' =>
       obtain ⟨ka, rfl, rfl⟩ := k
       clear k
       refine sr_bind (pl_sizeOf _).sr (fun q3 s s' l3 e => ?_)
       subst e
       replace k2 := k2.le l3
       replace ka := ka.le l3
       clear l3
       dsimp only
       rcases e6 : ts[1]? with _ | xt
       all_goals dsimp only
       all_goals try
        (refine sr_bind (pl_underlying _).sr (fun q0 d d' l0 e => ?_)
         subst e
         replace k2 := k2.le l0
         replace ka := ka.le l0)
       all_goals
        (refine sr_bind (sr_pure (Q := fun _ x y => x = y) rfl) (fun q4 zeros zeros' l4 e => ?_)
         subst e
         replace k2 := k2.le l4
         replace ka := ka.le l4
         refine sr_ite (fun hz1 => ?_) (fun hz1 => ?_))
       all_goals by_cases hzt : ∃ aa, z = .tuple aa
       all_goals try (obtain ⟨aa, rfl⟩ := hzt; exact sr_halt)
       all_goals first
        | (refine sr_bind (sr_asInt k2) (fun q5 i i' l5 e => ?_)
           subst e
           replace k2 := k2.le l5
           replace ka := ka.le l5
           refine sr_ite (fun _ => (Nr.bind (nr_error _)).sr) (fun _ => ?_)
           refine sr_bind (pl_typeInfo _).sr (fun q6 ti ti' l6 e => ?_)
           subst e
           replace k2 := k2.le l6
           replace ka := ka.le l6
           refine sr_ite (fun _ => sr_bind (pl_choose _).sr (fun _ _ _ _ e => by subst e; exact (Nr.bind (nr_error _)).sr)) (fun _ => ?_)
           refine sr_bind (sr_pure (Q := fun _ x y => x = y) rfl) (fun q7 n n' l7 e => ?_)
           subst e
           replace k2 := k2.le l7
           replace ka := ka.le l7)
        | (refine sr_bind (sr_lenOf k2) (fun q7 n n' l7 e => ?_)
           subst e
           replace k2 := k2.le l7
           replace ka := ka.le l7)
       all_goals
        (refine sr_ite (fun _ => ?_) (fun _ => ?_)
         ·refine sr_bind (Q := fun q x y => LR (V q) x.toList y.toList) ?_ (fun q8 new new' l8 kn => ?_)
          ·refine sr_ite (fun _ => sr_firstCells _ _ k2) (fun _ => sr_ite (fun _ => sr_pure (by trivial)) (fun _ => ?_))
           refine sr_bind (sr_zero hz _) (fun q9 v v' l9 e => ?_)
           obtain ⟨rfl, kz⟩ := e
           exact sr_pure (LR.zeroCells kz.cells _)
          ·replace ka := ka.le l8
           cases a <;> cases b <;> simp only [OAR] at ka
           ·exact sr_pure (V.slice (by trivial))
           ·refine sr_bind (sr_storeCells 0 (AR.add ka _) kn) (fun q9 _ _ l9 _ => ?_)
            exact sr_pure (V.slice (AR.le ka l9))
         ·refine sr_bind (pl_typeInfo _).sr (fun q8 ti ti' l8 e => ?_)
          subst e
          replace k2 := k2.le l8
          replace ka := ka.le l8
          refine sr_ite (fun _ => (Nr.bind (nr_error _)).sr) (fun _ => ?_)
          refine sr_bind (pl_typeInfo _).sr (fun q9 ti ti' l9 e => ?_)
          subst e
          replace k2 := k2.le l9
          replace ka := ka.le l9
          refine sr_ite (fun _ => ?_) (fun _ => ?_)
          ·refine sr_bind (Q := fun _ _ _ => False) ?_ (fun _ _ _ _ e => e.elim)
           refine sr_ite (fun _ => (nr_error _).sr) (fun _ => ?_)
           exact sr_share (fun b => by cases b <;> trivial) (fun q b => by cases b <;> first | exact ⟨rfl, trivial, sr_halt⟩ | exact sr_halt) _ _ _ ka k2 (fun a e => hzt ⟨a, e⟩)
          ·refine sr_bind (pl_choose _).sr (fun q10 nc nc' l10 e => ?_)
           subst e
           replace k2 := k2.le l10
           replace ka := ka.le l10
           refine sr_bind (pl_typeInfo _).sr (fun q11 ti ti' l11 e => ?_)
           subst e
           replace k2 := k2.le l11
           replace ka := ka.le l11
           refine sr_bind (pl_askRoom _).sr (fun q12 _ _ l12 _ => ?_)
           replace k2 := k2.le l12
           replace ka := ka.le l12
           refine sr_bind (sr_firstCells _ _ (V.slice ka)) (fun q13 old old' l13 ko => ?_)
           replace k2 := k2.le l13
           refine sr_bind (Q := fun q x y => LR (V q) x.toList y.toList) ?_ (fun q8 new new' l8 kn => ?_)
           ·refine sr_ite (fun _ => sr_firstCells _ _ k2) (fun _ => sr_ite (fun _ => sr_pure (by trivial)) (fun _ => ?_))
            refine sr_bind (sr_zero hz _) (fun q9 v v' l9 e => ?_)
            obtain ⟨rfl, kz⟩ := e
            exact sr_pure (LR.zeroCells kz.cells _)
           ·refine sr_bind (sr_zero hz _) (fun q9 v v' l9 e => ?_)
            obtain ⟨rfl, kz⟩ := e
            replace kn := LR.mono (fun _ _ k => V.le l9 k) kn
            replace ko := LR.mono (fun _ _ k => V.le (l8.trans l9) k) ko
            refine sr_bind (sr_newRow _ ?_) (fun q14 x y l14 kx => sr_pure (V.slice (a := some x) (b := some y) kx))
            rw [Array.toList_append, Array.toList_append, Array.toList_append, Array.toList_append]
            exact LR.append (LR.append ko kn) (LR.zeroCells kz.cells _))
      | _ => simp only [VR] at k
     | _ => exact sr_halt
    ·exact sr_halt
end
end Go.Proofs.Ytpeoabopeihadaa.Sim
/- One operation of a body at related values. No program of the project in this text. -/
namespace Go.Proofs.Ytpeoabopeihadaa.Sim
open Go
section
variable [Glob] {P : Program} {p : Ren}
def plainV : Nat → Value → Bool
 | _ + 1, .bool _ => true
 | _ + 1, .int _ _ => true
 | _ + 1, .string _ => true
 | _ + 1, .pointer none => true
 | _ + 1, .slice none _ _ => true
 | _ + 1, .map none => true
 | _ + 1, .chan none => true
 | _ + 1, .nilFunc => true
 | _ + 1, .nilIface => true
 | n + 1, .agg cs => cs.toList.all (plainV n)
 | n + 1, .tuple cs => cs.toList.all (plainV n)
 | n + 1, .iface t v => Glob.iok t && plainV n v
 | _, _ => false
theorem plain_list {q : Ren} {n : Nat} (ih : ∀ v, plainV n v = true → VR q n v v) : ∀ l : List Value, l.all (plainV n) = true → LR (VR q n) l l
 | [], _ => trivial
 | v :: l, h => by
  simp only [List.all_cons, Bool.and_eq_true] at h
  exact ⟨ih v h.1, plain_list ih l h.2⟩
theorem plain_vr {q : Ren} : ∀ (n : Nat) (v : Value), plainV n v = true → VR q n v v := by
 intro n
 induction n with
 | zero => intro v h; simp [plainV] at h
 | succ n ih =>
  intro v h
  cases v with
  | pointer a => cases a <;> simp [plainV, VR, OAR] at h ⊢
  | slice a _ _ => cases a <;> simp [plainV, VR, OAR] at h ⊢
  | map a => cases a <;> simp [plainV, VR] at h ⊢
  | chan a => cases a <;> simp [plainV, VR] at h ⊢
  | agg cs => exact plain_list ih _ h
  | tuple cs => exact .inr ⟨cs, rfl, plain_list ih _ h⟩
  | iface t v =>
   simp only [plainV, Bool.and_eq_true] at h
   exact ⟨rfl, ih v h.2, h.1⟩
  | _ => simp [plainV, VR] at h ⊢
theorem plain_v {q : Ren} {n : Nat} {v : Value} (h : plainV n v = true) : V q v v := ⟨n, plain_vr n v h⟩
def zerosB (P : Program) : Bool := P.types.all (fun i => match i.zero with | some z => plainV 8 z | none => true)
def operOk : Operand → Bool
 | .tmp _ => true
 | .const v => plainV 8 v
 | .global g => Glob.glob g
 | .func f => (Glob.ok f && !Glob.cut f) || Glob.ext f
def ER2 (p : Ren) (r r' : Operand → Value) : Prop := ∀ x, operOk x = true → V p (r x) (r' x)
def partsOk (xs : Array (Nat × Operand)) : Bool := xs.toList.all (fun z => operOk z.2)
def listOk (xs : Array Operand) : Bool := xs.toList.all operOk
def optOk : Option Operand → Bool
 | none => true
 | some x => operOk x
def cutOk : Operand → Nat → Bool
 | .func f, n => Glob.cut f && Glob.ok f && n == ary f
 | _, _ => false
def callOk (c : Call) : Bool :=
 listOk c.args &&
 match c.callee with
 | .builtin .append | .builtin .cap | .builtin .copy | .builtin .len | .builtin .max | .builtin .min => true
 | .value f => operOk f || cutOk f c.args.size
 | .invoke recv name => operOk recv && Glob.inv name
 | _ => false
def opOk (P : Program) : Op → Bool
 | .move x | .assign x => operOk x
 | .pick c a b => operOk c && operOk a && operOk b
 | .alloc _ => true
 | .box _ x => operOk x
 | .build _ xs => partsOk xs
 | .buildSlice _ _ xs => partsOk xs
 | .load _ a => operOk a
 | .store _ a x => operOk a && operOk x
 | .binOp op t x y _ => (okType P t || (Glob.eqt t && (op == .eql || op == .neq))) && operOk x && operOk y
 | .makeInterface t x => Glob.iok t && operOk x
 | .panic x => operOk x
 | .unOp _ _ x => operOk x
 | .convert s t x => isInt P s && isInt P t && operOk x
 | .makeFunc (.func f) xs ys => Glob.ok f && !Glob.cut f && listOk xs && listOk ys
 | .makeSlice _ l c => operOk l && operOk c
 | .slice _ x a b c => operOk x && optOk a && optOk b && optOk c
 | .fieldAddr _ x _ => operOk x
 | .field _ x _ => operOk x
 | .indexAddr _ x i => operOk x && operOk i
 | .index _ x i => operOk x && operOk i
 | .extract x _ => operOk x
 | .call c => callOk c
 | _ => false
def NX (p : Ren) : Next → Next → Prop
 | .value v, .value u => V p v u
 | .skip, .skip => True
 | .enter f xs, .enter g ys => f = g ∧ Glob.ok f = true ∧ LR (V p) xs.toList ys.toList ∧ (Glob.cut f = true → ys.size = ary f)
 | _, _ => False
structure Hooks (P : Program) : Prop where
 ext : ∀ f, Glob.ext f = true → ∀ (p : Ren) (xs ys : Array Value), LR (V p) xs.toList ys.toList → SR P NX p (callFunc f xs) (callFunc f ys)
 inv : ∀ name, Glob.inv name = true → ∀ (p : Ren) (x y : Value) (xs ys : Array Value), V p x y → LR (V p) xs.toList ys.toList → SR P NX p (callMethod x name xs) (callMethod y name ys)
 eqt : ∀ t, Glob.eqt t = true → ∀ (p : Ren) (op : BinOp), op = .eql ∨ op = .neq → ∀ (o o' : Operand) (x x' y y' : Value), V p x x' → V p y y' → SR P (fun q a b => V q a b) p (do eqGuard op t o o' x y; binOp op t x y) (do eqGuard op t o o' x' y'; binOp op t x' y')
def Bodies (P : Program) : Prop := Hooks P ∧ ∀ f, Glob.ok f = true → (∃ fn, P.funcs[f]? = some fn ∧ fn.body.isNone = false ∧ (fn.name == "runtime.NumGoroutine") = false) ∧ ∃ fn, (co P).funcs[f]? = some fn ∧ fn.body.isNone = false ∧ (fn.name == "runtime.NumGoroutine") = false
theorem sr_value {s s' : Sem Value} (h : SR P (fun q x y => V q x y) p s s') : SR P NX p (do pure (.value (← s))) (do pure (.value (← s'))) := sr_bind h (fun q a b _ k => k)
theorem sr_skip {s s' : Sem Unit} (h : SR P (fun _ _ _ => True) p s s') : SR P NX p (do s; pure .skip) (do s'; pure .skip) := sr_bind h (fun q a b _ k => trivial)
theorem sr_callFunc (hb : Bodies P) {f : FuncId} {xs ys : Array Value} (o : (Glob.ok f = true ∧ (Glob.cut f = true → ys.size = ary f)) ∨ Glob.ext f = true) (h : LR (V p) xs.toList ys.toList) : SR P NX p (callFunc f xs) (callFunc f ys) := by
 rcases o with o | o
 case inr => exact hb.1.ext f o p xs ys h
 obtain ⟨o, hn⟩ := o
 obtain ⟨⟨fn, e1, e2, e3⟩, fn2, e4, e5, e6⟩ := hb.2 f o
 simp only [callFunc, program, bind, Sem.bind, SR, e1, e2, e3, e4, e5, e6, Bool.false_eq_true, if_false, pure]
 exact .inl ⟨⟨rfl, o, h, hn⟩, trivial⟩
theorem ER2.parts {r r' : Operand → Value} (h : ER2 p r r') : ∀ {xs : List (Nat × Operand)}, xs.all (fun z => operOk z.2) = true → PR p (xs.map fun (i, x) => (i, r x)) (xs.map fun (i, x) => (i, r' x))
 | [], _ => trivial
 | (i, x) :: xs, o => by
  simp only [List.all_cons, Bool.and_eq_true] at o
  exact ⟨rfl, h x o.1, ER2.parts h o.2⟩
theorem ER2.list {r r' : Operand → Value} (h : ER2 p r r') : ∀ {xs : List Operand}, xs.all operOk = true → LR (V p) (xs.map r) (xs.map r')
 | [], _ => trivial
 | x :: xs, o => by
  simp only [List.all_cons, Bool.and_eq_true] at o
  exact ⟨h x o.1, ER2.list h o.2⟩
theorem ER2.args {r r' : Operand → Value} (h : ER2 p r r') {xs : Array Operand} (o : listOk xs = true) : LR (V p) (xs.map r).toList (xs.map r').toList := by
 rw [Array.toList_map, Array.toList_map]
 exact h.list o
theorem ER2.opt {r r' : Operand → Value} (h : ER2 p r r') {x : Option Operand} (o : optOk x = true) : OVR p (x.map r) (x.map r') := by
 cases x with
 | none => trivial
 | some x => exact h x o
theorem sr_call (hz : Zero P) (hb : Bodies P) {r r' : Operand → Value} (h : ER2 p r r') (hfn : ∀ f, r (.func f) = .func (.func f) #[] #[] ∧ r' (.func f) = .func (.func f) #[] #[]) {c : Call} (o : callOk c = true) (t : TypeId) : SR P NX p (do let d ← resolve r c t; invoke d.target d.args) (do let d ← resolve r' c t; invoke d.target d.args) := by
 simp only [callOk, Bool.and_eq_true] at o
 obtain ⟨o1, o2⟩ := o
 have ha := h.args o1
 unfold resolve
 cases hc : c.callee with
 | builtin b =>
  rw [hc] at o2
  cases b with
  | append => exact sr_value (sr_append hz _ _ ha)
  | cap => exact sr_value (sr_cap _ _ ha)
  | copy => exact sr_value (sr_copy _ _ ha)
  | len => exact sr_value (sr_len _ _ ha)
  | max => exact sr_value (sr_max _ _ ha)
  | min => exact sr_value (sr_min _ _ ha)
  | _ => simp at o2
 | invoke recv name =>
  rw [hc] at o2
  simp only [Bool.and_eq_true] at o2
  have e : ∀ (z : Value) (zs : Array Value), invoke (.fn (.method name) #[]) (#[z] ++ zs) = callMethod z name zs := by
   intro z zs
   have e1 : (#[z] ++ zs)[0]? = some z := by obtain ⟨l⟩ := zs; simp [List.append_toArray]
   have e2 : (#[z] ++ zs).extract 1 (#[z] ++ zs).size = zs := by
    apply Array.ext'
    simp
   simp only [invoke, e1, e2]
  show SR P NX p (invoke (.fn (.method name) #[]) (#[r recv] ++ c.args.map r)) (invoke (.fn (.method name) #[]) (#[r' recv] ++ c.args.map r'))
  rw [e, e]
  exact hb.1.inv name o2.2 p _ _ _ _ (h recv o2.1) ha
 | value f =>
  rw [hc] at o2
  have o2 : (operOk f || cutOk f c.args.size) = true := o2
  rw [Bool.or_eq_true] at o2
  rcases o2 with o2 | o2
  case inr =>
   cases f with
   | func f =>
    simp only [cutOk, Bool.and_eq_true, beq_iff_eq] at o2
    dsimp only
    rw [(hfn f).1, (hfn f).2]
    refine sr_callFunc hb (.inl ⟨o2.1.2, fun _ => ?_⟩) ?_
    ·simpa using o2.2
    ·simpa using ha
   | _ => exact absurd o2 (by simp [cutOk])
  obtain ⟨n, hf⟩ := (h f o2).split
  dsimp only
  revert hf
  generalize r f = x
  generalize r' f = y
  intro hf
  cases x with
  | func fn a b =>
   cases y <;> simp only [VR] at hf
   obtain ⟨rfl, h1, h2, h3⟩ := hf
   cases fn with
   | func f =>
    refine sr_callFunc hb (h3.imp (fun h3 => ⟨h3.1, fun e => by rw [h3.2] at e; cases e⟩) id) ?_
    rw [Array.toList_append, Array.toList_append, Array.toList_append, Array.toList_append]
    exact LR.append (LR.append (LR.v h1) ha) (LR.v h2)
   | _ => exact h3.elim
  | nilFunc =>
   cases y <;> simp only [VR] at hf
   exact nr_nilDeref.sr
  | _ => exact sr_halt
theorem V.iface {t : TypeId} {x y : Value} (h : V p x y) (o : Glob.iok t = true) : V p (.iface t x) (.iface t y) := by
 obtain ⟨n, h⟩ := h
 exact ⟨n + 1, rfl, h, o⟩
theorem sr_makeInterface {t : TypeId} {x y : Value} (h : V p x y) (o : Glob.iok t = true) : SR P (fun q a b => V q a b) p (Instr.makeInterface t x) (Instr.makeInterface t y) := by
 unfold Instr.makeInterface
 refine sr_bind (sr_under t) (fun q a b l e => ?_)
 obtain ⟨rfl, _⟩ := e
 split
 ·exact sr_halt
 ·exact sr_pure ((h.le l).iface o)
theorem sr_panic (x : Value) (s : Sem Next) : SR P NX p (do pure (.value (← Instr.panic x))) s := by
 cases x with
 | iface t v => exact sr_halt (s := s) (h := .panic _)
 | nilIface =>
  obtain ⟨k, e, hd⟩ : ∃ k, (do pure (Next.value (← Instr.panic .nilIface)) : Sem Next) = .sys .env k ∧ ∀ r, Dead P (k r) := by
   refine ⟨_, rfl, fun r => ?_⟩
   refine Dead.bind ?_
   have h1 : Dead P (runtimePanic (α := Value) .panicNil) := by
    simp only [runtimePanic, program, bind, Sem.bind, elemOf, underlying]
    show Dead P (Sem.bind (Sem.bind _ _) _)
    cases e : P.underlying P.rt.panicNilError with
    | none => simp [Dead, Sem.bind, e, stuck, okHalt]
    | some c => cases c <;> simp [Dead, Sem.bind, e, stuck, okHalt, pure, newVar, newRow, goPanic, newObj, bind]
   have h2 : Dead P (goPanic (α := Value) .nilIface) := trivial
   cases r <;> first
    | (show Dead P (Sem.halt _); trivial)
    | (simp only [Sem.bind, program, bind, pure, Dead]
       split
       ·exact h2
       ·exact h1)
  rw [e]
  cases s <;> simp only [SR] <;> exact hd
 | _ => exact sr_halt (s := s)
theorem sr_execOp (hz : Zero P) (hG : Glob.size = P.globals.size) (hb : Bodies P) {r r' : Operand → Value} (h : ER2 p r r') (hfn : ∀ f, r (.func f) = .func (.func f) #[] #[] ∧ r' (.func f) = .func (.func f) #[] #[]) {o : Oper} (ok : opOk P o.op = true) : SR P NX p (execOp r o) (execOp r' o) := by
 unfold execOp
 revert ok
 cases ho : o.op <;> intro ok <;> simp only [opOk, Bool.and_eq_true, Bool.false_eq_true] at ok <;> dsimp only
 case move x => exact sr_pure (h _ ok)
 case assign x => exact sr_pure (h _ ok)
 case pick c a b =>
  refine sr_bind (sr_asBool (h _ ok.1.1)) (fun q x y l e => ?_)
  subst e
  cases x
  ·exact sr_pure ((h _ ok.2).le l)
  ·exact sr_pure ((h _ ok.1.2).le l)
 case alloc t => exact sr_value (sr_alloc hz t)
 case box t x => exact sr_value (sr_box t (h _ ok))
 case build t xs =>
  refine sr_value (sr_build hz t ?_)
  rw [Array.toList_map, Array.toList_map]
  exact h.parts ok
 case buildSlice t n xs =>
  refine sr_value (sr_buildSlice hz t n ?_)
  rw [Array.toList_map, Array.toList_map]
  exact h.parts ok
 case load t a => exact sr_value (sr_loadAt t (h _ ok))
 case store t a x => exact sr_skip (sr_storeAt t (h _ ok.1) (h _ ok.2))
 case binOp op t x y t2 =>
  simp only [Bool.or_eq_true] at ok
  rcases ok.1.1 with o1 | o1
  ·exact sr_value (sr_guarded o1 op x y (h _ ok.1.2) (h _ ok.2) (fun hx hy q l => sr_binOp hG o1 op ((h _ ok.1.2).le l) ((h _ ok.2).le l) hx hy))
  ·simp only [Bool.and_eq_true, Bool.or_eq_true, beq_iff_eq] at o1
   exact sr_value (hb.1.eqt t o1.1 p op o1.2 x y _ _ _ _ (h _ ok.1.2) (h _ ok.2))
 case makeInterface t x => exact sr_value (sr_makeInterface (h _ ok.2) ok.1)
 case panic x => exact sr_panic _ _
 case unOp op t x => exact sr_value (sr_unary op (h _ ok))
 case convert s t x => exact sr_value (sr_convert ok.1.1 ok.1.2 (h _ ok.2))
 case makeFunc fn xs ys =>
  cases fn with
  | func f =>
   simp only [opOk, Bool.and_eq_true] at ok
   exact sr_value (sr_makeFunc (.func f) (show okFn (.func f) from .inl ⟨ok.1.1.1, by simpa using ok.1.1.2⟩) (h.args ok.1.2) (h.args ok.2))
  | _ => simp [opOk] at ok
 case makeSlice t l c => exact sr_value (sr_makeSlice hz t (h _ ok.1) (h _ ok.2))
 case slice t x a b c => exact sr_value (sr_sliceAt t (h _ ok.1.1.1) (h.opt ok.1.1.2) (h.opt ok.1.2) (h.opt ok.2))
 case fieldAddr t x i => exact sr_value (sr_fieldAt t (h _ ok) i)
 case field t x i => exact sr_value (sr_field t (h _ ok) i)
 case indexAddr t x i => exact sr_value (sr_indexAt t (h _ ok.1) (h _ ok.2))
 case index t x i => exact sr_value (sr_index t (h _ ok.1) (h _ ok.2))
 case extract x i => exact sr_value (sr_extract (h _ ok) i)
 case call c => exact sr_call hz hb h hfn ok _
end
end Go.Proofs.Ytpeoabopeihadaa.Sim
