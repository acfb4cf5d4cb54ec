/- Zero values of types, made ones too, name no place. No program of the project in this text. -/
import Derived.Test.YtpeoabopeihadaaNQA
import Derived.Test.YtpeoabopeihadaaNQE
import Derived.Laws.Externs
import Derived.Shelf.Spec.BitsCarry
set_option linter.unusedVariables false
set_option linter.unusedSimpArgs false
set_option linter.unusedSectionVars false
set_option maxHeartbeats 3200000
namespace Go.Proofs.Ytpeoabopeihadaa.Sim
open Go
section
variable [Glob]
def Plain (z : Value) : Prop := ∀ p, V p z z
theorem lr_self {p : Ren} : ∀ {l : List Value}, (∀ x ∈ l, V p x x) → LR (V p) l l
 | [], _ => trivial
 | x :: l, h => ⟨h x (List.mem_cons_self ..), lr_self fun y hy => h y (List.mem_cons_of_mem _ hy)⟩
theorem plain_agg {cs : Array Value} (h : ∀ x ∈ cs, Plain x) : Plain (.agg cs) := fun p => V.agg (lr_self fun x hx => h x (by simpa using hx) p)
theorem lr_mem {p : Ren} {n : Nat} : ∀ {l : List Value}, LR (VR p n) l l → ∀ x ∈ l, V p x x
 | [], _, x, hx => by cases hx
 | y :: l, h, x, hx => by
  rcases List.mem_cons.1 hx with rfl | hx
  ·exact ⟨n, h.1⟩
  ·exact lr_mem h.2 x hx
theorem plain_cells {z : Value} (h : Plain z) : ∀ x ∈ z.cells, Plain x := by
 intro x hx p
 cases z with
 | agg cs =>
  obtain ⟨n, k⟩ := h p
  cases n with
  | zero => simp [VR] at k
  | succ n => exact lr_mem (l := cs.toList) k x (by simpa [Value.cells] using hx)
 | _ => (simp [Value.cells] at hx; first | (subst hx; exact h p) | (rw [hx]; exact h p))
theorem forIn_inv {α β : Type} {f : α → β → Option (ForInStep β)} (I : β → Prop) (hf : ∀ a b s, I b → f a b = some s → (∀ c, s = .done c → I c) ∧ ∀ c, s = .yield c → I c) : ∀ {l : List α} {b b' : β}, I b → forIn l b f = some b' → I b'
 | [], b, b', h, e => by
  simp at e
  rw [← e]
  exact h
 | a :: l, b, b', h, e => by
  rw [List.forIn_cons] at e
  cases hs : f a b with
  | none => rw [hs] at e; cases e
  | some s =>
   rw [hs] at e
   cases s with
   | done c =>
    have e : some c = some b' := e
    cases e
    exact (hf a b _ h hs).1 _ rfl
   | yield c =>
    have e : forIn l c f = some b' := e
    exact forIn_inv I hf ((hf a b _ h hs).2 _ rfl) e
theorem zstep {c : Prop} [Decidable c] {zo : Option (Array Value)} {i : TypeInfo} (hb : ∀ cs, zo = some cs → ∀ x ∈ cs, Plain x) (hz : ∀ z, i.zero = some z → Plain z) : ∀ cs, (if c then none else zo.bind fun a => i.zero.bind fun b => some (a ++ b.cells)) = some cs → ∀ x ∈ cs, Plain x := by
 intro cs e x hx
 split at e
 ·cases e
 ·rw [Option.bind_eq_some_iff] at e
  obtain ⟨a, e1, e⟩ := e
  rw [Option.bind_eq_some_iff] at e
  obtain ⟨b, e2, e⟩ := e
  cases e
  rcases Array.mem_append.1 hx with hx | hx
  ·exact hb _ e1 x hx
  ·exact plain_cells (hz _ e2) x hx
theorem reckonStruct_plain {info : TypeId → Option TypeInfo} (hi : ∀ t i z, info t = some i → i.zero = some z → Plain z) {fs : Array Field} {i : TypeInfo} {z : Value} (e : Made.reckonStruct info fs = some i) (h0 : i.zero = some z) : Plain z := by
 unfold Made.reckonStruct at e
 simp only [← Array.forIn_toList] at e
 simp only [bind, Option.bind_eq_some_iff] at e
 obtain ⟨r, e1, e2⟩ := e
 have key : ∀ cs, r.2.2.2.2.2.2.2.1 = some cs → ∀ x ∈ cs, Plain x := by
  refine forIn_inv (I := fun s : Array Field × Nat × Nat × Nat × Nat × Bool × Bool × Option (Array Value) × String => ∀ cs, s.2.2.2.2.2.2.2.1 = some cs → ∀ x ∈ cs, Plain x) ?_ ?_ e1
  ·intro a b s hI hs
   rw [Option.bind_eq_some_iff] at hs
   obtain ⟨j, hj, hs⟩ := hs
   have hz := fun z => hi _ j z hj
   repeat' first
    | (cases hs; done)
    | (cases hs; exact ⟨fun c e => (by cases e), fun c e => (by cases e; exact zstep hI hz)⟩)
    | (rw [Option.bind_eq_some_iff] at hs; obtain ⟨_, _, hs⟩ := hs)
    | split at hs
  ·intro cs e x hx
   cases e
   simp at hx
 have fin : ∀ w, (r.2.2.2.2.2.2.2.1).map Value.agg = some w → Plain w := fun w h => by
  obtain ⟨cs, h1, rfl⟩ := Option.map_eq_some_iff.1 h
  exact plain_agg (key cs h1)
 split at e2 <;> (cases e2; exact fin _ h0)
theorem reckon_plain {info : TypeId → Option TypeInfo} (hi : ∀ t i z, info t = some i → i.zero = some z → Plain z) {d : TypeDesc} {i : TypeInfo} {z : Value} (e : Made.reckon info d = some i) (h0 : i.zero = some z) : Plain z := by
 have hw : ∀ (d : TypeDesc) (s : String) (v : Value) (c : Bool) (n : Nat), Plain v → (Made.word d s v c n).zero = some z → Plain z := fun d s v c n h e => by
  simp only [Made.word, Option.some.injEq] at e
  rw [← e]
  exact h
 have p1 : Plain (.pointer none) := fun p => ⟨1, trivial⟩
 have p2 : Plain (.slice none 0 0) := fun p => ⟨1, trivial, rfl, rfl⟩
 have p3 : Plain (.map none) := fun p => ⟨1, trivial⟩
 have p4 : Plain (.chan none) := fun p => ⟨1, trivial⟩
 have p5 : Plain .nilFunc := fun p => ⟨1, trivial⟩
 unfold Made.reckon at e
 cases d with
 | struct fs => exact reckonStruct_plain hi e h0
 | array n t =>
  simp only [bind, Option.bind_eq_some_iff] at e
  obtain ⟨j, hj, s, hs, e⟩ := e
  cases e
  simp only at h0
  split at h0
  ·cases h0
  ·split at h0
   ·cases h0
    exact plain_agg (fun x hx => by simp at hx)
   ·obtain ⟨y, h1, rfl⟩ := Option.map_eq_some_iff.1 h0
    refine plain_agg fun x hx => ?_
    obtain ⟨xs, h2, h3⟩ := Array.mem_flatten.1 hx
    have : xs = y.cells := by
     have := Array.mem_replicate.1 h2
     exact this.2
    rw [this] at h3
    exact plain_cells (hi _ _ _ hj h1) x h3
 | pointer t =>
  simp only [bind, Option.bind_eq_some_iff] at e
  obtain ⟨j, hj, e⟩ := e
  repeat' first
   | (cases e; done)
   | (cases e; exact hw _ _ _ _ _ p1 h0)
   | (rw [Option.bind_eq_some_iff] at e; obtain ⟨_, _, e⟩ := e)
   | split at e
 | slice t =>
  simp only [bind, Option.bind_eq_some_iff] at e
  obtain ⟨j, hj, s, hs, e⟩ := e
  cases e
  exact hw _ _ _ _ _ p2 h0
 | map k t =>
  simp only [bind, Option.bind_eq_some_iff] at e
  obtain ⟨j, hj, s, hs, k, hk, s2, hs2, e⟩ := e
  cases e
  exact hw _ _ _ _ _ p3 h0
 | chan dir t =>
  simp only [bind, Option.bind_eq_some_iff] at e
  obtain ⟨j, hj, s, hs, e⟩ := e
  cases e
  exact hw _ _ _ _ _ p4 h0
 | func ps rs v =>
  simp only [bind, Option.bind_eq_some_iff] at e
  obtain ⟨j, hj, e⟩ := e
  cases e
  exact hw _ _ _ _ _ p5 h0
 | _ => cases e
theorem infoAt_plain {T : Tables} (ht : ∀ (t : Nat) (i : TypeInfo) (z : Value), T.types[t]? = some i → i.zero = some z → Plain z) : ∀ (n : Nat) (t : TypeId) (i : TypeInfo) (z : Value), Made.infoAt T n t = some i → i.zero = some z → Plain z := by
 intro n
 induction n with
 | zero => intro t i z e; simp [Made.infoAt] at e
 | succ n ih =>
  intro t i z e h0
  unfold Made.infoAt at e
  split at e
  ·exact ht t i z e h0
  ·rw [Option.bind_eq_some_iff] at e
   obtain ⟨d, _, e⟩ := e
   exact reckon_plain ih e h0
theorem zero_of {P : Program} (hz : zerosB P = true) : Zero P := by
 have ht : ∀ (t : Nat) (i : TypeInfo) (z : Value), P.types[t]? = some i → i.zero = some z → Plain z := by
  intro t i z h1 h2 p
  unfold zerosB at hz
  rw [Array.all_eq_true] at hz
  obtain ⟨ht, e⟩ := Array.getElem?_eq_some_iff.1 h1
  have := hz t ht
  rw [e, h2] at this
  exact ⟨8, plain_vr 8 z this⟩
 intro t i z h1 h2 p
 unfold Tables.info? at h1
 split at h1
 ·exact ht t i z h1 h2 p
 ·exact infoAt_plain ht _ t i z h1 h2 p
end
end Go.Proofs.Ytpeoabopeihadaa.Sim
/- What is told of the program to a worker, and to a call beside leavers: no function parts. -/
namespace Go.Proofs.Ytpeoabopeihadaa.Sim
open Go Go.Conc
def invName (Q : Program) : String :=
 match (Q.funcs[157]?).bind (·.body) with
 | some c => ((List.range 12).filterMap (fun i => ((regOps i c).getD #[]).toList.findSome? fun o => match o.op with | .call { callee := .invoke _ n, .. } => some n | _ => none)).headD ""
 | none => ""
def gvW (Q : Program) : GlobS where
 size := Q.globals.size
 ok := fun f => [106, 46, 48, 49, 52, 95, 65, 116, 117, 118, 119, 120, 143, 144, 145, 146, 147, 156, 122, 157, 158, 159, 160, 161, 162, 163, 164, 165, 176, 175, 186, 188, 205].contains f
 glob := fun g => g == 0 || g == 1
 funcs := Q.funcs
 cut := fun f => f == 15
 ext := fun f => f == 177 || f == 185
 inv := fun s => s == invName Q
 eqt := fun t => t == 177
 dead := fun _ => false
 iok := fun t => t == 184 || t == 9
abbrev gw (Q : Program) : Glob := ⟨gvW Q⟩
theorem co_tri (Q : Program) : @co (gw Q) (Tri Q) = Q := rfl
def okB (Q : Program) (f : Nat) : Bool :=
 match Q.funcs[f]? with
 | some fn => match fn.body with
  | some c => @codeOk (gw Q) (Tri Q) c && !(fn.name == "runtime.NumGoroutine")
  | none => false
 | none => false
theorem okB_all : [106, 46, 48, 49, 52, 95, 65, 116, 117, 118, 119, 120, 143, 144, 145, 146, 147, 156, 122, 157, 158, 159, 160, 161, 162, 163, 164, 165, 176, 175, 186, 188, 205].all (okB Try.prog) = true := by kernel_rfl
theorem zeros_all : @zerosB (gw Try.prog) Try.prog = true := by kernel_rfl
theorem zero_gen (Q : Program) (hz : @zerosB (gw Q) Q = true) : @Zero (gw Q) (Tri Q) := @zero_of (gw Q) (Tri Q) hz
theorem zero_w : @Zero (gw Try.prog) (Tri Try.prog) := zero_gen _ zeros_all
theorem norace9 : Try.f15.norace = false := by kernel_rfl
theorem norace_w (g : FuncId) : ((Tri Try.prog).funcs[g]?).any (fun f : Func => f.norace) = (Try.prog.funcs[g]?).any (fun f : Func => f.norace) := by
 by_cases e : g = 15
 ·subst e
  rw [Tri.func15, Try.func15]
  show Tri.f15.norace = Try.f15.norace
  rw [norace9]
  rfl
 ·rw [Tri.func _ e]
theorem codes_gen (Q : Program) (hall : [106, 46, 48, 49, 52, 95, 65, 116, 117, 118, 119, 120, 143, 144, 145, 146, 147, 156, 122, 157, 158, 159, 160, 161, 162, 163, 164, 165, 176, 175, 186, 188, 205].all (okB Q) = true) (hn : ∀ g : FuncId, ((Tri Q).funcs[g]?).any (fun f : Func => f.norace) = (Q.funcs[g]?).any (fun f : Func => f.norace)) (hh : @Hooks (gw Q) (Tri Q)) : @Codes (gw Q) (Tri Q) := by
 letI : Glob := gw Q
 refine ⟨hh, fun f hf => ?_⟩
 have hf : [106, 46, 48, 49, 52, 95, 65, 116, 117, 118, 119, 120, 143, 144, 145, 146, 147, 156, 122, 157, 158, 159, 160, 161, 162, 163, 164, 165, 176, 175, 186, 188, 205].contains f = true := hf
 have hm : f ∈ [106, 46, 48, 49, 52, 95, 65, 116, 117, 118, 119, 120, 143, 144, 145, 146, 147, 156, 122, 157, 158, 159, 160, 161, 162, 163, 164, 165, 176, 175, 186, 188, 205] := List.contains_iff_mem.1 hf
 have h9 : f ≠ 15 := fun e => by
  subst e
  exact absurd hm (by decide)
 have hb := List.all_eq_true.1 hall f hm
 unfold okB at hb
 cases e1 : Q.funcs[f]? with
 | none => rw [e1] at hb; cases hb
 | some fn =>
  rw [e1] at hb
  simp only at hb
  cases e2 : fn.body with
  | none => rw [e2] at hb; cases hb
  | some c =>
   rw [e2] at hb
   simp only [Bool.and_eq_true, Bool.not_eq_true'] at hb
   exact ⟨fn, c, (Tri.func Q h9).trans e1, e2, hb.1, hb.2, fn, e1, by rw [e2]; rfl, hb.2, fun _ => rfl, fun g => (hn g).symm⟩
theorem cut_gen (Q : Program) : ∀ f, (gvW Q).ok f = true → (gvW Q).cut f = false := fun f hf => by
 have hf : [106, 46, 48, 49, 52, 95, 65, 116, 117, 118, 119, 120, 143, 144, 145, 146, 147, 156, 122, 157, 158, 159, 160, 161, 162, 163, 164, 165, 176, 175, 186, 188, 205].contains f = true := hf
 have hm := List.contains_iff_mem.1 hf
 have h9 : f ≠ 15 := fun e => by
  subst e
  exact absurd hm (by decide)
 simp [gvW, h9]
theorem told_gen (Q : Program) (hQ : Q = Try.prog) (hz : @Zero (gw Q) (Tri Q)) (hc : @Codes (gw Q) (Tri Q)) : @Told (gw Q) (Tri Q) := @Told.mk (gw Q) (Tri Q) hz rfl hc (cut_gen Q) ((co_tri Q).trans hQ)
theorem told_w (hh : @Hooks (gw Try.prog) (Tri Try.prog)) : @Told (gw Try.prog) (Tri Try.prog) := told_gen _ rfl zero_w (codes_gen _ okB_all norace_w hh)
end Go.Proofs.Ytpeoabopeihadaa.Sim
/- The functions without a body that the code calls: Add64 and Sub64. -/
namespace Go.Proofs.Ytpeoabopeihadaa.Sim
open Go
section
variable [Glob] {P : Program} {p : Ren}
theorem sr_three (name : String) {xs ys : Array Value} (h : LR (V p) xs.toList ys.toList) : SR P (fun _ a b => a = b) p (Extern.MathBitsCarry.three name xs) (Extern.MathBitsCarry.three name ys) := by
 obtain ⟨xs⟩ := xs
 obtain ⟨ys⟩ := ys
 rcases xs with _ | ⟨x, _ | ⟨x2, _ | ⟨x3, _ | ⟨x4, xs⟩⟩⟩⟩ <;> rcases ys with _ | ⟨y, _ | ⟨y2, _ | ⟨y3, _ | ⟨y4, ys⟩⟩⟩⟩ <;> simp only [LR, and_false] at h
 ·exact (show okHalt (.stuck _) from trivial)
 ·exact (show okHalt (.stuck _) from trivial)
 ·exact (show okHalt (.stuck _) from trivial)
 ·obtain ⟨h1, h2, h3, _⟩ := h
  refine sr_bind (sr_asInt h3) fun q a b l e => ?_
  subst e
  dsimp only
  split
  ·simp [SR, unsupported, okHalt, bind, Sem.bind]
  ·refine sr_bind (sr_asInt (h1.le l)) fun q3 c d l3 e => ?_
   subst e
   refine sr_bind (sr_asInt ((h2.le l).le l3)) fun q4 c' d' l4 e => ?_
   subst e
   exact sr_pure rfl
 ·exact (show okHalt (.stuck _) from trivial)
theorem v_pair (p : Ren) (a b : Nat) : V p (Extern.MathBitsCarry.pair a b) (Extern.MathBitsCarry.pair a b) := V.tuple ⟨V.int _ _ _, V.int _ _ _, trivial⟩
theorem sr_add64 {xs ys : Array Value} (h : LR (V p) xs.toList ys.toList) : SR P (fun q a b => V q a b) p (add64Entry xs) (add64Entry ys) :=
 sr_bind (sr_three _ h) fun q a b l e => by
  subst e
  exact sr_pure (v_pair _ _ _)
theorem sr_sub64 {xs ys : Array Value} (h : LR (V p) xs.toList ys.toList) : SR P (fun q a b => V q a b) p (sub64Entry xs) (sub64Entry ys) :=
 sr_bind (sr_three _ h) fun q a b l e => by
  subst e
  exact sr_pure (v_pair _ _ _)
theorem sr_extern {f : FuncId} {fn : Func} {e : Array Value → Sem Value} (h1 : P.funcs[f]? = some fn) (h2 : (co P).funcs[f]? = some fn) (hn : (fn.name == "runtime.NumGoroutine") = false) (hb : fn.body.isNone = true) (hx : Extern.findNext fn = none) (he : Extern.find fn = some e)
  {xs ys : Array Value} (h : SR P (fun q a b => V q a b) p (e xs) (e ys)) : SR P NX p (callFunc f xs) (callFunc f ys) := by
 have k : SR P NX p (e xs >>= fun v => pure (.value v)) (e ys >>= fun v => pure (.value v)) := sr_bind h fun q a b _ k => k
 simp only [callFunc, program, mark, bind, Sem.bind, pure, SR, h1, h2, hn, hb, hx, he, Bool.false_eq_true, if_false, if_true, MarkOk]
 exact .inl ⟨⟨trivial, trivial, k⟩, trivial⟩
end
end Go.Proofs.Ytpeoabopeihadaa.Sim
/- The method that the code calls by an interface. -/
namespace Go.Proofs.Ytpeoabopeihadaa.Sim
open Go
section
variable [Glob] {P : Program} {p : Ren}
theorem sr_method {t : TypeId} {i : TypeInfo} {m : Method} {f : FuncId} {d : TypeDesc} {name : String} {v v' : Value} (n : Nat) (hi : P.info? t = some i) (hm : i.methods.find? (·.name == name) = some m) (hp : m.path = #[]) (hf : m.func = some (f, false)) (hu : P.underlying t = some d) (hd : ∀ e, d ≠ .pointer e) (h : V p v v') :
  SR P (fun q a b => a.1 = f ∧ b.1 = f ∧ V q a.2 b.2) p (method (n + 1) t v name) (method (n + 1) t v' name) := by
 have hi2 : (co P).info? t = some i := hi
 have hu2 : (co P).underlying t = some d := hu
 cases d <;> first | (exact absurd rfl (hd _)) | simp [method, typeInfo, underlying, program, bind, Sem.bind, pure, SR, hi, hi2, hm, hp, hf, hu, hu2, follow, receiverAt, Place.get, h]
theorem sr_lacks {Q : Ren → FuncId × Value → FuncId × Value → Prop} {t : TypeId} {i : TypeInfo} {name : String} {v v' : Value} (n : Nat) (hi : P.info? t = some i) (hm : i.methods.find? (·.name == name) = none) : SR P Q p (method (n + 1) t v name) (method (n + 1) t v' name) := by
 have hi2 : (co P).info? t = some i := hi
 simp [method, typeInfo, program, stuck, bind, Sem.bind, pure, SR, hi, hi2, hm, okHalt]
def Shows (P : Program) (name : String) (t : TypeId) : Prop := ∃ i, P.info? t = some i ∧ (i.methods.find? (·.name == name) = none ∨
 ∃ m f d fn, i.methods.find? (·.name == name) = some m ∧ m.path = #[] ∧ m.func = some (f, false) ∧ P.underlying t = some d ∧ (∀ e, d ≠ .pointer e) ∧ (Glob.ok f = true ∧ Glob.cut f = false) ∧ P.funcs[f]? = some fn ∧ (co P).funcs[f]? = some fn ∧ fn.body.isNone = false ∧ (fn.name == "runtime.NumGoroutine") = false)
theorem sr_callMethod {name : String} (hs : ∀ t, Glob.iok t = true → Shows P name t) {x y : Value} {xs ys : Array Value} (h : V p x y) (k : LR (V p) xs.toList ys.toList) : SR P NX p (callMethod x name xs) (callMethod y name ys) := by
 obtain ⟨n, h⟩ := h
 cases n with
 | zero => simp [VR] at h
 | succ n =>
  cases x with
  | iface t v =>
   cases y <;> simp only [VR] at h
   rename_i t' v'
   obtain ⟨rfl, hv, ht⟩ := h
   obtain ⟨i, hi, hm⟩ := hs t ht
   have hsz : ∃ c, P.types.size + Made.depth = c + 1 := ⟨P.types.size + 99, rfl⟩
   obtain ⟨c, hc⟩ := hsz
   have hc2 : (co P).types.size + Made.depth = c + 1 := hc
   simp only [callMethod]
   show SR P NX p (program >>= fun P0 => method (P0.types.size + Made.depth) t v name >>= fun z => callFunc z.1 (#[z.2] ++ xs)) (program >>= fun P0 => method (P0.types.size + Made.depth) t v' name >>= fun z => callFunc z.1 (#[z.2] ++ ys))
   refine .inl ⟨?_, rfl⟩
   show SR P NX p (method (P.types.size + Made.depth) t v name >>= fun z => callFunc z.1 (#[z.2] ++ xs)) (method (P.types.size + Made.depth) t v' name >>= fun z => callFunc z.1 (#[z.2] ++ ys))
   rw [hc]
   rcases hm with hm | ⟨m, f, d, fn, hm, hp, hf, hu, hd, ⟨ok, hct⟩, h1, h2, hb, hn⟩
   ·exact sr_bind (Q := fun _ _ _ => False) (sr_lacks c hi hm) fun q a b l e => e.elim
   ·refine sr_bind (sr_method c hi hm hp hf hu hd ⟨n, hv⟩) fun q a b l e => ?_
    obtain ⟨e1, e2, e3⟩ := e
    rw [e1, e2]
    simp only [callFunc, program, bind, Sem.bind, SR, h1, h2, hb, hn, Bool.false_eq_true, if_false, pure]
    refine .inl ⟨⟨rfl, ok, ?_, fun e => by rw [hct] at e; cases e⟩, trivial⟩
    rw [Array.toList_append, Array.toList_append]
    exact LR.append ⟨e3, trivial⟩ (LR.mono (fun _ _ z => z.le l) k)
  | nilIface =>
   cases y <;> simp only [VR] at h
   exact nr_nilDeref.sr
  | _ => exact (show okHalt (.stuck _) from trivial)
end
end Go.Proofs.Ytpeoabopeihadaa.Sim
/- At the seat: functions without a body, the method. -/
namespace Go.Proofs.Ytpeoabopeihadaa.Sim
open Go
def showsB (Q : Program) (name : String) (t : TypeId) : Bool :=
 match Q.info? t with
 | some i => match i.methods.find? (·.name == name) with
  | none => true
  | some m => m.path.isEmpty && (match m.func with
   | some (f, false) => f == 205 && (match Q.underlying t with
    | some (.pointer _) => false
    | some _ => true
    | none => false)
   | _ => false)
 | none => false
theorem shows_gen (Q : Program) (name : String) (t : TypeId) (h : showsB Q name t = true) (hb : okB Q 205 = true) : @Shows (gw Q) (Tri Q) name t := by
 letI : Glob := gw Q
 unfold showsB at h
 cases hi : Q.info? t with
 | none => rw [hi] at h; cases h
 | some i =>
  rw [hi] at h
  simp only at h
  refine ⟨i, hi, ?_⟩
  cases hm : i.methods.find? (·.name == name) with
  | none => exact .inl rfl
  | some m =>
   rw [hm] at h
   simp only [Bool.and_eq_true] at h
   obtain ⟨h1, h2⟩ := h
   unfold okB at hb
   cases e1 : Q.funcs[205]? with
   | none => rw [e1] at hb; cases hb
   | some fn =>
    rw [e1] at hb
    simp only at hb
    cases e2 : fn.body with
    | none => rw [e2] at hb; cases hb
    | some c =>
     rw [e2] at hb
     simp only [Bool.and_eq_true, Bool.not_eq_true'] at hb
     cases e3 : m.func with
     | none => rw [e3] at h2; cases h2
     | some fp =>
      obtain ⟨f, b⟩ := fp
      rw [e3] at h2
      cases b with
      | true => cases h2
      | false =>
       simp only [Bool.and_eq_true, beq_iff_eq] at h2
       obtain ⟨rfl, h3⟩ := h2
       cases e4 : Q.underlying t with
       | none => rw [e4] at h3; cases h3
       | some d =>
        rw [e4] at h3
        refine .inr ⟨m, 205, d, fn, rfl, by simpa using h1, e3, e4, fun e he => ?_, ⟨rfl, rfl⟩, (Tri.func Q (by decide)).trans e1, e1, by rw [e2]; rfl, hb.2⟩
        rw [he] at h3
        cases h3
theorem shows99 : showsB Try.prog (invName Try.prog) 184 = true := by kernel_rfl
theorem shows9 : showsB Try.prog (invName Try.prog) 9 = true := by kernel_rfl
theorem ok118 : okB Try.prog 205 = true := by kernel_rfl
set_option maxRecDepth 100000 in
theorem inv_w : ∀ name, (gvW Try.prog).inv name = true → ∀ (p : Ren) (x y : Value) (xs ys : Array Value), @V (gw Try.prog) p x y → LR (@V (gw Try.prog) p) xs.toList ys.toList → @SR (gw Try.prog) _ _ (Tri Try.prog) (@NX (gw Try.prog)) p (callMethod x name xs) (callMethod y name ys) := by
 letI : Glob := gw Try.prog
 intro name hn p x y xs ys h k
 have hn : (name == invName Try.prog) = true := hn
 obtain rfl := eq_of_beq hn
 refine sr_callMethod (fun t ht => ?_) h k
 have ht : (t == 184 || t == 9) = true := ht
 rcases Bool.or_eq_true .. ▸ ht with h | h
 ·rw [eq_of_beq h]; exact shows_gen _ _ _ shows99 ok118
 ·rw [eq_of_beq h]; exact shows_gen _ _ _ shows9 ok118
theorem ext_w : ∀ f, (gvW Try.prog).ext f = true → ∀ (p : Ren) (xs ys : Array Value), LR (@V (gw Try.prog) p) xs.toList ys.toList → @SR (gw Try.prog) _ _ (Tri Try.prog) (@NX (gw Try.prog)) p (callFunc f xs) (callFunc f ys) := by
 letI : Glob := gw Try.prog
 intro f hf p xs ys h
 have hf : (f == 177 || f == 185) = true := hf
 rcases Bool.or_eq_true .. ▸ hf with e | e
 ·obtain rfl := eq_of_beq e
  exact sr_extern (e := add64Entry) (Tri.at (by decide) Try.func177) Try.func177 (by kernel_rfl) (by kernel_rfl) (by kernel_rfl) (by kernel_rfl) (sr_add64 h)
 ·obtain rfl := eq_of_beq e
  exact sr_extern (e := sub64Entry) (Tri.at (by decide) Try.func185) Try.func185 (by kernel_rfl) (by kernel_rfl) (by kernel_rfl) (by kernel_rfl) (sr_sub64 h)
end Go.Proofs.Ytpeoabopeihadaa.Sim
/- Structs of numbers, held against one another. -/
namespace Go.Proofs.Ytpeoabopeihadaa.Sim
open Go
section
variable [Glob] {P : Program} {p : Ren}
theorem sr_equalIn (hG : Glob.size = P.globals.size) (d : Nat) {t : TypeId} (ht : okType P t = true) {x x' y y' : Value} (h : V p x x') (k : V p y y') : SR P (fun _ a b => a = b) p (Op.equalIn (d + 1) t x y) (Op.equalIn (d + 1) t x' y') := by
 cases e : P.underlying t with
 | none => simp [okType, e] at ht
 | some c =>
  cases c with
  | int ki => exact eq_int hG ht e h k
  | bool => exact eq_bool e h k
  | string => exact eq_string e h k
  | slice u => exact eq_slice e h k
  | func _ _ _ => exact eq_func e h k
  | _ => simp [okType, e] at ht
theorem co_stood (t : TypeId) : (co P).stoodInHeld t = P.stoodInHeld t := by
 have al : ∀ (d : Nat) (t u : TypeId), (co P).alikeButTags d t u = P.alikeButTags d t u := by
  intro d
  induction d with
  | zero => intro t u; rfl
  | succ d ih =>
   intro t u
   have hi : ∀ t, (co P).info? t = P.info? t := fun _ => rfl
   simp only [Program.alikeButTags, hi, ih]
 have hi : ∀ t, (co P).info? t = P.info? t := fun _ => rfl
 have hc : (co P).cutTypes = P.cutTypes := rfl
 have hu : ∀ t, (co P).underlying t = P.underlying t := fun _ => rfl
 have hui : ∀ t, (co P).underlyingId t = P.underlyingId t := fun _ => rfl
 have hd : (co P).depth = P.depth := rfl
 simp only [Program.stoodInHeld, Program.stoodInAs, hc, hu, hi, hui, al, hd]
theorem sr_forIn {σ : Type} {p : Ren} {body body' : Field → σ → Sem (ForInStep σ)} : ∀ (fs : List Field), (∀ f ∈ fs, ∀ q s, Le p q → SR P (fun _ a b => a = b) q (body f s) (body' f s)) → ∀ (q : Ren) (s : σ), Le p q → SR P (fun _ a b => a = b) q (forIn fs s body) (forIn fs s body')
 | [], _, q, s, _ => by
  rw [List.forIn_nil, List.forIn_nil]
  exact sr_pure rfl
 | f :: fs, hf, q, s, l => by
  rw [List.forIn_cons, List.forIn_cons]
  refine sr_bind (hf f List.mem_cons_self q s l) (fun q2 a b l2 e => ?_)
  subst e
  cases a with
  | done c => exact sr_pure rfl
  | yield c => exact sr_forIn fs (fun g hg => hf g (List.mem_cons_of_mem _ hg)) q2 c (l.trans l2)
theorem sr_eqAgg (hG : Glob.size = P.globals.size) (d : Nat) {t : TypeId} {fs : Array Field} (ht : P.underlying t = some (.struct fs)) (hp : P.stoodInHeld t = false) (hok : ∀ f ∈ fs.toList, okType P f.type = true) {xs xs' ys ys' : Array Value} (h : LR (V p) xs.toList xs'.toList) (k : LR (V p) ys.toList ys'.toList) :
  SR P (fun _ a b => a = b) p (Op.equalIn (d + 1 + 1) t (.agg xs) (.agg ys)) (Op.equalIn (d + 1 + 1) t (.agg xs') (.agg ys')) := by
 have e1 : Op.equalIn (d + 1 + 1) t (.agg xs) (.agg ys) = Op.equalIn (d + 1 + 1) t (.agg xs) (.agg ys) := rfl
 conv at e1 => rhs; unfold Op.equalIn
 have e2 : Op.equalIn (d + 1 + 1) t (.agg xs') (.agg ys') = Op.equalIn (d + 1 + 1) t (.agg xs') (.agg ys') := rfl
 conv at e2 => rhs; unfold Op.equalIn
 rw [e1, e2]
 refine under_at ht ?_
 refine sr_program ?_ (by simp only [co_stood])
 simp only [hp, Bool.false_eq_true, if_false]
 rw [← Array.forIn_toList, ← Array.forIn_toList]
 refine sr_bind (Q := fun _ a b => a = b) (sr_forIn (p := p) fs.toList (fun f hf q s l => ?_) p _ (Le.refl p)) (fun q a b l e => ?_)
 ·refine sr_ite (fun _ => ?_) (fun _ => sr_pure rfl)
  refine sr_bind (sr_part f.type (LR.mono (fun _ _ z => z.le l) h) f.offset) (fun q2 a a' l2 e1 => ?_)
  refine sr_bind (sr_part f.type (LR.mono (fun _ _ z => z.le (l.trans l2)) k) f.offset) (fun q3 b b' l3 e2 => ?_)
  refine sr_bind (sr_equalIn hG d (hok f hf) (e1.le l3) e2) (fun q4 r r' l4 e3 => ?_)
  subst e3
  exact sr_ite (fun _ => sr_pure rfl) (fun _ => sr_pure rfl)
 ·subst e
  obtain ⟨a1, a2⟩ := a
  cases a1 <;> exact sr_pure rfl
theorem sr_eqStruct (hG : Glob.size = P.globals.size) {t : TypeId} {fs : Array Field} (ht : P.underlying t = some (.struct fs)) (hp : P.stoodInHeld t = false) (hg : P.eqGuardType P.depth t = false) (hok : ∀ f ∈ fs.toList, okType P f.type = true)
  (op : BinOp) (ho : op = .eql ∨ op = .neq) (o o' : Operand) {x x' y y' : Value} (h : V p x x') (k : V p y y') : SR P (fun q a b => V q a b) p (do eqGuard op t o o' x y; binOp op t x y) (do eqGuard op t o o' x' y'; binOp op t x' y') := by
 have dead2 : ∀ (q : Ren) (x y : Value) (f : Bool → Value) {s' : Sem Value}, ¬((∃ a, x = .agg a) ∧ ∃ b, y = .agg b) → SR P (fun q a b => V q a b) q (Op.equal t x y >>= fun b => pure (f b)) s' := fun q x y f s' hn => by
  have hD : Dead P (Op.equal t x y) := by
   show Dead P (Op.equalIn (9999 + 1) t x y)
   unfold Op.equalIn
   simp only [underlying, program, bind, Sem.bind, Dead, ht, pure]
   cases x <;> cases y <;> first
    | trivial
    | exact absurd ⟨⟨_, rfl⟩, _, rfl⟩ hn
  exact sr_dead (Dead.bind hD) (.inr ⟨_, rfl⟩)
 have dead := fun x y f {s'} hn => dead2 p x y f (s' := s') hn
 have hfx : (∀ k b, x ≠ .float k b) ∧ ∀ k b c, x ≠ .complex k b c := by
  obtain ⟨n, h⟩ := h.split
  constructor <;> (intros; intro e; subst e; cases x' <;> simp only [VR] at h)
 by_cases cn : x = .nilIface ∧ y = .nilIface
 ·obtain ⟨rfl, rfl⟩ := cn
  obtain rfl := (h.nilIface (fun a e => by cases e)).1 rfl
  obtain rfl := (k.nilIface (fun a e => by cases e)).1 rfl
  refine sr_bind (Q := fun _ _ _ => True) ?_ (fun q _ _ l _ => ?_)
  ·rcases ho with rfl | rfl <;>
    (unfold eqGuard
     simp only [Bool.not_true, Bool.false_eq_true, if_false]
     refine sr_ite (fun _ => sr_pure trivial) (fun _ => ?_)
     refine sr_bind (Q := fun _ a b => a = false ∧ b = false) (show SR P _ p (Op.eqGuardIn (9999 + 1) t .nilIface .nilIface) (Op.eqGuardIn (9999 + 1) t .nilIface .nilIface) from ?_) (fun q a b l e => ?_)
     ·unfold Op.eqGuardIn
      exact under_at ht (sr_pure ⟨rfl, rfl⟩)
     ·obtain ⟨rfl, rfl⟩ := e
      exact sr_pure trivial)
  ·rcases ho with rfl | rfl
   ·exact (dead2 q .nilIface .nilIface (fun b => .bool b) (fun h => by obtain ⟨⟨a, e⟩, _⟩ := h; cases e))
   ·exact (dead2 q .nilIface .nilIface (fun b => .bool !b) (fun h => by obtain ⟨⟨a, e⟩, _⟩ := h; cases e))
 by_cases ca : ∃ c d, x = .agg c ∧ y = .agg d
 ·obtain ⟨c, d, rfl, rfl⟩ := ca
  obtain ⟨c', rfl⟩ := h.isAgg.1 ⟨_, rfl⟩
  obtain ⟨d', rfl⟩ := k.isAgg.1 ⟨_, rfl⟩
  have hc := h.cells
  have hd := k.cells
  refine sr_bind (Q := fun _ _ _ => True) ?_ (fun q _ _ l _ => ?_)
  ·rcases ho with rfl | rfl <;>
    (unfold eqGuard
     simp only [Bool.not_true, Bool.false_eq_true, if_false]
     refine sr_program ?_ (by simp only [co_eqGuard])
     refine sr_program ?_ (by simp only [co_depth]; rfl)
     simp only [hg, Bool.not_false, if_true]
     exact sr_pure trivial)
  ·have e := sr_eqAgg (p := q) hG 9998 ht hp hok (LR.mono (fun _ _ z => z.le l) hc) (LR.mono (fun _ _ z => z.le l) hd)
   rcases ho with rfl | rfl
   ·exact sr_bind e (fun q2 a b l2 e => by subst e; exact sr_pure (V.bool _ _))
   ·exact sr_bind e (fun q2 a b l2 e => by subst e; exact sr_pure (V.bool _ _))
 rw [guard_else cn ca]
 show SR P _ p (binOp op t x y) _
 by_cases ci : ∃ k1 a k2 b, x = .int k1 a ∧ y = .int k2 b
 ·obtain ⟨k1, a, k2, b, rfl, rfl⟩ := ci
  obtain ⟨n, h⟩ := h.split
  obtain ⟨m, k⟩ := k.split
  cases x' <;> simp only [VR] at h
  cases y' <;> simp only [VR] at k
  obtain ⟨rfl, rfl⟩ := h
  obtain ⟨rfl, rfl⟩ := k
  rw [guard_else (fun e => by cases e.1) (fun ⟨c, d, e, _⟩ => by cases e)]
  exact sr_intOps _ _ _ _ _ _
 by_cases cs : ∃ a b, x = .string a ∧ y = .string b
 ·obtain ⟨a, b, rfl, rfl⟩ := cs
  obtain ⟨n, h⟩ := h.split
  obtain ⟨m, k⟩ := k.split
  cases x' <;> simp only [VR] at h
  cases y' <;> simp only [VR] at k
  subst h
  subst k
  rw [guard_else (fun e => by cases e.1) (fun ⟨c, d, e, _⟩ => by cases e)]
  exact sr_strOps _ _ _ _
 have hn : ¬((∃ a, x = .agg a) ∧ ∃ b, y = .agg b) := fun ⟨⟨a, ea⟩, b, eb⟩ => ca ⟨a, b, ea, eb⟩
 rcases ho with rfl | rfl
 ·have e : binOp .eql t x y = (Op.equal t x y >>= fun b => pure (.bool b)) := by
   cases x <;> cases y <;> first
    | rfl
    | exact absurd ⟨_, _, _, _, rfl, rfl⟩ ci
    | exact absurd ⟨_, _, rfl, rfl⟩ cs
    | exact absurd rfl (hfx.1 _ _)
    | exact absurd rfl (hfx.2 _ _ _)
  rw [e]
  exact dead x y (fun b => .bool b) hn
 ·have e : binOp .neq t x y = (Op.equal t x y >>= fun b => pure (.bool !b)) := by
   cases x <;> cases y <;> first
    | rfl
    | exact absurd ⟨_, _, _, _, rfl, rfl⟩ ci
    | exact absurd ⟨_, _, rfl, rfl⟩ cs
    | exact absurd rfl (hfx.1 _ _)
    | exact absurd rfl (hfx.2 _ _ _)
  rw [e]
  exact dead x y (fun b => .bool !b) hn
end
end Go.Proofs.Ytpeoabopeihadaa.Sim
/- What is told of the program to workers and to calls beside leavers. -/
namespace Go.Proofs.Ytpeoabopeihadaa.Sim
open Go
def eqOk (Q : Program) (t : TypeId) : Bool :=
 match Q.underlying t with
 | some (.struct fs) => fs.toList.all (fun f => okType Q f.type) && !Q.stoodInHeld t && !Q.eqGuardType Q.depth t
 | _ => false
theorem eqOk90 : eqOk Try.prog 177 = true := by kernel_rfl
theorem eqt_gen [Glob] (P : Program) (hG : Glob.size = P.globals.size) {t : TypeId} (he : eqOk P t = true) (p : Ren) (op : BinOp) (ho : op = .eql ∨ op = .neq) (o o' : Operand) (x x' y y' : Value) (h : V p x x') (k : V p y y') : SR P (fun q a b => V q a b) p (do eqGuard op t o o' x y; binOp op t x y) (do eqGuard op t o o' x' y'; binOp op t x' y') := by
 unfold eqOk at he
 split at he
 ·next fs ht =>
  simp only [Bool.and_eq_true, Bool.not_eq_true'] at he
  exact sr_eqStruct hG ht he.1.2 he.2 (List.all_eq_true.1 he.1.1) op ho o o' h k
 ·cases he
theorem eqOk_tri (Q : Program) (t : TypeId) (h : eqOk Q t = true) : eqOk (Tri Q) t = true := by
 unfold eqOk at h ⊢
 rw [Tri.underlying]
 split at h
 ·next fs ht =>
  have hd : (Tri Q).depth = Q.depth := rfl
  rw [Tri.stoodInHeld, hd, Tri.eqGuardType]
  exact h
 ·cases h
theorem hooks_w : @Hooks (gw Try.prog) (Tri Try.prog) := by
 letI : Glob := gw Try.prog
 refine ⟨ext_w, inv_w, fun t ht p op ho o o' x x' y y' h k => ?_⟩
 have ht : (t == 177) = true := ht
 obtain rfl := eq_of_beq ht
 exact eqt_gen (Tri Try.prog) rfl (eqOk_tri _ _ eqOk90) p op ho o o' x x' y y' h k
theorem told : @Told (gw Try.prog) (Tri Try.prog) := told_w hooks_w
end Go.Proofs.Ytpeoabopeihadaa.Sim
/- What is told of the program to the laws: Solve parts. -/
namespace Go.Proofs.Ytpeoabopeihadaa.Sim
open Go
def listL : List Nat := [3, 5, 6, 7, 8, 9, 10, 11, 12, 13, 14, 15, 16, 17, 18, 19, 20, 22, 23, 24, 25, 26, 27, 28, 29, 30, 31, 32, 33, 34, 35, 36, 37, 38, 39, 40, 41, 42, 43, 44, 45, 46, 48, 49, 50, 51, 52, 53, 54, 55, 56, 58, 59, 60, 61, 62, 63, 64, 65, 66, 67, 68, 69, 70, 71, 72, 73, 74, 75, 76, 77, 78, 79, 80, 81, 82, 83, 84, 85, 86, 87, 88, 89, 90, 91, 92, 93, 94, 95, 96, 97, 98, 99, 100, 101, 102, 103, 104, 106, 107, 108, 109, 110, 111, 112, 115, 116, 117, 118, 119, 120, 121, 122, 123, 124, 125, 126, 127, 128, 129, 130, 131, 132, 134, 135, 136, 137, 141, 142, 143, 144, 145, 146, 147, 149, 150, 151, 152, 153, 154, 155, 156, 157, 158, 159, 160, 161, 162, 163, 164, 165, 166, 167, 168, 169, 170, 171, 172, 173, 174, 175, 176, 178, 179, 180, 181, 182, 183, 184, 186, 187, 188, 204, 205]
def gvL (Q : Program) : GlobS where
 size := Q.globals.size
 ok := fun f => listL.contains f
 glob := fun g => g == 0 || g == 1
 funcs := Q.funcs
 cut := fun f => f == 15
 ext := fun f => f == 177 || f == 185
 inv := fun s => s == invName Q
 eqt := fun t => [177, 65, 68, 100].contains t
 dead := fun _ => false
 iok := fun t => t == 184 || (t == 9 || t == 169)
abbrev gl (Q : Program) : Glob := ⟨gvL Q⟩
def okL (Q : Program) (f : Nat) : Bool :=
 match (Tri Q).funcs[f]? with
 | some fn => match fn.body with
  | some c => @codeOk (gl Q) (Tri Q) c && !(fn.name == "runtime.NumGoroutine")
  | none => false
 | none => false
def okL2 (Q : Program) (f : Nat) : Bool :=
 match Q.funcs[f]? with
 | some fn => !fn.body.isNone && !(fn.name == "runtime.NumGoroutine")
 | none => false
theorem okL_all : listL.all (okL Try.prog) = true := by kernel_rfl
theorem okL2_all : listL.all (okL2 Try.prog) = true := by kernel_rfl
theorem zerosL : @zerosB (gl Try.prog) Try.prog = true := by kernel_rfl
theorem zero_genL (Q : Program) (hz : @zerosB (gl Q) Q = true) : @Zero (gl Q) (Tri Q) := @zero_of (gl Q) (Tri Q) hz
theorem zero_l : @Zero (gl Try.prog) (Tri Try.prog) := zero_genL _ zerosL
theorem codes_genL (Q : Program) (h9 : 15 < Q.funcs.size) (hall : listL.all (okL Q) = true) (hall2 : listL.all (okL2 Q) = true) (hn : ∀ g : FuncId, ((Tri Q).funcs[g]?).any (fun f : Func => f.norace) = (Q.funcs[g]?).any (fun f : Func => f.norace)) (hh : @Hooks (gl Q) (Tri Q)) : @Codes (gl Q) (Tri Q) := by
 letI : Glob := gl Q
 refine ⟨hh, fun f hf => ?_⟩
 have hm : f ∈ listL := List.contains_iff_mem.1 hf
 have hb := List.all_eq_true.1 hall f hm
 have hb2 := List.all_eq_true.1 hall2 f hm
 unfold okL at hb
 unfold okL2 at hb2
 cases e1 : (Tri Q).funcs[f]? with
 | none => rw [e1] at hb; cases hb
 | some fn =>
  rw [e1] at hb
  simp only at hb
  cases e2 : fn.body with
  | none => rw [e2] at hb; cases hb
  | some c =>
   rw [e2] at hb
   simp only [Bool.and_eq_true, Bool.not_eq_true'] at hb
   cases e3 : Q.funcs[f]? with
   | none => rw [e3] at hb2; cases hb2
   | some fn2 =>
    rw [e3] at hb2
    simp only [Bool.and_eq_true, Bool.not_eq_true'] at hb2
    refine ⟨fn, c, rfl, e2, hb.1, hb.2, fn2, e3, hb2.1, hb2.2, fun hcut => ?_, fun g => (hn g).symm⟩
    have hne : f ≠ 15 := fun e => by
     have hcut : (f == 15) = false := hcut
     rw [e] at hcut
     cases hcut
    rw [Tri.func Q hne, e3] at e1
    exact Option.some.inj e1
def showsF (Q : Program) (name : String) (t : TypeId) (m0 : Nat) : Bool :=
 match Q.info? t with
 | some i => match i.methods.find? (·.name == name) with
  | none => true
  | some m => m.path.isEmpty && (match m.func with
   | some (f, false) => f == m0 && (match Q.underlying t with
    | some (.pointer _) => false
    | some _ => true
    | none => false)
   | _ => false)
 | none => false
theorem shows_genL (Q : Program) (name : String) (t : TypeId) (m0 : Nat) (hm0 : m0 ≠ 15) (hm1 : listL.contains m0 = true) (h : showsF Q name t m0 = true) (hb : okL Q m0 = true) : @Shows (gl Q) (Tri Q) name t := by
 letI : Glob := gl Q
 unfold showsF at h
 cases hi : Q.info? t with
 | none => rw [hi] at h; cases h
 | some i =>
  rw [hi] at h
  simp only at h
  refine ⟨i, hi, ?_⟩
  cases hm : i.methods.find? (·.name == name) with
  | none => exact .inl rfl
  | some m =>
   rw [hm] at h
   simp only [Bool.and_eq_true] at h
   obtain ⟨h1, h2⟩ := h
   unfold okL at hb
   cases e1 : (Tri Q).funcs[m0]? with
   | none => rw [e1] at hb; cases hb
   | some fn =>
    rw [e1] at hb
    simp only at hb
    cases e2 : fn.body with
    | none => rw [e2] at hb; cases hb
    | some c =>
     rw [e2] at hb
     simp only [Bool.and_eq_true, Bool.not_eq_true'] at hb
     cases e3 : m.func with
     | none => rw [e3] at h2; cases h2
     | some fp =>
      obtain ⟨f, b⟩ := fp
      rw [e3] at h2
      cases b with
      | true => cases h2
      | false =>
       simp only [Bool.and_eq_true, beq_iff_eq] at h2
       obtain ⟨hf0, h3⟩ := h2
       subst hf0
       cases e4 : Q.underlying t with
       | none => rw [e4] at h3; cases h3
       | some d =>
        rw [e4] at h3
        refine .inr ⟨m, f, d, fn, rfl, by simpa using h1, e3, e4, fun e he => ?_, ⟨hm1, show (f == 15) = false by simpa using hm0⟩, e1, (Tri.func Q hm0).symm.trans e1, by rw [e2]; rfl, hb.2⟩
        rw [he] at h3
        cases h3
theorem showsL99 : showsF Try.prog (invName Try.prog) 184 205 = true := by kernel_rfl
theorem showsL9 : showsF Try.prog (invName Try.prog) 9 205 = true := by kernel_rfl
theorem showsL74 : showsF Try.prog (invName Try.prog) 169 204 = true := by kernel_rfl
theorem okL118 : okL Try.prog 205 = true := by kernel_rfl
theorem okL117 : okL Try.prog 204 = true := by kernel_rfl
set_option maxRecDepth 100000 in
theorem inv_l : ∀ name, (gvL Try.prog).inv name = true → ∀ (p : Ren) (x y : Value) (xs ys : Array Value), @V (gl Try.prog) p x y → LR (@V (gl Try.prog) p) xs.toList ys.toList → @SR (gl Try.prog) _ _ (Tri Try.prog) (@NX (gl Try.prog)) p (callMethod x name xs) (callMethod y name ys) := by
 letI : Glob := gl Try.prog
 intro name hn p x y xs ys h k
 have hn : (name == invName Try.prog) = true := hn
 obtain rfl := eq_of_beq hn
 refine sr_callMethod (fun t ht => ?_) h k
 have ht : (t == 184 || (t == 9 || t == 169)) = true := ht
 rcases Bool.or_eq_true .. ▸ ht with h | h
 ·rw [eq_of_beq h]; exact shows_genL _ _ _ _ (by decide) rfl showsL99 okL118
 ·rcases Bool.or_eq_true .. ▸ h with h | h
  ·rw [eq_of_beq h]; exact shows_genL _ _ _ _ (by decide) rfl showsL9 okL118
  ·rw [eq_of_beq h]; exact shows_genL _ _ _ _ (by decide) rfl showsL74 okL117
theorem ext_l : ∀ f, (gvL Try.prog).ext f = true → ∀ (p : Ren) (xs ys : Array Value), LR (@V (gl Try.prog) p) xs.toList ys.toList → @SR (gl Try.prog) _ _ (Tri Try.prog) (@NX (gl Try.prog)) p (callFunc f xs) (callFunc f ys) := by
 letI : Glob := gl Try.prog
 intro f hf p xs ys h
 have hf : (f == 177 || f == 185) = true := hf
 rcases Bool.or_eq_true .. ▸ hf with e | e
 ·obtain rfl := eq_of_beq e
  exact sr_extern (e := add64Entry) (Tri.at (by decide) Try.func177) Try.func177 (by kernel_rfl) (by kernel_rfl) (by kernel_rfl) (by kernel_rfl) (sr_add64 h)
 ·obtain rfl := eq_of_beq e
  exact sr_extern (e := sub64Entry) (Tri.at (by decide) Try.func185) Try.func185 (by kernel_rfl) (by kernel_rfl) (by kernel_rfl) (by kernel_rfl) (sr_sub64 h)
theorem eqOkL : [177, 65, 68, 100].all (eqOk Try.prog) = true := by kernel_rfl
theorem hooks_l : @Hooks (gl Try.prog) (Tri Try.prog) := by
 letI : Glob := gl Try.prog
 refine ⟨ext_l, inv_l, fun t ht p op ho o o' x x' y y' h k => ?_⟩
 have ht : [177, 65, 68, 100].contains t = true := ht
 exact eqt_gen (Tri Try.prog) rfl (eqOk_tri _ _ (List.all_eq_true.1 eqOkL t (List.contains_iff_mem.1 ht))) p op ho o o' x x' y y' h k
theorem codes_l : @Codes (gl Try.prog) (Tri Try.prog) := codes_genL _ (lt_of_get Try.func15) okL_all okL2_all norace_w hooks_l
end Go.Proofs.Ytpeoabopeihadaa.Sim
/- A clean world in the place of one of which little is known: blocks that are read, frozen; nothing else. No program of the project in this text. -/
namespace Go.Proofs.Ytpeoabopeihadaa.Sim
open Go
section
variable [Glob] {P : Program}
theorem tok_ex (p : Ren) : ∀ (n : Nat) (v : Value), SizeOf.sizeOf v ≤ n → ∃ x, V p x v := by
 intro n
 induction n with
 | zero => intro v h; cases v <;> simp at h
 | succ n ih =>
  intro v h
  cases v with
  | bool b => exact ⟨_, V.bool p b⟩
  | agg cs =>
   have each : ∀ (l : List Value), (∀ c ∈ l, SizeOf.sizeOf c ≤ n) → ∃ xs, LR (V p) xs l := by
    intro l
    induction l with
    | nil => exact fun _ => ⟨[], trivial⟩
    | cons c r ihl =>
     intro hl
     obtain ⟨x, hx⟩ := ih c (hl c List.mem_cons_self)
     obtain ⟨xs, hxs⟩ := ihl (fun d hd => hl d (List.mem_cons_of_mem _ hd))
     exact ⟨x :: xs, hx, hxs⟩
   obtain ⟨xs, hxs⟩ := each cs.toList (fun c hc => by
    have h1 : SizeOf.sizeOf c < SizeOf.sizeOf cs := Array.sizeOf_lt_of_mem (by simpa using hc)
    have h2 : SizeOf.sizeOf (Value.agg cs) = 1 + SizeOf.sizeOf cs := by simp
    omega)
   exact ⟨.agg xs.toArray, V.agg (by simpa using hxs)⟩
  | _ => exact ⟨.tuple #[], V.void p (fun b e => by cases e) (fun b e => by cases e)⟩
theorem row_ex (p : Ren) : ∀ (ys : List Value), ∃ xs : List Value, LR (V p) xs ys ∧ ∀ (i : Nat) (y : Value), ys[i]? = some y → V p y y → xs[i]? = some y
 | [] => ⟨[], trivial, fun i y h => by simp at h⟩
 | y :: ys => by
  obtain ⟨xs, h1, h2⟩ := row_ex p ys
  by_cases hy : V p y y
  ·exact ⟨y :: xs, ⟨hy, h1⟩, fun i z hz hv => by
    cases i with
    | zero => simpa using hz
    | succ i => simpa using h2 i z (by simpa using hz) hv⟩
  ·obtain ⟨x, hx⟩ := tok_ex p _ y (Nat.le_refl _)
   exact ⟨x :: xs, ⟨hx, h1⟩, fun i z hz hv => by
    cases i with
    | zero =>
     have e : y = z := by simpa using hz
     subst e
     exact absurd hv hy
    | succ i => simpa using h2 i z (by simpa using hz) hv⟩
theorem clean_ex (u : World) (sel : Nat → Prop) (hs : ∀ b, sel b → ∃ ys t gz, u.heap[b]? = some (.cells ys t gz)) (hd : ∀ g, Glob.dead g = true → ¬ sel g ∧ g < u.heap.size) (hb : Glob.size ≤ u.heap.size) :
  ∃ (p : Ren) (w : World), (∀ b c, p b = some c ↔ sel b ∧ c = b) ∧ w.heap.size = u.heap.size ∧ WR p w u ∧ (∀ b, sel b → Fz w b) ∧ ∀ b i y, sel b → u.cell? ⟨b, i, none⟩ = some y → V p y y → w.cell? ⟨b, i, none⟩ = some y := by
 classical
 obtain ⟨p, hp⟩ : ∃ p : Ren, ∀ b c, p b = some c ↔ sel b ∧ c = b := ⟨fun b => if sel b then some b else none, fun b c => by
  by_cases h : sel b
  ·simp only [h, if_true, Option.some.injEq, true_and]
   exact eq_comm
  ·simp [h]⟩
 obtain ⟨f, hf⟩ : ∃ f : Nat → Obj, ∀ b, (sel b → ∃ ys t gz xs, u.heap[b]? = some (.cells ys t gz) ∧ f b = .cells xs t (0, xs.size) ∧ LR (V p) xs.toList ys.toList ∧ ∀ (i : Nat) (y : Value), ys[i]? = some y → V p y y → xs[i]? = some y) ∧ (¬ sel b → f b = .cells #[] 0 (0, 0)) := by
  refine (Classical.skolem (p := fun b (o : Obj) => (sel b → ∃ ys t gz xs, u.heap[b]? = some (.cells ys t gz) ∧ o = .cells xs t (0, xs.size) ∧ LR (V p) xs.toList ys.toList ∧ ∀ (i : Nat) (y : Value), ys[i]? = some y → V p y y → xs[i]? = some y) ∧ (¬ sel b → o = .cells #[] 0 (0, 0)))).1 (fun b => ?_)
  by_cases h : sel b
  ·obtain ⟨ys, t, gz, e⟩ := hs b h
   obtain ⟨xs, h1, h2⟩ := row_ex p ys.toList
   exact ⟨.cells xs.toArray t (0, xs.toArray.size), fun _ => ⟨ys, t, gz, xs.toArray, e, rfl, by simpa using h1, fun i y hi hv => by
    have := h2 i y (by rw [Array.getElem?_toList]; exact hi) hv
    simpa using this⟩, fun hn => absurd h hn⟩
  ·exact ⟨.cells #[] 0 (0, 0), fun hh => absurd hh h, fun _ => rfl⟩
 have at_ : ∀ b, b < u.heap.size → ((Array.range u.heap.size).map f)[b]? = some (f b) := fun b hb => by simp [hb]
 have lt_ : ∀ b, sel b → b < u.heap.size := fun b h => by
  obtain ⟨ys, t, gz, e⟩ := hs b h
  exact (Array.getElem?_eq_some_iff.1 e).1
 refine ⟨p, { u with heap := (Array.range u.heap.size).map f }, hp, by simp, ⟨fun b c e => ?_, fun b d c e1 e2 => ?_, ⟨by simpa using hb, hb⟩, fun g hg => ?_⟩, fun b h => ?_, fun b i y h hy hv => ?_⟩
 ·obtain ⟨h, rfl⟩ := (hp b c).1 e
  obtain ⟨ys, t, gz, xs, e1, e2, e3, _⟩ := (hf c).1 h
  exact ⟨_, _, at_ c (lt_ c h), e1, by rw [e2]; exact .inl ⟨xs, t, _, ys, gz, rfl, rfl, e3, .inr (.inr ⟨rfl, Nat.le_refl _⟩)⟩⟩
 ·rw [← ((hp b c).1 e1).2, ← ((hp d c).1 e2).2]
 ·obtain ⟨h1, h2⟩ := hd g hg
  refine ⟨?_, 0, (0, 0), (at_ g h2).trans (by rw [(hf g).2 h1])⟩
  cases e : p g with
  | none => rfl
  | some c => exact absurd ((hp g c).1 e).1 h1
 ·obtain ⟨ys, t, gz, xs, e1, e2, _⟩ := (hf b).1 h
  exact ⟨xs, t, xs.size, (at_ b (lt_ b h)).trans (by rw [e2]), Nat.le_refl _⟩
 ·obtain ⟨ys, t, gz, xs, e1, e2, _, e4⟩ := (hf b).1 h
  have hy : ys[i]? = some y := by simpa [World.cell?, e1] using hy
  have := e4 i y hy hv
  show World.cell? _ _ = _
  simp only [World.cell?, at_ b (lt_ b h), e2, Option.isSome_none, Bool.false_eq_true, if_false]
  exact this
end
end Go.Proofs.Ytpeoabopeihadaa.Sim
