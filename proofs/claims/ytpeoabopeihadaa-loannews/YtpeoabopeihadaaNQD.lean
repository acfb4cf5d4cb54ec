/- The goroutine that eir.ask starts: from its birth to the call, and from the answer to the send. -/
import Derived.Test.YtpeoabopeihadaaNQC
import Derived.Test.YtpeoabopeihadaaNTri
import Derived.Conc.TokenWords
import Derived.Conc.DeferLaws
import Derived.KernelRfl
import Derived.Laws.NewBlocks
import Derived.Conc.SmallLaws
set_option linter.unusedVariables false
set_option linter.unusedSimpArgs false
set_option linter.unusedSectionVars false
set_option maxHeartbeats 4000000
namespace Go.Proofs.Ytpeoabopeihadaa.Sim
open Go Go.Conc
abbrev ii (n : Int) : Value := .int .i64 n
abbrev bb (b : Bool) : Value := .bool b
abbrev cc (n : Nat) : Value := .chan (some n)
abbrev tt (a b : Int) : Value := .tuple #[.int .i64 a, .int .i64 b]
abbrev Z : Value := undef
def botF (Q : Program) : Frame := { (default : Frame) with fn := Q.funcs.size, defers := [], mode := .panicking [goexitEntry] }
abbrev pt (b : Nat) : Value := .pointer (some ⟨b, 0, none⟩)
def call54 (c h n : Nat) : Deferred := { target := .fn (.func 148) #[pt c, pt h, pt n], args := #[] }
def opsOf (f : Func) : Array Oper := match f.body with | some (.region _ ops _) => ops | _ => #[]
theorem body54 : Try.f148.body = some (.region 0 (opsOf Try.f148) true) := rfl
theorem born54 (c h n : Nat) (u : World) : stepG Try.prog false (born Try.prog (call54 c h n)) u =
  .go (G ((baseD 148).at ⟨#[pt c, pt h, pt n, undef, undef, undef, undef], []⟩ [.code (.region 0 (opsOf Try.f148) true)]) [botF Try.prog]) u #[] := by
 simp [born, call54, stepG, unwind, callDeferred, invoke, callFunc, Try.func148, body54, seen, GStep.after, G, Frame.enter, Frame.at, baseD, botF]
 simp [Try.f148]
 rfl
theorem ord54 (m : Bool) (t : Nat) : Region.schedule m (opsOf Try.f148) t ∈ [[0, 1, 2, 3, 4], [0, 2, 1, 3, 4], [1, 0, 2, 3, 4], [1, 2, 0, 3, 4], [1, 2, 3, 0, 4], [2, 0, 1, 3, 4], [2, 1, 0, 3, 4], [2, 1, 3, 0, 4]] := by
 have h := schedule_all m (opsOf Try.f148) (by kernel_rfl) t
 have e : orders .any (opsOf Try.f148) (opsOf Try.f148).size (Array.replicate (opsOf Try.f148).size false) = [[0, 1, 2, 3, 4], [0, 2, 1, 3, 4], [1, 0, 2, 3, 4], [1, 2, 0, 3, 4], [1, 2, 3, 0, 4], [2, 0, 1, 3, 4], [2, 1, 0, 3, 4], [2, 1, 3, 0, 4]] := by kernel_rfl
 rw [e] at h
 exact h
section
variable {own rd : Nat → Prop}
theorem ld_run {ty : TypeId} {ev : Operand → Value} {x : Operand} {d : Option Nat} {t : TypeId} {ps : String} {af : Array Edge} {gd : Option (Nat × Bool)} {b : Nat} {v : Value} {u : World} (hx : ev x = pt b) (hc : u.cell? ⟨b, 0, none⟩ = some v) (ht : (_root_.Go.isAgg ty).run Try.prog u = .ok false u) (hr : own b ∨ rd b) :
  (execOp ev { dst := d, op := .load ty x, type := t, pos := ps, after := af, guard := gd }).run Try.prog u = .ok (.value v) u ∧
   ∀ e ∈ (execOp ev { dst := d, op := .load ty x, type := t, pos := ps, after := af, guard := gd }).events Try.prog u #[], EvR own rd e := by
 refine ⟨by simp [execOp, go_sem, hx, hc, ht], fun e h => ?_⟩
 simp [execOp, go_sem, hx, hc, ht] at h
 rw [h]
 exact evR_ld hr
theorem agg81 (u : World) : (_root_.Go.isAgg 179).run Try.prog u = .ok false u := by simp [_root_.Go.isAgg, go_sem, run_underlying Try.underlying179]
theorem agg54 (u : World) : (_root_.Go.isAgg 92).run Try.prog u = .ok false u := by simp [_root_.Go.isAgg, go_sem, run_underlying Try.underlying92]
theorem agg2 (u : World) : (_root_.Go.isAgg 2).run Try.prog u = .ok false u := by simp [_root_.Go.isAgg, go_sem, run_underlying Try.underlying2]
abbrev holdsV (o l : Nat) : Value := .func (.func 48) #[] #[pt o, pt l]
theorem call_run {ev : Operand → Value} {d : Option Nat} {t : TypeId} {ps : String} {af : Array Edge} {gd : Option (Nat × Bool)} {o l : Nat} {n : Int} {u : World} (hx : ev (.tmp 4) = holdsV o l) (hn : ev (.tmp 5) = .int .i64 n) :
  (execOp ev { dst := d, op := .call { callee := .value (.tmp 4), args := #[.tmp 5], argTypes := #[2] }, type := t, pos := ps, after := af, guard := gd }).run Try.prog u = .ok (.enter 48 #[.int .i64 n, pt o, pt l]) u ∧
   ∀ e ∈ (execOp ev { dst := d, op := .call { callee := .value (.tmp 4), args := #[.tmp 5], argTypes := #[2] }, type := t, pos := ps, after := af, guard := gd }).events Try.prog u #[], EvR own rd e := by
 refine ⟨by simp [execOp, go_sem, hx, hn, invoke, callFunc, Try.func48, Try.f48], fun e h => ?_⟩
 simp [execOp, go_sem, hx, hn, invoke, callFunc, Try.func48, Try.f48] at h
theorem quitsTail (T : Array Value) : QuitsD Try.prog 2 0 (G { (baseD 148).at ⟨T, []⟩ [] with mode := .returning } [botF Try.prog]) := by
 refine QuitsD.ctl (g' := G (botF Try.prog) []) rfl (fun w => ?_) ?_
 ·simp [G, stepG, unwind, doReturn, results, Frame.at, baseD, botF, Try.func148, seen, GStep.after, goexitEntry]
 refine QuitsD.ctl (g' := { G (botF Try.prog) [] with status := .finished }) rfl (fun w => ?_) ⟨rfl, rfl⟩
 simp [G, stepG, unwind, botF, goexitEntry, Frame.catches]
 rfl
theorem send54 {a : Go.Act} {c : Nat} {ans : Bool} {u : World} (hd : a.defers = []) (h3 : a.eval (.tmp 3) = .chan (some c)) (h6 : a.eval (.tmp 6) = .bool ans) : AtSend Try.prog c (.bool ans) own (G ((baseD 148).at a [.inRegion (opsOf Try.f148) [4]]) [botF Try.prog]) u := by
 refine ⟨G ((baseD 148).at a [.inRegion (opsOf Try.f148) [4]]) [botF Try.prog], .tuple #[], 4, ?_, ?_⟩
 ·rw [stepG_comm (P := Try.prog) (ops := opsOf Try.f148) (i := 4) (rest := []) (o := (opsOf Try.f148)[4]'(by decide)) rfl rfl (by decide) (w' := u) (cases := #[scase c (.bool ans) (.tuple #[])]) (blocking := true) (shape := .send) (by simp [execOp, scase, opsOf, Try.f148, h3, h6]), listed_none (by simp [go_sem, execOp, opsOf, Try.f148, h3, h6])]
 ·rw [served_fr, Frame.finish_at]
  refine QuitsD.ctl rfl (fun w => stepG_region_end) ?_
  refine QuitsD.ctl rfl (fun w => stepG_end) ?_
  obtain ⟨T, D⟩ := a
  cases hd
  exact quitsTail T
end
end Go.Proofs.Ytpeoabopeihadaa.Sim
/- The goroutine that eir.ask starts, in all its orders. -/
namespace Go.Proofs.Ytpeoabopeihadaa.Sim
open Go Go.Conc
section
variable {own rd : Nat → Prop}
theorem cs2 {U u u' : World} {b : Nat} {v : Value} (hu : ∀ c, rd c → u.heap[c]? = U.heap[c]?) (hr : rd b) (k : Keeps (fun b => own b ∨ rd b) u u') (h : U.cell? ⟨b, 0, none⟩ = some v) : u'.cell? ⟨b, 0, none⟩ = some v := by
 have e : u'.heap[b]? = U.heap[b]? := (k.same b (.inr hr)).trans (hu b hr)
 simp only [World.cell?, e] at h ⊢
 exact h
variable [Glob]
theorem wk54 {P : Program} (hco : co P = Try.prog) {Post : Value → Array Obj → Prop} {U : World} {c cA hB nB oB lB : Nat} {n : Int} {ans : Bool}
  (hc : U.cell? ⟨cA, 0, none⟩ = some (.chan (some c))) (hh : U.cell? ⟨hB, 0, none⟩ = some (holdsV oB lB)) (hn : U.cell? ⟨nB, 0, none⟩ = some (.int .i64 n))
  (rc : rd cA) (rh : rd hB) (rn : rd nB) (hP : ∀ x h q x', Post x h → V q x x' → x' = .bool ans)
  (hmid : ∀ u', (∀ c, rd c → u'.heap[c]? = U.heap[c]?) → U.heap.size ≤ u'.heap.size → ∃ s p, Acc (Ahead P) s ∧ Mid P Post rd own p s (Frame.enter Try.prog 48 #[.int .i64 n, pt oB, pt lB] .normal) [] u')
  {u : World} (hu : ∀ c, rd c → u.heap[c]? = U.heap[c]?) (hs : U.heap.size ≤ u.heap.size) :
  WGo (co P) rd (AtMid P Post rd U c (.bool ans)) 6 own (born Try.prog (call54 cA hB nB)) u := by
 rw [hco]
 have mid : ∀ (a : Go.Act) (rest : List Nat), (∀ x own' u', x = .bool ans → (∀ c, rd c → u'.heap[c]? = U.heap[c]?) → ∃ n, WGo Try.prog rd (AtSend Try.prog c (.bool ans)) n own' (G ((baseD 148).at (a.put (some 6) x) [.inRegion (opsOf Try.f148) rest]) [botF Try.prog]) u') →
   ∀ m, WGo Try.prog rd (AtMid P Post rd U c (.bool ans)) m own (G (Frame.enter Try.prog 48 #[.int .i64 n, pt oB, pt lB] .normal) ((baseD 148).at a [.inRegion (opsOf Try.f148) (3 :: rest)] :: [botF Try.prog])) u := by
  intro a rest hk m
  refine WGo.stop rfl fun u' k => ?_
  have hu' : ∀ c, rd c → u'.heap[c]? = U.heap[c]? := fun c hr => (k.same c (.inr hr)).trans (hu c hr)
  obtain ⟨s, p, ha, hm⟩ := hmid u' hu' (Nat.le_trans hs k.size)
  refine ⟨s, ha, p, _, [], _, [botF Try.prog], rfl, hm, fun x h x' q own' u2 h1 h2 h3 => ?_⟩
  rw [Frame.finish_at, hco]
  exact hk x' own' u2 (hP _ _ _ _ h1 h2) h3
 refine WGo.ctl (fun u' => born54 cA hB nB u') rfl ?_
 refine WGo.drawn (F := fun t => G ((baseD 148).at ⟨#[pt cA, pt hB, pt nB, undef, undef, undef, undef], []⟩ [.inRegion (opsOf Try.f148) (Region.schedule (Try.prog.follows .mixedOrders) (opsOf Try.f148) t)]) [botF Try.prog]) (fun u' => stepG_region_draw) rfl fun t => ?_
 have ho := ord54 (Try.prog.follows .mixedOrders) t
 generalize Region.schedule (Try.prog.follows .mixedOrders) (opsOf Try.f148) t = ord at ho
 simp only [List.mem_cons, List.not_mem_nil, or_false] at ho
 rcases ho with rfl | rfl | rfl | rfl | rfl | rfl | rfl | rfl
 ·refine WGo.value (ops := opsOf Try.f148) rfl rfl (by decide) (fun u' k => ld_run rfl (cs2 hu rc k hc) (agg81 _) (.inr rc)) ?_
  refine WGo.value (ops := opsOf Try.f148) rfl rfl (by decide) (fun u' k => ld_run rfl (cs2 hu rh k hh) (agg54 _) (.inr rh)) ?_
  refine WGo.value (ops := opsOf Try.f148) rfl rfl (by decide) (fun u' k => ld_run rfl (cs2 hu rn k hn) (agg2 _) (.inr rn)) ?_
  refine WGo.enter (ops := opsOf Try.f148) rfl rfl (by decide) (fun u' k => call_run rfl rfl) ?_
  refine mid _ _ (fun x own2 u2 hx hu2 => ?_) _
  subst hx
  refine ⟨0, ?_⟩
  exact WGo.stop rfl fun u' k => send54 rfl rfl rfl
 ·refine WGo.value (ops := opsOf Try.f148) rfl rfl (by decide) (fun u' k => ld_run rfl (cs2 hu rc k hc) (agg81 _) (.inr rc)) ?_
  refine WGo.value (ops := opsOf Try.f148) rfl rfl (by decide) (fun u' k => ld_run rfl (cs2 hu rn k hn) (agg2 _) (.inr rn)) ?_
  refine WGo.value (ops := opsOf Try.f148) rfl rfl (by decide) (fun u' k => ld_run rfl (cs2 hu rh k hh) (agg54 _) (.inr rh)) ?_
  refine WGo.enter (ops := opsOf Try.f148) rfl rfl (by decide) (fun u' k => call_run rfl rfl) ?_
  refine mid _ _ (fun x own2 u2 hx hu2 => ?_) _
  subst hx
  refine ⟨0, ?_⟩
  exact WGo.stop rfl fun u' k => send54 rfl rfl rfl
 ·refine WGo.value (ops := opsOf Try.f148) rfl rfl (by decide) (fun u' k => ld_run rfl (cs2 hu rh k hh) (agg54 _) (.inr rh)) ?_
  refine WGo.value (ops := opsOf Try.f148) rfl rfl (by decide) (fun u' k => ld_run rfl (cs2 hu rc k hc) (agg81 _) (.inr rc)) ?_
  refine WGo.value (ops := opsOf Try.f148) rfl rfl (by decide) (fun u' k => ld_run rfl (cs2 hu rn k hn) (agg2 _) (.inr rn)) ?_
  refine WGo.enter (ops := opsOf Try.f148) rfl rfl (by decide) (fun u' k => call_run rfl rfl) ?_
  refine mid _ _ (fun x own2 u2 hx hu2 => ?_) _
  subst hx
  refine ⟨0, ?_⟩
  exact WGo.stop rfl fun u' k => send54 rfl rfl rfl
 ·refine WGo.value (ops := opsOf Try.f148) rfl rfl (by decide) (fun u' k => ld_run rfl (cs2 hu rh k hh) (agg54 _) (.inr rh)) ?_
  refine WGo.value (ops := opsOf Try.f148) rfl rfl (by decide) (fun u' k => ld_run rfl (cs2 hu rn k hn) (agg2 _) (.inr rn)) ?_
  refine WGo.value (ops := opsOf Try.f148) rfl rfl (by decide) (fun u' k => ld_run rfl (cs2 hu rc k hc) (agg81 _) (.inr rc)) ?_
  refine WGo.enter (ops := opsOf Try.f148) rfl rfl (by decide) (fun u' k => call_run rfl rfl) ?_
  refine mid _ _ (fun x own2 u2 hx hu2 => ?_) _
  subst hx
  refine ⟨0, ?_⟩
  exact WGo.stop rfl fun u' k => send54 rfl rfl rfl
 ·refine WGo.value (ops := opsOf Try.f148) rfl rfl (by decide) (fun u' k => ld_run rfl (cs2 hu rh k hh) (agg54 _) (.inr rh)) ?_
  refine WGo.value (ops := opsOf Try.f148) rfl rfl (by decide) (fun u' k => ld_run rfl (cs2 hu rn k hn) (agg2 _) (.inr rn)) ?_
  refine WGo.enter (ops := opsOf Try.f148) rfl rfl (by decide) (fun u' k => call_run rfl rfl) ?_
  refine mid _ _ (fun x own2 u2 hx hu2 => ?_) _
  subst hx
  refine ⟨1, ?_⟩
  refine WGo.value (ops := opsOf Try.f148) rfl rfl (by decide) (fun u' k => ld_run rfl (cs2 hu2 rc k hc) (agg81 _) (.inr rc)) ?_
  exact WGo.stop rfl fun u' k => send54 rfl rfl rfl
 ·refine WGo.value (ops := opsOf Try.f148) rfl rfl (by decide) (fun u' k => ld_run rfl (cs2 hu rn k hn) (agg2 _) (.inr rn)) ?_
  refine WGo.value (ops := opsOf Try.f148) rfl rfl (by decide) (fun u' k => ld_run rfl (cs2 hu rc k hc) (agg81 _) (.inr rc)) ?_
  refine WGo.value (ops := opsOf Try.f148) rfl rfl (by decide) (fun u' k => ld_run rfl (cs2 hu rh k hh) (agg54 _) (.inr rh)) ?_
  refine WGo.enter (ops := opsOf Try.f148) rfl rfl (by decide) (fun u' k => call_run rfl rfl) ?_
  refine mid _ _ (fun x own2 u2 hx hu2 => ?_) _
  subst hx
  refine ⟨0, ?_⟩
  exact WGo.stop rfl fun u' k => send54 rfl rfl rfl
 ·refine WGo.value (ops := opsOf Try.f148) rfl rfl (by decide) (fun u' k => ld_run rfl (cs2 hu rn k hn) (agg2 _) (.inr rn)) ?_
  refine WGo.value (ops := opsOf Try.f148) rfl rfl (by decide) (fun u' k => ld_run rfl (cs2 hu rh k hh) (agg54 _) (.inr rh)) ?_
  refine WGo.value (ops := opsOf Try.f148) rfl rfl (by decide) (fun u' k => ld_run rfl (cs2 hu rc k hc) (agg81 _) (.inr rc)) ?_
  refine WGo.enter (ops := opsOf Try.f148) rfl rfl (by decide) (fun u' k => call_run rfl rfl) ?_
  refine mid _ _ (fun x own2 u2 hx hu2 => ?_) _
  subst hx
  refine ⟨0, ?_⟩
  exact WGo.stop rfl fun u' k => send54 rfl rfl rfl
 ·refine WGo.value (ops := opsOf Try.f148) rfl rfl (by decide) (fun u' k => ld_run rfl (cs2 hu rn k hn) (agg2 _) (.inr rn)) ?_
  refine WGo.value (ops := opsOf Try.f148) rfl rfl (by decide) (fun u' k => ld_run rfl (cs2 hu rh k hh) (agg54 _) (.inr rh)) ?_
  refine WGo.enter (ops := opsOf Try.f148) rfl rfl (by decide) (fun u' k => call_run rfl rfl) ?_
  refine mid _ _ (fun x own2 u2 hx hu2 => ?_) _
  subst hx
  refine ⟨1, ?_⟩
  refine WGo.value (ops := opsOf Try.f148) rfl rfl (by decide) (fun u' k => ld_run rfl (cs2 hu2 rc k hc) (agg81 _) (.inr rc)) ?_
  exact WGo.stop rfl fun u' k => send54 rfl rfl rfl
end
end Go.Proofs.Ytpeoabopeihadaa.Sim
/- Laws of goroutine 0's walk: control, operations, new blocks, stores, calls and returns. No program of the project in this text. -/
namespace Go.Proofs.Ytpeoabopeihadaa.Sim
open Go Go.Conc
open Go.ConcN (sumTo upd sumTo_upd upd_ne upd_same)
section
variable {Q : Program} {rd own : Nat → Prop} {Stop : (Nat → Prop) → Goroutine → World → Prop} {n : Nat} {g g' : Goroutine} {u : World}
theorem MGo.next (hr : g.status = .running) (h : ∀ u', Keeps (fun b => own b ∨ rd b) u u' → ∃ g' u'', ∃ es : Array Event, ∃ own', stepG Q true g u' = .go g' u'' es ∧ g'.status = .running ∧ Gd own rd own' u' u'' es ∧ MGo Q rd Stop n own' g' u'') : MGo Q rd Stop (n + 1) own g u := .inr ⟨hr, h⟩
theorem MGo.ctl (hs : ∀ u', stepG Q true g u' = .go g' u' #[]) (hr : g.status = .running) (hr' : g'.status = .running) (h : MGo Q rd Stop n own g' u) : MGo Q rd Stop (n + 1) own g u :=
 MGo.next hr fun u' k => ⟨g', u', #[], own, hs u', hr', Gd.quiet _ _ _, h.keep k⟩
section
variable {b : Frame} {a : Go.Act} {k : List Item} {cs : List Frame} {ops : Array Oper} {i : Nat} {rest : List Nat} {o : Oper}
theorem MGo.value {v : Value} (ho : ops[i]? = some o) (hw : Region.wanted o (yielded ops a.tmps) = true) (hk : b.kind ≠ .early)
  (hr : ∀ u', Keeps (fun b => own b ∨ rd b) u u' → (execOp a.eval o).run Q u' = .ok (.value v) u' ∧ ∀ e ∈ (execOp a.eval o).events Q u' #[], EvR own rd e)
  (h : MGo Q rd Stop n own (G (b.at (a.put o.dst v) (.inRegion ops rest :: k)) cs) u) : MGo Q rd Stop (n + 1) own (G (b.at a (.inRegion ops (i :: rest) :: k)) cs) u :=
 MGo.next rfl fun u' kk => ⟨_, u', _, own, stepG_value ho hw hk (hr u' kk).1, rfl, Gd.reads fun e he => (hr u' kk).2 e (mem_listed he), h.keep kk⟩
theorem MGo.pure {v : Value} (ho : ops[i]? = some o) (hw : Region.wanted o (yielded ops a.tmps) = true) (hk : b.kind ≠ .early) (hr : ∀ u', (execOp a.eval o).run Q u' = .ok (.value v) u') (he : ∀ u', (execOp a.eval o).events Q u' #[] = #[])
  (h : MGo Q rd Stop n own (G (b.at (a.put o.dst v) (.inRegion ops rest :: k)) cs) u) : MGo Q rd Stop (n + 1) own (G (b.at a (.inRegion ops (i :: rest) :: k)) cs) u :=
 MGo.value ho hw hk (fun u' _ => ⟨hr u', by rw [he]; simp⟩) h
theorem MGo.enter {f : FuncId} {args : Array Value} (ho : ops[i]? = some o) (hw : Region.wanted o (yielded ops a.tmps) = true) (hk : b.kind ≠ .early) (hr : ∀ u', (execOp a.eval o).run Q u' = .ok (.enter f args) u') (he : ∀ u', (execOp a.eval o).events Q u' #[] = #[])
  (h : MGo Q rd Stop n own (G (Frame.enter Q f args .normal) (b.at a (.inRegion ops (i :: rest) :: k) :: cs)) u) : MGo Q rd Stop (n + 1) own (G (b.at a (.inRegion ops (i :: rest) :: k)) cs) u :=
 MGo.next rfl fun u' kk => ⟨_, u', _, own, stepG_enter ho hw hk (hr u'), rfl, Gd.reads fun e he' => by have := mem_listed he'; rw [he] at this; simp at this, h.keep kk⟩
theorem MGo.leave {fn : Func} {todo : List Item} {c : Frame} {v : Value} (hn : b.kind = .normal) (hd : a.defers = []) (hf : Q.funcs[b.fn]? = some fn) (hr : ∀ u', (results fn a.tmps).run Q u' = .ok v u') (he : ∀ u', (results fn a.tmps).events Q u' #[] = #[])
  (h : MGo Q rd Stop n own (G (c.finish v) cs) u) : MGo Q rd Stop (n + 1) own (G { b.at a todo with mode := .returning } (c :: cs)) u :=
 MGo.ctl (fun u' => stepG_leave hn hd hf (hr u') (he u')) rfl rfl h
theorem MGo.alloc {F : Nat → Value} {x : Obj} (ho : ops[i]? = some o) (hw : Region.wanted o (yielded ops a.tmps) = true) (hk : b.kind ≠ .early) (hl : ∀ d, own d ∨ rd d → d < u.heap.size)
  (hr : ∀ u' : World, (execOp a.eval o).run Q u' = .ok (.value (F u'.heap.size)) (u'.alloc x)) (he : ∀ u' : World, ∀ e ∈ (execOp a.eval o).events Q u' #[], ∃ ad wr, e = ⟨.cell ad, wr, false⟩ ∧ ad.block = u'.heap.size)
  (h : ∀ c u'', u.heap.size ≤ c → u''.heap[c]? = some x → Keeps (fun b => own b ∨ rd b) u u'' → (∀ d, (own d ∨ d = c) ∨ rd d → d < u''.heap.size) → MGo Q rd Stop n (fun d => own d ∨ d = c) (G (b.at (a.put o.dst (F c)) (.inRegion ops rest :: k)) cs) u'') :
  MGo Q rd Stop (n + 1) own (G (b.at a (.inRegion ops (i :: rest) :: k)) cs) u :=
 MGo.next rfl fun u' kk => by
  have hsz : (u'.alloc x).heap.size = u'.heap.size + 1 := by simp only [World.alloc, Array.size_push]
  have old : ∀ d, d < u'.heap.size → (u'.alloc x).heap[d]? = u'.heap[d]? := fun d hd => by
   simp only [World.alloc, Array.getElem?_push]
   rw [if_neg (by omega)]
  have new : (u'.alloc x).heap[u'.heap.size]? = some x := by simp only [World.alloc, Array.getElem?_push_size]
  have this := kk.size
  refine ⟨_, _, _, fun d => own d ∨ d = u'.heap.size, stepG_value ho hw hk (hr u'), rfl, ⟨fun _ h => .inl h, fun d h => h.imp id fun e => by omega, by omega, fun d hd _ => old d hd, fun e h => ?_, rfl, rfl, rfl⟩, ?_⟩
  ·obtain ⟨ad, wr, rfl, e2⟩ := he u' e (mem_listed h)
   exact .inl ⟨ad, wr, rfl, .inl (.inr e2)⟩
  ·refine h _ _ this new ⟨by omega, fun d hd => (old d (by have := hl d hd; omega)).trans (kk.same d hd), kk.os, kk.tape, kk.out⟩ fun d hd => ?_
   rcases hd with (hd | rfl) | hd
   ·have := hl d (.inl hd); omega
   ·omega
   ·have := hl d (.inr hd); omega
theorem MGo.store {c : Nat} {v y : Value} {t : TypeId} (ho : ops[i]? = some o) (hw : Region.wanted o (yielded ops a.tmps) = true) (hk : b.kind ≠ .early) (hl : ∀ d, own d ∨ rd d → d < u.heap.size) (hc : own c) (hx : u.heap[c]? = some (.cells #[y] t (0, 0)))
  (hr : ∀ u' : World, u'.cell? ⟨c, 0, none⟩ = some y → u'.frozen? ⟨c, 0, none⟩ = false → (execOp a.eval o).run Q u' = .ok .skip (u'.setCell ⟨c, 0, none⟩ v)) (he : ∀ u' : World, u'.cell? ⟨c, 0, none⟩ = some y → u'.frozen? ⟨c, 0, none⟩ = false → ∀ e ∈ (execOp a.eval o).events Q u' #[], e = ⟨.cell ⟨c, 0, none⟩, true, false⟩)
  (h : ∀ u'', u''.heap[c]? = some (.cells #[v] t (0, 0)) → Keeps (fun b => (own b ∨ rd b) ∧ b ≠ c) u u'' → (∀ d, own d ∨ rd d → d < u''.heap.size) → MGo Q rd Stop n own (G (b.at (a.put o.dst undef) (.inRegion ops rest :: k)) cs) u'') :
  MGo Q rd Stop (n + 1) own (G (b.at a (.inRegion ops (i :: rest) :: k)) cs) u :=
 MGo.next rfl fun u' kk => by
  have ex : u'.heap[c]? = some (.cells #[y] t (0, 0)) := (kk.same c (.inl hc)).trans hx
  have c1 : u'.cell? ⟨c, 0, none⟩ = some y := by simp [World.cell?, ex]
  have c2 : u'.frozen? ⟨c, 0, none⟩ = false := by simp [World.frozen?, ex]
  have this := kk.size
  have lt : c < u'.heap.size := (Array.getElem?_eq_some_iff.1 ex).1
  have sz : (u'.setCell ⟨c, 0, none⟩ v).heap.size = u'.heap.size := by simp only [World.setCell, Array.size_modify]
  have at_c : (u'.setCell ⟨c, 0, none⟩ v).heap[c]? = some (.cells #[v] t (0, 0)) := by
   simp only [World.setCell, Array.getElem?_modify, if_true, ex, Option.map_some]
   rfl
  have ne_c : ∀ d, d ≠ c → (u'.setCell ⟨c, 0, none⟩ v).heap[d]? = u'.heap[d]? := fun d hd => by
   simp only [World.setCell, Array.getElem?_modify]
   rw [if_neg (fun e => hd e.symm)]
  have os' : (u'.setCell ⟨c, 0, none⟩ v).os = u'.os := rfl
  have tp' : (u'.setCell ⟨c, 0, none⟩ v).tape = u'.tape := rfl
  have ot' : (u'.setCell ⟨c, 0, none⟩ v).output = u'.output := rfl
  refine ⟨_, _, _, own, stepG_none ho hw hk (hr u' c1 c2), rfl, ⟨fun _ h => h, fun _ h => .inl h, by omega, fun d hd hno => ne_c d fun e => hno (e ▸ hc), fun e h => ?_, os', tp', ot'⟩, ?_⟩
  ·rw [he u' c1 c2 e (mem_listed h)]
   exact .inl ⟨_, true, rfl, .inl hc⟩
  ·exact h _ at_c ⟨by omega, fun d hd => (ne_c d hd.2).trans (kk.same d hd.1), os'.trans kk.os, tp'.trans kk.tape, ot'.trans kk.out⟩ fun d hd => by have := hl d hd; omega
end
end
end Go.Proofs.Ytpeoabopeihadaa.Sim
/- eir.ask, walked by goroutine 0: to its go statement, and from there to its return. -/
namespace Go.Proofs.Ytpeoabopeihadaa.Sim
open Go Go.Conc
def regOps (i : Nat) : Code → Option (Array Oper)
 | .region j ops _ => if i = j then some ops else none
 | .seq a b => (regOps i a).orElse fun _ => regOps i b
 | .cond _ a b => (regOps i a).orElse fun _ => regOps i b
 | .block _ a => regOps i a
 | .loop a => regOps i a
 | .scope a => regOps i a
 | _ => none
def opsAt (f : Func) (i : Nat) : Array Oper := (f.body.bind (regOps i)).getD #[]
theorem body40 : Try.f133.body = some (.seq (.region 0 (opsAt Try.f133 0) false) (.seq (.region 1 (opsAt Try.f133 1) false) (.seq (.region 2 (opsAt Try.f133 2) false) (.seq (.region 3 (opsAt Try.f133 3) false) .ret)))) := rfl
section
variable {ev : Operand → Value} {d : Option Nat} {t : TypeId} {ps : String} {af : Array Edge} {gd : Option (Nat × Bool)} {x : Operand} {v : Value} {u : World}
theorem run_move (h : ev x = v) : (execOp ev { dst := d, op := .move x, type := t, pos := ps, after := af, guard := gd }).run Try.prog u = .ok (.value v) u := by simp [execOp, go_sem, h]
theorem evs_move : (execOp ev { dst := d, op := .move x, type := t, pos := ps, after := af, guard := gd }).events Try.prog u #[] = #[] := by simp [execOp, go_sem]
theorem run_assign (h : ev x = v) : (execOp ev { dst := d, op := .assign x, type := t, pos := ps, after := af, guard := gd }).run Try.prog u = .ok (.value v) u := by simp [execOp, go_sem, h]
theorem evs_assign : (execOp ev { dst := d, op := .assign x, type := t, pos := ps, after := af, guard := gd }).events Try.prog u #[] = #[] := by simp [execOp, go_sem]
theorem run_box2 {n : Int} (h : ev x = .int .i64 n) : (execOp ev { dst := d, op := .box 2 x, type := t, pos := ps, after := af, guard := gd }).run Try.prog u = .ok (.value (pt u.heap.size)) (u.alloc (.cells #[.int .i64 n] 2)) := by simp [execOp, go_sem, h]
theorem run_box54 {o l : Nat} (h : ev x = holdsV o l) : (execOp ev { dst := d, op := .box 92 x, type := t, pos := ps, after := af, guard := gd }).run Try.prog u = .ok (.value (pt u.heap.size)) (u.alloc (.cells #[holdsV o l] 92)) := by simp [execOp, go_sem, h]
theorem evs_box2 {n : Int} (h : ev x = .int .i64 n) : ∀ e ∈ (execOp ev { dst := d, op := .box 2 x, type := t, pos := ps, after := af, guard := gd }).events Try.prog u #[], ∃ ad wr, e = ⟨.cell ad, wr, false⟩ ∧ ad.block = u.heap.size := by
 intro e he
 simp [execOp, go_sem, h] at he
theorem evs_box54 {o l : Nat} (h : ev x = holdsV o l) : ∀ e ∈ (execOp ev { dst := d, op := .box 92 x, type := t, pos := ps, after := af, guard := gd }).events Try.prog u #[], ∃ ad wr, e = ⟨.cell ad, wr, false⟩ ∧ ad.block = u.heap.size := by
 intro e he
 simp [execOp, go_sem, h] at he
theorem bytes4 : ∃ i, Try.prog.info? 4 = some i ∧ i.bytes = 1 := by
 have h : (Try.prog.info? 4).map (·.bytes) = some 1 := by kernel_rfl
 obtain ⟨i, hi, hb⟩ := Option.map_eq_some_iff.1 h
 exact ⟨i, hi, hb⟩
theorem mk81 (w : World) : (Instr.makeChan 179 (.int .i64 0)).run Try.prog w = .ok (.chan (some w.heap.size)) (w.alloc (.chan 0 #[] false 0 0 false)) := by
 obtain ⟨i, hi, hb⟩ := bytes4
 simpa using run_makeChan (P := Try.prog) (w := w) Try.underlying179 hi .i64 0 (by omega) (by rw [hb]; omega)
theorem mk81e (w : World) (es : Array Event) : (Instr.makeChan 179 (.int .i64 0)).events Try.prog w es = es := by
 obtain ⟨i, hi, hb⟩ := bytes4
 simpa using events_makeChan (P := Try.prog) (w := w) Try.underlying179 hi .i64 0 (by omega) (by rw [hb]; omega) es
theorem run_mk (h : ev x = .int .i64 0) : (execOp ev { dst := d, op := .makeChan 179 x, type := t, pos := ps, after := af, guard := gd }).run Try.prog u = .ok (.value (.chan (some u.heap.size))) (u.alloc (.chan 0 #[] false 0 0 false)) := by
 have := mk81
 simp [execOp, go_sem, h, this]
theorem evs_mk (h : ev x = .int .i64 0) : ∀ e ∈ (execOp ev { dst := d, op := .makeChan 179 x, type := t, pos := ps, after := af, guard := gd }).events Try.prog u #[], ∃ ad wr, e = ⟨.cell ad, wr, false⟩ ∧ ad.block = u.heap.size := by
 have h1 := mk81
 have h2 := mk81e
 intro e he
 simp [execOp, go_sem, h, h1, h2] at he
theorem run_al81 : (execOp ev { dst := d, op := .alloc 179, type := t, pos := ps, after := af, guard := gd }).run Try.prog u = .ok (.value (pt u.heap.size)) (u.alloc (.cells #[.chan none] 179)) := by simp [execOp, go_sem]
theorem evs_al81 : ∀ e ∈ (execOp ev { dst := d, op := .alloc 179, type := t, pos := ps, after := af, guard := gd }).events Try.prog u #[], ∃ ad wr, e = ⟨.cell ad, wr, false⟩ ∧ ad.block = u.heap.size := by
 intro e he
 simp [execOp, go_sem] at he
theorem run_st81 {y : Operand} {c b : Nat} {z : Value} (hx : ev x = pt b) (hy : ev y = .chan (some c)) (h1 : u.cell? ⟨b, 0, none⟩ = some z) (h2 : u.frozen? ⟨b, 0, none⟩ = false) : (execOp ev { dst := d, op := .store 179 x y, type := t, pos := ps, after := af, guard := gd }).run Try.prog u = .ok .skip (u.setCell ⟨b, 0, none⟩ (.chan (some c))) ∧
  ∀ e ∈ (execOp ev { dst := d, op := .store 179 x y, type := t, pos := ps, after := af, guard := gd }).events Try.prog u #[], e = ⟨.cell ⟨b, 0, none⟩, true, false⟩ := by
 constructor
 ·simp [execOp, go_sem, hx, hy, h1, h2]
 ·intro e he
  simp [execOp, go_sem, hx, hy, h1, h2, storedEv] at he
  exact he
end
end Go.Proofs.Ytpeoabopeihadaa.Sim
/- eir.ask, walked by goroutine 0. -/
namespace Go.Proofs.Ytpeoabopeihadaa.Sim
open Go Go.Conc
abbrev askG (Q : Program) (f : Func) (n : Int) (hv : Value) (nB hB c cA : Nat) (cs : List Frame) : Goroutine :=
 G ((base 133).at ⟨#[.int .i64 n, hv, pt nB, pt hB, .chan none, pt cA, .chan (some c), .func (.func 148) #[] #[pt cA, pt hB, pt nB], undef], []⟩ [.inRegion (opsAt f 2) [], .code (.seq (.region 3 (opsAt f 3) false) .ret)]) cs
structure AskAt (Q : Program) (f : Func) (own0 : Nat → Prop) (B : Nat) (n : Int) (hv : Value) (cs : List Frame) (ow : Nat → Prop) (g : Goroutine) (v : World) (nB hB c cA : Nat) : Prop where
 own : ∀ d, ow d ↔ own0 d ∨ d = nB ∨ d = hB ∨ d = c ∨ d = cA
 order : B ≤ nB ∧ nB < hB ∧ hB < c ∧ c < cA
 low : cA < v.heap.size
 atN : v.heap[nB]? = some (.cells #[.int .i64 n] 2 (0, 0))
 atH : v.heap[hB]? = some (.cells #[hv] 92 (0, 0))
 atC : v.heap[c]? = some (.chan 0 #[] false 0 0 false)
 atA : v.heap[cA]? = some (.cells #[.chan (some c)] 179 (0, 0))
 spawn : stepG Q true g v = .spawn (askG Q f n hv nB hB c cA cs) (born Q (call54 cA hB nB)) v #[]
theorem spawn_at {Q : Program} {main : Bool} {b : Frame} {a : Go.Act} {k : List Item} {cs : List Frame} {u : World} {ops : Array Oper} {i : Nat} {rest : List Nat} {o : Oper} {d : Deferred} {f : Fn} {c : Array Value} (ho : ops[i]? = some o) (hw : Region.wanted o (yielded ops a.tmps) = true) (hk : b.kind ≠ .early)
  (hr : (execOp a.eval o).run Q u = .ok (.spawn d) u) (he : (execOp a.eval o).events Q u #[] = #[]) (hd : d.target = .fn f c) : stepG Q main (G (b.at a (.inRegion ops (i :: rest) :: k)) cs) u = .spawn (G (b.at (a.put o.dst undef) (.inRegion ops rest :: k)) cs) (born Q d) u #[] := by
 rw [stepG_spawn ho hw hk hr hd, listed_none he]
section
variable {ev : Operand → Value} {d : Option Nat} {t : TypeId} {ps : String} {af : Array Edge} {gd : Option (Nat × Bool)} {x y z : Operand} {v : Value} {u : World}
theorem run_mf54 {a b c : Value} (hx : ev x = a) (hy : ev y = b) (hz : ev z = c) : (execOp ev { dst := d, op := .makeFunc (.func 148) #[] #[x, y, z], type := t, pos := ps, after := af, guard := gd }).run Try.prog u = .ok (.value (.func (.func 148) #[] #[a, b, c])) u := by
 simp [execOp, go_sem, Instr.makeFunc, hx, hy, hz]
theorem evs_mf54 : (execOp ev { dst := d, op := .makeFunc (.func 148) #[] #[x, y, z], type := t, pos := ps, after := af, guard := gd }).events Try.prog u #[] = #[] := by
 simp [execOp, go_sem, Instr.makeFunc]
theorem run_go54 {a b c : Nat} (hx : ev x = .func (.func 148) #[] #[pt a, pt b, pt c]) : (execOp ev { dst := d, op := .go { callee := .value x, args := #[], argTypes := #[] }, type := t, pos := ps, after := af, guard := gd }).run Try.prog u = .ok (.spawn (call54 a b c)) u := by
 simp [execOp, go_sem, hx, call54]
theorem evs_go54 {a b c : Nat} (hx : ev x = .func (.func 148) #[] #[pt a, pt b, pt c]) : (execOp ev { dst := d, op := .go { callee := .value x, args := #[], argTypes := #[] }, type := t, pos := ps, after := af, guard := gd }).events Try.prog u #[] = #[] := by
 simp [execOp, go_sem, hx]
end
section
variable {rd own : Nat → Prop} {u : World} {cs : List Frame} {n : Int} {o l : Nat}
theorem ask_walk (hl : ∀ d, own d ∨ rd d → d < u.heap.size) :
  ∃ m, MGo Try.prog rd (fun ow g v => ∃ nB hB c cA, AskAt Try.prog Try.f133 own u.heap.size n (holdsV o l) cs ow g v nB hB c cA) m own (G (Frame.enter Try.prog 133 #[.int .i64 n, holdsV o l] .normal) cs) u := by
 refine ⟨16, ?_⟩
 rw [enter_at _ Try.func133 body40]
 show MGo Try.prog rd _ 16 own (G ((base 133).at ⟨#[.int .i64 n, holdsV o l, undef, undef, undef, undef, undef, undef, undef], []⟩ _) cs) u
 refine MGo.ctl (fun _ => stepG_seq) rfl rfl ?_
 refine MGo.ctl (fun _ => stepG_region) rfl rfl ?_
 show MGo Try.prog rd _ 14 own (G ((base 133).at _ (.inRegion (opsAt Try.f133 0) [0, 1, 2] :: _)) cs) u
 refine MGo.alloc (ops := opsAt Try.f133 0) (F := pt) (x := .cells #[.int .i64 n] 2 (0, 0)) rfl rfl (by decide) hl (fun u' => run_box2 rfl) (fun u' => evs_box2 rfl) fun nB u1 b1 x1 k1 l1 => ?_
 refine MGo.alloc (ops := opsAt Try.f133 0) (F := pt) (x := .cells #[holdsV o l] 92 (0, 0)) rfl rfl (by decide) l1 (fun u' => run_box54 rfl) (fun u' => evs_box54 rfl) fun hB u2 b2 x2 k2 l2 => ?_
 refine MGo.pure (ops := opsAt Try.f133 0) (v := .chan none) rfl rfl (by decide) (fun u' => run_assign rfl) (fun u' => evs_assign) ?_
 refine MGo.ctl (fun _ => stepG_region_end) rfl rfl ?_
 refine MGo.ctl (fun _ => stepG_seq) rfl rfl ?_
 refine MGo.ctl (fun _ => stepG_region) rfl rfl ?_
 show MGo Try.prog rd _ 8 _ (G ((base 133).at ⟨#[.int .i64 n, holdsV o l, pt nB, pt hB, .chan none, undef, undef, undef, undef], []⟩ (.inRegion (opsAt Try.f133 1) [0, 1, 2] :: _)) cs) u2
 refine MGo.alloc (ops := opsAt Try.f133 1) (F := fun c => .chan (some c)) (x := .chan 0 #[] false 0 0 false) rfl rfl (by decide) l2 (fun u' => run_mk rfl) (fun u' => evs_mk rfl) fun c u3 b3 x3 k3 l3 => ?_
 refine MGo.alloc (ops := opsAt Try.f133 1) (F := pt) (x := .cells #[.chan none] 179 (0, 0)) rfl rfl (by decide) l3 (fun u' => run_al81) (fun u' => evs_al81) fun cA u4 b4 x4 k4 l4 => ?_
 have o1 : nB < hB := by
  have := (Array.getElem?_eq_some_iff.1 x1).1
  omega
 have o2 : hB < c := by
  have := (Array.getElem?_eq_some_iff.1 x2).1
  omega
 have o3 : c < cA := by
  have := (Array.getElem?_eq_some_iff.1 x3).1
  omega
 refine MGo.store (ops := opsAt Try.f133 1) (c := cA) (y := .chan none) (v := .chan (some c)) (t := 179) rfl rfl (by decide) l4 (.inr rfl) x4 (fun u' h1 h2 => (run_st81 (z := .chan none) rfl rfl h1 h2).1) (fun u' h1 h2 => (run_st81 (z := .chan none) rfl rfl h1 h2).2) fun u5 x5 k5 l5 => ?_
 refine MGo.ctl (fun _ => stepG_region_end) rfl rfl ?_
 refine MGo.ctl (fun _ => stepG_seq) rfl rfl ?_
 refine MGo.ctl (fun _ => stepG_region) rfl rfl ?_
 show MGo Try.prog rd _ 2 _ (G ((base 133).at ⟨#[.int .i64 n, holdsV o l, pt nB, pt hB, .chan none, pt cA, .chan (some c), undef, undef], []⟩ (.inRegion (opsAt Try.f133 2) [0, 1] :: _)) cs) u5
 refine MGo.pure (ops := opsAt Try.f133 2) (v := .func (.func 148) #[] #[pt cA, pt hB, pt nB]) rfl rfl (by decide) (fun u' => run_mf54 rfl rfl rfl) (fun u' => evs_mf54) ?_
 refine MGo.stop fun v k => ⟨nB, hB, c, cA, ?_⟩
 have s4 : ∀ d, d ≠ cA → ((((own d ∨ d = nB) ∨ d = hB) ∨ d = c) ∨ rd d) → v.heap[d]? = u3.heap[d]? := fun d hd h => by
  have h4 : (((((own d ∨ d = nB) ∨ d = hB) ∨ d = c) ∨ d = cA) ∨ rd d) := h.imp .inl id
  exact (k.same d h4).trans ((k5.same d ⟨h4, hd⟩).trans (k4.same d h))
 refine ⟨fun d => ⟨?_, ?_⟩, ⟨b1, o1, o2, o3⟩, ?_, ?_, ?_, ?_, ?_, ?_⟩
 ·rintro ((((h | h) | h) | h) | h)
  ·exact .inl h
  ·exact .inr (.inl h)
  ·exact .inr (.inr (.inl h))
  ·exact .inr (.inr (.inr (.inl h)))
  ·exact .inr (.inr (.inr (.inr h)))
 ·rintro (h | h | h | h | h)
  ·exact .inl (.inl (.inl (.inl h)))
  ·exact .inl (.inl (.inl (.inr h)))
  ·exact .inl (.inl (.inr h))
  ·exact .inl (.inr h)
  ·exact .inr h
 ·have := l5 cA (.inl (.inr rfl))
  have := k.size
  omega
 ·exact (s4 nB (by omega) (.inl (.inl (.inl (.inr rfl))))).trans ((k3.same nB (.inl (.inl (.inr rfl)))).trans ((k2.same nB (.inl (.inr rfl))).trans x1))
 ·exact (s4 hB (by omega) (.inl (.inl (.inr rfl)))).trans ((k3.same hB (.inl (.inr rfl))).trans x2)
 ·exact (s4 c (by omega) (.inl (.inr rfl))).trans x3
 ·exact (k.same cA (.inl (.inr rfl))).trans x5
 ·exact spawn_at (ops := opsAt Try.f133 2) (i := 1) (d := call54 cA hB nB) rfl rfl (by decide) (run_go54 rfl) (evs_go54 rfl) rfl
theorem ask_after {Stop : (Nat → Prop) → Goroutine → World → Prop} {m : Nat} {top : Frame} {nB hB c cA : Nat} (hc : own cA ∨ rd cA) (hx : u.cell? ⟨cA, 0, none⟩ = some (.chan (some c))) (h : MGo Try.prog rd Stop m own (G (top.finish (.chan (some c))) cs) u) :
  MGo Try.prog rd Stop (m + 8) own (askG Try.prog Try.f133 n (holdsV o l) nB hB c cA (top :: cs)) u := by
 refine MGo.ctl (fun _ => stepG_region_end) rfl rfl ?_
 refine MGo.ctl (fun _ => stepG_seq) rfl rfl ?_
 refine MGo.ctl (fun _ => stepG_region) rfl rfl ?_
 show MGo Try.prog rd _ (m + 5) own (G ((base 133).at _ (.inRegion (opsAt Try.f133 3) [0, 1] :: _)) _) u
 refine MGo.value (ops := opsAt Try.f133 3) (v := .chan (some c)) rfl rfl (by decide) (fun u' k => ld_run rfl (by
  have e : u'.heap[cA]? = u.heap[cA]? := k.same cA hc
  simp only [World.cell?, e] at hx ⊢
  exact hx) (agg81 _) hc) ?_
 refine MGo.pure (ops := opsAt Try.f133 3) (v := .chan (some c)) rfl rfl (by decide) (fun u' => run_assign rfl) (fun u' => evs_assign) ?_
 refine MGo.ctl (fun _ => stepG_region_end) rfl rfl ?_
 refine MGo.ctl (fun _ => stepG_ret') rfl rfl ?_
 show MGo Try.prog rd _ (m + 1) own (G { (base 133).at ⟨#[.int .i64 n, holdsV o l, pt nB, pt hB, .chan (some c), pt cA, .chan (some c), .func (.func 148) #[] #[pt cA, pt hB, pt nB], .chan (some c)], []⟩ _ with mode := .returning } (top :: cs)) u
 exact MGo.leave rfl rfl Try.func133 (fun u' => by simp [results, Try.results133]) (fun u' => by simp [results, Try.results133]) h
end
end Go.Proofs.Ytpeoabopeihadaa.Sim
/- Operations on numbers and tuples, one by one. -/
namespace Go.Proofs.Ytpeoabopeihadaa.Sim
open Go Go.Conc
def I64 (c : Int) : Prop := -9223372036854775808 ≤ c ∧ c ≤ 9223372036854775807
theorem wrap_i64 {c : Int} (h : I64 c) : IntKind.i64.wrap c = c := by
 obtain ⟨h1, h2⟩ := h
 simp only [IntKind.wrap, IntKind.bits, IntKind.signed]
 simp
 omega
section
variable {ev : Operand → Value} {d : Option Nat} {t : TypeId} {ps : String} {af : Array Edge} {gd : Option (Nat × Bool)} {x y : Operand} {a b c : Int} {u : World}
theorem run_sub (hx : ev x = .int .i64 a) (hy : ev y = .int .i64 b) (hc : a - b = c) (h : I64 c) : (execOp ev { dst := d, op := .binOp .sub 2 x y 2, type := t, pos := ps, after := af, guard := gd }).run Try.prog u = .ok (.value (.int .i64 c)) u := by
 subst hc
 simp [execOp, go_sem, hx, hy, wrap_i64 h]
theorem run_add (hx : ev x = .int .i64 a) (hy : ev y = .int .i64 b) (hc : a + b = c) (h : I64 c) : (execOp ev { dst := d, op := .binOp .add 2 x y 2, type := t, pos := ps, after := af, guard := gd }).run Try.prog u = .ok (.value (.int .i64 c)) u := by
 subst hc
 simp [execOp, go_sem, hx, hy, wrap_i64 h]
theorem run_add3 (hx : ev x = .int .i64 a) (hy : ev y = .int .i64 b) (hc : a + b = c) (h : I64 c) : (execOp ev { dst := d, op := .binOp .add 3 x y 3, type := t, pos := ps, after := af, guard := gd }).run Try.prog u = .ok (.value (.int .i64 c)) u := by
 subst hc
 simp [execOp, go_sem, hx, hy, wrap_i64 h]
theorem run_quo3 (hx : ev x = .int .i64 a) (hy : ev y = .int .i64 3) (hc : a.tdiv 3 = c) (h : I64 c) : (execOp ev { dst := d, op := .binOp .quo 2 x y 2, type := t, pos := ps, after := af, guard := gd }).run Try.prog u = .ok (.value (.int .i64 c)) u := by
 subst hc
 simp [execOp, go_sem, hx, hy, wrap_i64 h]
theorem run_lss {B : Bool} (hx : ev x = .int .i64 a) (hy : ev y = .int .i64 b) (hc : decide (a < b) = B) : (execOp ev { dst := d, op := .binOp .lss 3 x y 3, type := t, pos := ps, after := af, guard := gd }).run Try.prog u = .ok (.value (.bool B)) u := by
 subst hc
 simp [execOp, go_sem, hx, hy]
theorem run_gtr2 {B : Bool} (hx : ev x = .int .i64 a) (hy : ev y = .int .i64 b) (hc : decide (b < a) = B) : (execOp ev { dst := d, op := .binOp .gtr 2 x y 2, type := t, pos := ps, after := af, guard := gd }).run Try.prog u = .ok (.value (.bool B)) u := by
 subst hc
 simp [execOp, go_sem, hx, hy]
theorem run_eql3 {B : Bool} (hx : ev x = .int .i64 a) (hy : ev y = .int .i64 b) (hc : decide (a = b) = B) : (execOp ev { dst := d, op := .binOp .eql 3 x y 3, type := t, pos := ps, after := af, guard := gd }).run Try.prog u = .ok (.value (.bool B)) u := by
 subst hc
 simp [execOp, go_sem, hx, hy]
 rfl
theorem evs_bin2 {op : BinOp} (hx : ev x = .int .i64 a) (hy : ev y = .int .i64 b) (ho : op = .add ∨ op = .sub ∨ op = .gtr) : (execOp ev { dst := d, op := .binOp op 2 x y 2, type := t, pos := ps, after := af, guard := gd }).events Try.prog u #[] = #[] := by
 rcases ho with rfl | rfl | rfl <;> simp [execOp, go_sem, hx, hy]
theorem evs_bin3 {op : BinOp} (hx : ev x = .int .i64 a) (hy : ev y = .int .i64 b) (ho : op = .add ∨ op = .lss ∨ op = .eql) : (execOp ev { dst := d, op := .binOp op 3 x y 3, type := t, pos := ps, after := af, guard := gd }).events Try.prog u #[] = #[] := by
 rcases ho with rfl | rfl | rfl <;> simp [execOp, go_sem, hx, hy]
theorem evs_quo3 (hx : ev x = .int .i64 a) (hy : ev y = .int .i64 3) : (execOp ev { dst := d, op := .binOp .quo 2 x y 2, type := t, pos := ps, after := af, guard := gd }).events Try.prog u #[] = #[] := by
 simp [execOp, go_sem, hx, hy]
theorem run_extract {vs : Array Value} {i : Nat} {v : Value} (hx : ev x = .tuple vs) (hv : vs[i]? = some v) : (execOp ev { dst := d, op := .extract x i, type := t, pos := ps, after := af, guard := gd }).run Try.prog u = .ok (.value v) u := by
 simp [execOp, go_sem, hx, hv]
theorem evs_extract {vs : Array Value} {i : Nat} {v : Value} (hx : ev x = .tuple vs) (hv : vs[i]? = some v) : (execOp ev { dst := d, op := .extract x i, type := t, pos := ps, after := af, guard := gd }).events Try.prog u #[] = #[] := by
 simp [execOp, go_sem, hx, hv]
theorem run_max2 (Q : Program) (t : TypeId) (a b : Int) (u : World) : (Builtin.max_ #[2, 2] t #[.int .i64 a, .int .i64 b]).run Q u = .ok (.int .i64 (max a b)) u := by
 simp [Builtin.max_, Builtin.max2]
 split <;> omega
theorem run_min2 (Q : Program) (t : TypeId) (a b : Int) (u : World) : (Builtin.min_ #[2, 2] t #[.int .i64 a, .int .i64 b]).run Q u = .ok (.int .i64 (min a b)) u := by
 simp [Builtin.min_, Builtin.min2]
 split <;> omega
theorem evs_max2 (Q : Program) (t : TypeId) (a b : Int) (u : World) : (Builtin.max_ #[2, 2] t #[.int .i64 a, .int .i64 b]).events Q u #[] = #[] := by
 simp [Builtin.max_, Builtin.max2]
theorem evs_min2 (Q : Program) (t : TypeId) (a b : Int) (u : World) : (Builtin.min_ #[2, 2] t #[.int .i64 a, .int .i64 b]).events Q u #[] = #[] := by
 simp [Builtin.min_, Builtin.min2]
theorem run_max (hx : ev x = .int .i64 a) (hy : ev y = .int .i64 b) : (execOp ev { dst := d, op := .call { callee := .builtin .max, args := #[x, y], argTypes := #[2, 2] }, type := t, pos := ps, after := af, guard := gd }).run Try.prog u = .ok (.value (.int .i64 (max a b))) u := by
 simp [execOp, go_sem, hx, hy, run_max2]
theorem run_min (hx : ev x = .int .i64 a) (hy : ev y = .int .i64 b) : (execOp ev { dst := d, op := .call { callee := .builtin .min, args := #[x, y], argTypes := #[2, 2] }, type := t, pos := ps, after := af, guard := gd }).run Try.prog u = .ok (.value (.int .i64 (min a b))) u := by
 simp [execOp, go_sem, hx, hy, run_min2]
theorem evs_max (hx : ev x = .int .i64 a) (hy : ev y = .int .i64 b) : (execOp ev { dst := d, op := .call { callee := .builtin .max, args := #[x, y], argTypes := #[2, 2] }, type := t, pos := ps, after := af, guard := gd }).events Try.prog u #[] = #[] := by
 simp [execOp, go_sem, hx, hy, run_max2, run_min2, evs_max2, evs_min2]
theorem evs_min (hx : ev x = .int .i64 a) (hy : ev y = .int .i64 b) : (execOp ev { dst := d, op := .call { callee := .builtin .min, args := #[x, y], argTypes := #[2, 2] }, type := t, pos := ps, after := af, guard := gd }).events Try.prog u #[] = #[] := by
 simp [execOp, go_sem, hx, hy, run_max2, run_min2, evs_max2, evs_min2]
theorem run_call40 {n : Int} {o l : Nat} (hf : ev (.func 133) = .func (.func 133) #[] #[]) (hx : ev x = .int .i64 n) (hy : ev y = holdsV o l) : (execOp ev { dst := d, op := .call { callee := .value (.func 133), args := #[x, y], argTypes := #[2, 92] }, type := t, pos := ps, after := af, guard := gd }).run Try.prog u = .ok (.enter 133 #[.int .i64 n, holdsV o l]) u := by
 simp [execOp, go_sem, hx, hy, hf, invoke, callFunc, Try.func133, Try.f133]
theorem evs_call40 {n : Int} {o l : Nat} (hf : ev (.func 133) = .func (.func 133) #[] #[]) (hx : ev x = .int .i64 n) (hy : ev y = holdsV o l) : (execOp ev { dst := d, op := .call { callee := .value (.func 133), args := #[x, y], argTypes := #[2, 92] }, type := t, pos := ps, after := af, guard := gd }).events Try.prog u #[] = #[] := by
 simp [execOp, go_sem, hx, hy, hf, invoke, callFunc, Try.func133, Try.f133]
theorem run_call41 {p q r s : Operand} {A B C : Int} {Y : Bool} (hf : ev (.func 134) = .func (.func 134) #[] #[]) (hp : ev p = .int .i64 A) (hq : ev q = .int .i64 B) (hr : ev r = .int .i64 C) (hs : ev s = .bool Y) : (execOp ev { dst := d, op := .call { callee := .value (.func 134), args := #[p, q, r, s], argTypes := #[2, 2, 2, 4] }, type := t, pos := ps, after := af, guard := gd }).run Try.prog u = .ok (.enter 134 #[.int .i64 A, .int .i64 B, .int .i64 C, .bool Y]) u := by
 simp [execOp, go_sem, hp, hq, hr, hs, hf, invoke, callFunc, Try.func134, Try.f134]
theorem evs_call41 {p q r s : Operand} {A B C : Int} {Y : Bool} (hf : ev (.func 134) = .func (.func 134) #[] #[]) (hp : ev p = .int .i64 A) (hq : ev q = .int .i64 B) (hr : ev r = .int .i64 C) (hs : ev s = .bool Y) : (execOp ev { dst := d, op := .call { callee := .value (.func 134), args := #[p, q, r, s], argTypes := #[2, 2, 2, 4] }, type := t, pos := ps, after := af, guard := gd }).events Try.prog u #[] = #[] := by
 simp [execOp, go_sem, hp, hq, hr, hs, hf, invoke, callFunc, Try.func134, Try.f134]
theorem run_select {p q : Operand} {c e : Nat} (hp : ev p = .chan (some c)) (hq : ev q = .chan (some e)) : (execOp ev { dst := d, op := .select #[{ chan := p, send := none, elem := 4 }, { chan := q, send := none, elem := 4 }] true, type := t, pos := ps, after := af, guard := gd }).run Try.prog u = .ok (.comm #[rcase c (.bool false), rcase e (.bool false)] true .select) u := by
 simp [execOp, go_sem, hp, hq, rcase]
theorem evs_select {p q : Operand} {c e : Nat} (hp : ev p = .chan (some c)) (hq : ev q = .chan (some e)) : (execOp ev { dst := d, op := .select #[{ chan := p, send := none, elem := 4 }, { chan := q, send := none, elem := 4 }] true, type := t, pos := ps, after := af, guard := gd }).events Try.prog u #[] = #[] := by
 simp [execOp, go_sem, hp, hq, rcase]
end
end Go.Proofs.Ytpeoabopeihadaa.Sim
/- eir.narrow and eir.moved, walked by goroutine 0, stretch by stretch. -/
namespace Go.Proofs.Ytpeoabopeihadaa.Sim
open Go Go.Conc
abbrev Rg (f : Func) (i : Nat) : Code := .region i (opsAt f i) false
abbrev LB (f : Func) : Code := .seq (Rg f 5) (.seq (.cond (.tmp 33) .skip (.exit 0)) (.seq (.block 1 (.seq (.seq (Rg f 6) (Rg f 7)) (.seq (Rg f 8) (.block 2 (.cond (.tmp 38) (.seq (Rg f 9) (Rg f 10)) (.cond (.tmp 39) (.seq (Rg f 11) (Rg f 12)) .skip)))))) (Rg f 13)))
abbrev LC (f : Func) : List Item := [.code (.seq (.seq (Rg f 4) (.block 0 (.loop (LB f)))) (.seq (Rg f 14) .ret))]
abbrev LE (f : Func) : List Item := [.code (.seq (Rg f 14) .ret)]
abbrev LL (f : Func) : List Item := .inLoop (LB f) :: .inBlock 0 :: LE f
theorem body30 : Try.f105.body = some (.seq (Rg Try.f105 0) (.seq (Rg Try.f105 1) (.seq (Rg Try.f105 2) (.seq (Rg Try.f105 3) (.seq (.seq (Rg Try.f105 4) (.block 0 (.loop (LB Try.f105)))) (.seq (Rg Try.f105 14) .ret)))))) := rfl
theorem body41 : Try.f134.body = some (.seq (Rg Try.f134 0) (.seq (.seq (Rg Try.f134 1) (.cond (.tmp 10) (.seq (Rg Try.f134 2) .ret) .skip)) (.seq (Rg Try.f134 3) .ret))) := rfl
theorem op41_0_0 : ∃ t ps af, (opsAt Try.f134 0)[0]? = some { dst := some 8, op := .assign (.const (.int .i64 0)), type := t, pos := ps, after := af, guard := none } := ⟨_, _, _, rfl⟩
theorem op41_0_1 : ∃ t ps af, (opsAt Try.f134 0)[1]? = some { dst := some 9, op := .assign (.const (.int .i64 0)), type := t, pos := ps, after := af, guard := none } := ⟨_, _, _, rfl⟩
theorem op41_1_0 : ∃ t ps af, (opsAt Try.f134 1)[0]? = some { dst := some 10, op := .move (.tmp 3), type := t, pos := ps, after := af, guard := none } := ⟨_, _, _, rfl⟩
theorem op41_2_0 : ∃ t ps af, (opsAt Try.f134 2)[0]? = some { dst := some 11, op := .move (.tmp 0), type := t, pos := ps, after := af, guard := none } := ⟨_, _, _, rfl⟩
theorem op41_2_1 : ∃ t ps af, (opsAt Try.f134 2)[1]? = some { dst := some 12, op := .move (.tmp 2), type := t, pos := ps, after := af, guard := none } := ⟨_, _, _, rfl⟩
theorem op41_2_2 : ∃ t ps af, (opsAt Try.f134 2)[2]? = some { dst := some 13, op := .call { callee := .builtin .max, args := #[(.tmp 11), (.tmp 12)], argTypes := #[2, 2] }, type := t, pos := ps, after := af, guard := none } := ⟨_, _, _, rfl⟩
theorem op41_2_3 : ∃ t ps af, (opsAt Try.f134 2)[3]? = some { dst := some 14, op := .move (.tmp 1), type := t, pos := ps, after := af, guard := none } := ⟨_, _, _, rfl⟩
theorem op41_2_4 : ∃ t ps af, (opsAt Try.f134 2)[4]? = some { dst := some 8, op := .assign (.tmp 13), type := t, pos := ps, after := af, guard := none } := ⟨_, _, _, rfl⟩
theorem op41_2_5 : ∃ t ps af, (opsAt Try.f134 2)[5]? = some { dst := some 9, op := .assign (.tmp 14), type := t, pos := ps, after := af, guard := none } := ⟨_, _, _, rfl⟩
theorem op41_3_0 : ∃ t ps af, (opsAt Try.f134 3)[0]? = some { dst := some 15, op := .move (.tmp 0), type := t, pos := ps, after := af, guard := none } := ⟨_, _, _, rfl⟩
theorem op41_3_1 : ∃ t ps af, (opsAt Try.f134 3)[1]? = some { dst := some 16, op := .move (.tmp 1), type := t, pos := ps, after := af, guard := none } := ⟨_, _, _, rfl⟩
theorem op41_3_2 : ∃ t ps af, (opsAt Try.f134 3)[2]? = some { dst := some 17, op := .move (.tmp 2), type := t, pos := ps, after := af, guard := none } := ⟨_, _, _, rfl⟩
theorem op41_3_3 : ∃ t ps af, (opsAt Try.f134 3)[3]? = some { dst := some 18, op := .call { callee := .builtin .min, args := #[(.tmp 16), (.tmp 17)], argTypes := #[2, 2] }, type := t, pos := ps, after := af, guard := none } := ⟨_, _, _, rfl⟩
theorem op41_3_4 : ∃ t ps af, (opsAt Try.f134 3)[4]? = some { dst := some 8, op := .assign (.tmp 15), type := t, pos := ps, after := af, guard := none } := ⟨_, _, _, rfl⟩
theorem op41_3_5 : ∃ t ps af, (opsAt Try.f134 3)[5]? = some { dst := some 9, op := .assign (.tmp 18), type := t, pos := ps, after := af, guard := none } := ⟨_, _, _, rfl⟩
theorem op30_0_0 : ∃ t ps af, (opsAt Try.f105 0)[0]? = some { dst := some 6, op := .assign (.const (.int .i64 0)), type := t, pos := ps, after := af, guard := none } := ⟨_, _, _, rfl⟩
theorem op30_0_1 : ∃ t ps af, (opsAt Try.f105 0)[1]? = some { dst := some 7, op := .assign (.const (.int .i64 0)), type := t, pos := ps, after := af, guard := none } := ⟨_, _, _, rfl⟩
theorem op30_1_0 : ∃ t ps af, (opsAt Try.f105 1)[0]? = some { dst := some 15, op := .move (.tmp 1), type := t, pos := ps, after := af, guard := none } := ⟨_, _, _, rfl⟩
theorem op30_1_1 : ∃ t ps af, (opsAt Try.f105 1)[1]? = some { dst := some 16, op := .move (.tmp 0), type := t, pos := ps, after := af, guard := none } := ⟨_, _, _, rfl⟩
theorem op30_1_2 : ∃ t ps af, (opsAt Try.f105 1)[2]? = some { dst := some 17, op := .binOp .sub 2 (.tmp 15) (.tmp 16) 2, type := t, pos := ps, after := af, guard := none } := ⟨_, _, _, rfl⟩
theorem op30_1_3 : ∃ t ps af, (opsAt Try.f105 1)[3]? = some { dst := some 18, op := .binOp .add 2 (.tmp 17) (.const (.int .i64 1)) 2, type := t, pos := ps, after := af, guard := none } := ⟨_, _, _, rfl⟩
theorem op30_1_4 : ∃ t ps af, (opsAt Try.f105 1)[4]? = some { dst := some 19, op := .binOp .quo 2 (.tmp 18) (.const (.int .i64 3)) 2, type := t, pos := ps, after := af, guard := none } := ⟨_, _, _, rfl⟩
theorem op30_1_5 : ∃ t ps af, (opsAt Try.f105 1)[5]? = some { dst := some 8, op := .assign (.tmp 19), type := t, pos := ps, after := af, guard := none } := ⟨_, _, _, rfl⟩
theorem op30_2_0 : ∃ t ps af, (opsAt Try.f105 2)[0]? = some { dst := some 20, op := .move (.tmp 0), type := t, pos := ps, after := af, guard := none } := ⟨_, _, _, rfl⟩
theorem op30_2_1 : ∃ t ps af, (opsAt Try.f105 2)[1]? = some { dst := some 21, op := .move (.tmp 8), type := t, pos := ps, after := af, guard := none } := ⟨_, _, _, rfl⟩
theorem op30_2_2 : ∃ t ps af, (opsAt Try.f105 2)[2]? = some { dst := some 22, op := .binOp .add 2 (.tmp 20) (.tmp 21) 2, type := t, pos := ps, after := af, guard := none } := ⟨_, _, _, rfl⟩
theorem op30_2_3 : ∃ t ps af, (opsAt Try.f105 2)[3]? = some { dst := some 23, op := .move (.tmp 1), type := t, pos := ps, after := af, guard := none } := ⟨_, _, _, rfl⟩
theorem op30_2_4 : ∃ t ps af, (opsAt Try.f105 2)[4]? = some { dst := some 24, op := .move (.tmp 8), type := t, pos := ps, after := af, guard := none } := ⟨_, _, _, rfl⟩
theorem op30_2_5 : ∃ t ps af, (opsAt Try.f105 2)[5]? = some { dst := some 25, op := .binOp .sub 2 (.tmp 23) (.tmp 24) 2, type := t, pos := ps, after := af, guard := none } := ⟨_, _, _, rfl⟩
theorem op30_2_6 : ∃ t ps af, (opsAt Try.f105 2)[6]? = some { dst := some 9, op := .assign (.tmp 22), type := t, pos := ps, after := af, guard := none } := ⟨_, _, _, rfl⟩
theorem op30_2_7 : ∃ t ps af, (opsAt Try.f105 2)[7]? = some { dst := some 10, op := .assign (.tmp 25), type := t, pos := ps, after := af, guard := none } := ⟨_, _, _, rfl⟩
theorem op30_3_0 : ∃ t ps af, (opsAt Try.f105 3)[0]? = some { dst := some 26, op := .move (.tmp 9), type := t, pos := ps, after := af, guard := none } := ⟨_, _, _, rfl⟩
theorem op30_3_1 : ∃ t ps af, (opsAt Try.f105 3)[1]? = some { dst := some 27, op := .move (.tmp 2), type := t, pos := ps, after := af, guard := none } := ⟨_, _, _, rfl⟩
theorem op30_3_2 : ∃ t ps af, (opsAt Try.f105 3)[2]? = some { dst := some 28, op := .call { callee := .value (.func 133), args := #[(.tmp 26), (.tmp 27)], argTypes := #[2, 92] }, type := t, pos := ps, after := af, guard := none } := ⟨_, _, _, rfl⟩
theorem op30_3_3 : ∃ t ps af, (opsAt Try.f105 3)[3]? = some { dst := some 29, op := .move (.tmp 10), type := t, pos := ps, after := af, guard := none } := ⟨_, _, _, rfl⟩
theorem op30_3_4 : ∃ t ps af, (opsAt Try.f105 3)[4]? = some { dst := some 30, op := .move (.tmp 2), type := t, pos := ps, after := af, guard := none } := ⟨_, _, _, rfl⟩
theorem op30_3_5 : ∃ t ps af, (opsAt Try.f105 3)[5]? = some { dst := some 31, op := .call { callee := .value (.func 133), args := #[(.tmp 29), (.tmp 30)], argTypes := #[2, 92] }, type := t, pos := ps, after := af, guard := none } := ⟨_, _, _, rfl⟩
theorem op30_3_6 : ∃ t ps af, (opsAt Try.f105 3)[6]? = some { dst := some 11, op := .assign (.tmp 28), type := t, pos := ps, after := af, guard := none } := ⟨_, _, _, rfl⟩
theorem op30_3_7 : ∃ t ps af, (opsAt Try.f105 3)[7]? = some { dst := some 12, op := .assign (.tmp 31), type := t, pos := ps, after := af, guard := none } := ⟨_, _, _, rfl⟩
theorem op30_4_0 : ∃ t ps af, (opsAt Try.f105 4)[0]? = some { dst := some 32, op := .move (.const (.int .i64 0)), type := t, pos := ps, after := af, guard := none } := ⟨_, _, _, rfl⟩
theorem op30_5_0 : ∃ t ps af, (opsAt Try.f105 5)[0]? = some { dst := some 33, op := .binOp .lss 3 (.tmp 32) (.const (.int .i64 2)) 3, type := t, pos := ps, after := af, guard := none } := ⟨_, _, _, rfl⟩
theorem op30_6_0 : ∃ t ps af, (opsAt Try.f105 6)[0]? = some { dst := some 34, op := .move (.tmp 11), type := t, pos := ps, after := af, guard := none } := ⟨_, _, _, rfl⟩
theorem op30_7_0 : ∃ t ps af, (opsAt Try.f105 7)[0]? = some { dst := some 35, op := .move (.tmp 12), type := t, pos := ps, after := af, guard := none } := ⟨_, _, _, rfl⟩
theorem op30_8_0 : ∃ t ps af, (opsAt Try.f105 8)[0]? = some { dst := some 36, op := .select #[{ chan := (.tmp 34), send := none, elem := 4 }, { chan := (.tmp 35), send := none, elem := 4 }] true, type := t, pos := ps, after := af, guard := none } := ⟨_, _, _, rfl⟩
theorem op30_8_1 : ∃ t ps af, (opsAt Try.f105 8)[1]? = some { dst := some 37, op := .extract (.tmp 36) 0, type := t, pos := ps, after := af, guard := none } := ⟨_, _, _, rfl⟩
theorem op30_8_2 : ∃ t ps af, (opsAt Try.f105 8)[2]? = some { dst := some 38, op := .binOp .eql 3 (.tmp 37) (.const (.int .i64 0)) 3, type := t, pos := ps, after := af, guard := none } := ⟨_, _, _, rfl⟩
theorem op30_8_3 : ∃ t ps af, (opsAt Try.f105 8)[3]? = some { dst := some 39, op := .binOp .eql 3 (.tmp 37) (.const (.int .i64 1)) 3, type := t, pos := ps, after := af, guard := none } := ⟨_, _, _, rfl⟩
theorem op30_9_0 : ∃ t ps af, (opsAt Try.f105 9)[0]? = some { dst := some 40, op := .extract (.tmp 36) 2, type := t, pos := ps, after := af, guard := none } := ⟨_, _, _, rfl⟩
theorem op30_9_1 : ∃ t ps af, (opsAt Try.f105 9)[1]? = some { dst := some 13, op := .assign (.tmp 40), type := t, pos := ps, after := af, guard := none } := ⟨_, _, _, rfl⟩
theorem op30_10_0 : ∃ t ps af, (opsAt Try.f105 10)[0]? = some { dst := some 42, op := .move (.tmp 0), type := t, pos := ps, after := af, guard := none } := ⟨_, _, _, rfl⟩
theorem op30_10_1 : ∃ t ps af, (opsAt Try.f105 10)[1]? = some { dst := some 43, op := .move (.tmp 1), type := t, pos := ps, after := af, guard := none } := ⟨_, _, _, rfl⟩
theorem op30_10_2 : ∃ t ps af, (opsAt Try.f105 10)[2]? = some { dst := some 44, op := .move (.tmp 9), type := t, pos := ps, after := af, guard := none } := ⟨_, _, _, rfl⟩
theorem op30_10_3 : ∃ t ps af, (opsAt Try.f105 10)[3]? = some { dst := some 45, op := .move (.tmp 13), type := t, pos := ps, after := af, guard := none } := ⟨_, _, _, rfl⟩
theorem op30_10_4 : ∃ t ps af, (opsAt Try.f105 10)[4]? = some { dst := some 46, op := .call { callee := .value (.func 134), args := #[(.tmp 42), (.tmp 43), (.tmp 44), (.tmp 45)], argTypes := #[2, 2, 2, 4] }, type := t, pos := ps, after := af, guard := none } := ⟨_, _, _, rfl⟩
theorem op30_10_5 : ∃ t ps af, (opsAt Try.f105 10)[5]? = some { dst := some 41, op := .move (.tmp 46), type := t, pos := ps, after := af, guard := none } := ⟨_, _, _, rfl⟩
theorem op30_10_6 : ∃ t ps af, (opsAt Try.f105 10)[6]? = some { dst := some 47, op := .extract (.tmp 41) 0, type := t, pos := ps, after := af, guard := none } := ⟨_, _, _, rfl⟩
theorem op30_10_7 : ∃ t ps af, (opsAt Try.f105 10)[7]? = some { dst := some 48, op := .extract (.tmp 41) 1, type := t, pos := ps, after := af, guard := none } := ⟨_, _, _, rfl⟩
theorem op30_10_8 : ∃ t ps af, (opsAt Try.f105 10)[8]? = some { dst := some 0, op := .assign (.tmp 47), type := t, pos := ps, after := af, guard := none } := ⟨_, _, _, rfl⟩
theorem op30_10_9 : ∃ t ps af, (opsAt Try.f105 10)[9]? = some { dst := some 1, op := .assign (.tmp 48), type := t, pos := ps, after := af, guard := none } := ⟨_, _, _, rfl⟩
theorem op30_11_0 : ∃ t ps af, (opsAt Try.f105 11)[0]? = some { dst := some 49, op := .extract (.tmp 36) 3, type := t, pos := ps, after := af, guard := none } := ⟨_, _, _, rfl⟩
theorem op30_11_1 : ∃ t ps af, (opsAt Try.f105 11)[1]? = some { dst := some 14, op := .assign (.tmp 49), type := t, pos := ps, after := af, guard := none } := ⟨_, _, _, rfl⟩
theorem op30_12_0 : ∃ t ps af, (opsAt Try.f105 12)[0]? = some { dst := some 51, op := .move (.tmp 0), type := t, pos := ps, after := af, guard := none } := ⟨_, _, _, rfl⟩
theorem op30_12_1 : ∃ t ps af, (opsAt Try.f105 12)[1]? = some { dst := some 52, op := .move (.tmp 1), type := t, pos := ps, after := af, guard := none } := ⟨_, _, _, rfl⟩
theorem op30_12_2 : ∃ t ps af, (opsAt Try.f105 12)[2]? = some { dst := some 53, op := .move (.tmp 10), type := t, pos := ps, after := af, guard := none } := ⟨_, _, _, rfl⟩
theorem op30_12_3 : ∃ t ps af, (opsAt Try.f105 12)[3]? = some { dst := some 54, op := .move (.tmp 14), type := t, pos := ps, after := af, guard := none } := ⟨_, _, _, rfl⟩
theorem op30_12_4 : ∃ t ps af, (opsAt Try.f105 12)[4]? = some { dst := some 55, op := .call { callee := .value (.func 134), args := #[(.tmp 51), (.tmp 52), (.tmp 53), (.tmp 54)], argTypes := #[2, 2, 2, 4] }, type := t, pos := ps, after := af, guard := none } := ⟨_, _, _, rfl⟩
theorem op30_12_5 : ∃ t ps af, (opsAt Try.f105 12)[5]? = some { dst := some 50, op := .move (.tmp 55), type := t, pos := ps, after := af, guard := none } := ⟨_, _, _, rfl⟩
theorem op30_12_6 : ∃ t ps af, (opsAt Try.f105 12)[6]? = some { dst := some 56, op := .extract (.tmp 50) 0, type := t, pos := ps, after := af, guard := none } := ⟨_, _, _, rfl⟩
theorem op30_12_7 : ∃ t ps af, (opsAt Try.f105 12)[7]? = some { dst := some 57, op := .extract (.tmp 50) 1, type := t, pos := ps, after := af, guard := none } := ⟨_, _, _, rfl⟩
theorem op30_12_8 : ∃ t ps af, (opsAt Try.f105 12)[8]? = some { dst := some 0, op := .assign (.tmp 56), type := t, pos := ps, after := af, guard := none } := ⟨_, _, _, rfl⟩
theorem op30_12_9 : ∃ t ps af, (opsAt Try.f105 12)[9]? = some { dst := some 1, op := .assign (.tmp 57), type := t, pos := ps, after := af, guard := none } := ⟨_, _, _, rfl⟩
theorem op30_13_0 : ∃ t ps af, (opsAt Try.f105 13)[0]? = some { dst := some 58, op := .binOp .add 3 (.tmp 32) (.const (.int .i64 1)) 3, type := t, pos := ps, after := af, guard := none } := ⟨_, _, _, rfl⟩
theorem op30_13_1 : ∃ t ps af, (opsAt Try.f105 13)[1]? = some { dst := some 32, op := .move (.tmp 58), type := t, pos := ps, after := af, guard := none } := ⟨_, _, _, rfl⟩
theorem op30_14_0 : ∃ t ps af, (opsAt Try.f105 14)[0]? = some { dst := some 59, op := .move (.tmp 0), type := t, pos := ps, after := af, guard := none } := ⟨_, _, _, rfl⟩
theorem op30_14_1 : ∃ t ps af, (opsAt Try.f105 14)[1]? = some { dst := some 60, op := .move (.tmp 1), type := t, pos := ps, after := af, guard := none } := ⟨_, _, _, rfl⟩
theorem op30_14_2 : ∃ t ps af, (opsAt Try.f105 14)[2]? = some { dst := some 6, op := .assign (.tmp 59), type := t, pos := ps, after := af, guard := none } := ⟨_, _, _, rfl⟩
theorem op30_14_3 : ∃ t ps af, (opsAt Try.f105 14)[3]? = some { dst := some 7, op := .assign (.tmp 60), type := t, pos := ps, after := af, guard := none } := ⟨_, _, _, rfl⟩
theorem MGo.pureT {rd own : Nat → Prop} {u : World} {cs : List Frame} {Stop : (Nat → Prop) → Goroutine → World → Prop} {n : Nat} {b : Frame} {S T : Array Value} {k : List Item} {ops : Array Oper} {i : Nat} {rest : List Nat} {o : Oper} {d : Nat} {v : Value} (ho : ops[i]? = some o) (hw : Region.wanted o (yielded ops S) = true) (hk : b.kind ≠ .early) (hd : o.dst = some d)
  (hr : ∀ u', (execOp (Go.Act.eval ⟨S, []⟩) o).run Try.prog u' = .ok (.value v) u') (he : ∀ u', (execOp (Go.Act.eval ⟨S, []⟩) o).events Try.prog u' #[] = #[]) (hT : S.setIfInBounds d v = T)
  (h : MGo Try.prog rd Stop n own (G (b.at ⟨T, []⟩ (.inRegion ops rest :: k)) cs) u) : MGo Try.prog rd Stop (n + 1) own (G (b.at ⟨S, []⟩ (.inRegion ops (i :: rest) :: k)) cs) u := by
 refine MGo.pure (a := ⟨S, []⟩) ho hw hk hr he ?_
 have e : (Go.Act.put ⟨S, []⟩ o.dst v) = ⟨T, []⟩ := by rw [hd, ← hT]; rfl
 rw [e]
 exact h
theorem MGo.endT {rd own : Nat → Prop} {u : World} {cs : List Frame} {Stop : (Nat → Prop) → Goroutine → World → Prop} {n : Nat} {b : Frame} {S T : Array Value} {k : List Item} {ops : Array Oper} {i : Nat} {rest : List Nat} {o : Oper} {d : Nat} {v : Value} (ho : ops[i]? = some o) (hd : o.dst = some d) (hT : S.setIfInBounds d v = T)
  (h : MGo Try.prog rd Stop n own (G (b.at ⟨T, []⟩ (.inRegion ops rest :: k)) cs) u) : MGo Try.prog rd Stop n own (G (Frame.finish (b.at ⟨S, []⟩ (.inRegion ops (i :: rest) :: k)) v) cs) u := by
 rw [Frame.finish_at, ho]
 have e : (Go.Act.put ⟨S, []⟩ ((some o).bind (·.dst)) v) = ⟨T, []⟩ := by
  show Go.Act.put ⟨S, []⟩ o.dst v = _
  rw [hd, ← hT]; rfl
 rw [e]
 exact h
theorem tm30 (a b c : Value) : #[a, b, c] ++ Array.replicate (Try.f105.ntmps - (#[a, b, c] : Array Value).size) undef = #[a, b, c, undef, undef, undef, undef, undef, undef, undef, undef, undef, undef, undef, undef, undef, undef, undef, undef, undef, undef, undef, undef, undef, undef, undef, undef, undef, undef, undef, undef, undef, undef, undef, undef, undef, undef, undef, undef, undef, undef, undef, undef, undef, undef, undef, undef, undef, undef, undef, undef, undef, undef, undef, undef, undef, undef, undef, undef, undef, undef] := by kernel_rfl
theorem tm41 (a b c d : Value) : #[a, b, c, d] ++ Array.replicate (Try.f134.ntmps - (#[a, b, c, d] : Array Value).size) undef = #[a, b, c, d, undef, undef, undef, undef, undef, undef, undef, undef, undef, undef, undef, undef, undef, undef, undef] := by kernel_rfl
abbrev NA (f : Func) (L : Int) (H : Int) (st : Int) (lf : Int) (rt : Int) (o : Nat) (l : Nat) : Frame := ((base 105).at ⟨#[ii L, ii H, holdsV o l, undef, undef, undef, ii 0, ii 0, ii st, ii lf, ii rt, undef, undef, undef, undef, ii H, ii L, ii (H - L), ii (H - L + 1), ii st, ii L, ii st, ii lf, ii H, ii st, ii rt, ii lf, holdsV o l, undef, undef, undef, undef, undef, undef, undef, undef, undef, undef, undef, undef, undef, undef, undef, undef, undef, undef, undef, undef, undef, undef, undef, undef, undef, undef, undef, undef, undef, undef, undef, undef, undef], []⟩ (.inRegion (opsAt f 3) [2, 3, 4, 5, 6, 7] :: LC f))
abbrev NB (f : Func) (L : Int) (H : Int) (st : Int) (lf : Int) (rt : Int) (o : Nat) (l : Nat) (c : Nat) : Frame := ((base 105).at ⟨#[ii L, ii H, holdsV o l, undef, undef, undef, ii 0, ii 0, ii st, ii lf, ii rt, undef, undef, undef, undef, ii H, ii L, ii (H - L), ii (H - L + 1), ii st, ii L, ii st, ii lf, ii H, ii st, ii rt, ii lf, holdsV o l, cc c, ii rt, holdsV o l, undef, undef, undef, undef, undef, undef, undef, undef, undef, undef, undef, undef, undef, undef, undef, undef, undef, undef, undef, undef, undef, undef, undef, undef, undef, undef, undef, undef, undef, undef], []⟩ (.inRegion (opsAt f 3) [5, 6, 7] :: LC f))
abbrev S0 (f : Func) (L : Int) (H : Int) (st : Int) (lf : Int) (rt : Int) (o : Nat) (l : Nat) (c : Nat) (e : Nat) : Frame := ((base 105).at ⟨#[ii L, ii H, holdsV o l, undef, undef, undef, ii 0, ii 0, ii st, ii lf, ii rt, cc c, cc e, undef, undef, ii H, ii L, ii (H - L), ii (H - L + 1), ii st, ii L, ii st, ii lf, ii H, ii st, ii rt, ii lf, holdsV o l, cc c, ii rt, holdsV o l, cc e, ii 0, bb true, cc c, cc e, undef, undef, undef, undef, undef, undef, undef, undef, undef, undef, undef, undef, undef, undef, undef, undef, undef, undef, undef, undef, undef, undef, undef, undef, undef], []⟩ (.inRegion (opsAt f 8) [0, 1, 2, 3] :: .code (.block 2 (.cond (.tmp 38) (.seq (Rg f 9) (Rg f 10)) (.cond (.tmp 39) (.seq (Rg f 11) (Rg f 12)) .skip))) :: .inBlock 1 :: .code (Rg f 13) :: LL f))
abbrev M0 (f : Func) (L : Int) (H : Int) (st : Int) (lf : Int) (rt : Int) (o : Nat) (l : Nat) (c : Nat) (e : Nat) (y : Bool) : Frame := ((base 105).at ⟨#[ii L, ii H, holdsV o l, undef, undef, undef, ii 0, ii 0, ii st, ii lf, ii rt, cc c, cc e, bb y, undef, ii H, ii L, ii (H - L), ii (H - L + 1), ii st, ii L, ii st, ii lf, ii H, ii st, ii rt, ii lf, holdsV o l, cc c, ii rt, holdsV o l, cc e, ii 0, bb true, cc c, cc e, .tuple #[ii 0, bb true, bb y, bb false], ii 0, bb true, bb false, bb y, undef, ii L, ii H, ii lf, bb y, undef, undef, undef, undef, undef, undef, undef, undef, undef, undef, undef, undef, undef, undef, undef], []⟩ (.inRegion (opsAt f 10) [4, 5, 6, 7, 8, 9] :: .inBlock 2 :: .inBlock 1 :: .code (Rg f 13) :: LL f))
abbrev S10 (f : Func) (L : Int) (H : Int) (L1 : Int) (H1 : Int) (st : Int) (lf : Int) (rt : Int) (o : Nat) (l : Nat) (c : Nat) (e : Nat) (y : Bool) : Frame := ((base 105).at ⟨#[ii L1, ii H1, holdsV o l, undef, undef, undef, ii 0, ii 0, ii st, ii lf, ii rt, cc c, cc e, bb y, undef, ii H, ii L, ii (H - L), ii (H - L + 1), ii st, ii L, ii st, ii lf, ii H, ii st, ii rt, ii lf, holdsV o l, cc c, ii rt, holdsV o l, cc e, ii 1, bb true, cc c, cc e, .tuple #[ii 0, bb true, bb y, bb false], ii 0, bb true, bb false, bb y, tt L1 H1, ii L, ii H, ii lf, bb y, tt L1 H1, ii L1, ii H1, undef, undef, undef, undef, undef, undef, undef, undef, undef, ii 1, undef, undef], []⟩ (.inRegion (opsAt f 8) [0, 1, 2, 3] :: .code (.block 2 (.cond (.tmp 38) (.seq (Rg f 9) (Rg f 10)) (.cond (.tmp 39) (.seq (Rg f 11) (Rg f 12)) .skip))) :: .inBlock 1 :: .code (Rg f 13) :: LL f))
abbrev K0 (f : Func) (L : Int) (H : Int) (L1 : Int) (H1 : Int) (st : Int) (lf : Int) (rt : Int) (o : Nat) (l : Nat) (c : Nat) (e : Nat) (y : Bool) (z : Bool) : Frame := ((base 105).at ⟨#[ii L1, ii H1, holdsV o l, undef, undef, undef, ii 0, ii 0, ii st, ii lf, ii rt, cc c, cc e, bb y, bb z, ii H, ii L, ii (H - L), ii (H - L + 1), ii st, ii L, ii st, ii lf, ii H, ii st, ii rt, ii lf, holdsV o l, cc c, ii rt, holdsV o l, cc e, ii 1, bb true, cc c, cc e, .tuple #[ii 1, bb true, bb false, bb z], ii 1, bb false, bb true, bb y, tt L1 H1, ii L, ii H, ii lf, bb y, tt L1 H1, ii L1, ii H1, bb z, undef, ii L1, ii H1, ii rt, bb z, undef, undef, undef, ii 1, undef, undef], []⟩ (.inRegion (opsAt f 12) [4, 5, 6, 7, 8, 9] :: .inBlock 2 :: .inBlock 1 :: .code (Rg f 13) :: LL f))
abbrev M1 (f : Func) (L : Int) (H : Int) (st : Int) (lf : Int) (rt : Int) (o : Nat) (l : Nat) (c : Nat) (e : Nat) (y : Bool) : Frame := ((base 105).at ⟨#[ii L, ii H, holdsV o l, undef, undef, undef, ii 0, ii 0, ii st, ii lf, ii rt, cc c, cc e, undef, bb y, ii H, ii L, ii (H - L), ii (H - L + 1), ii st, ii L, ii st, ii lf, ii H, ii st, ii rt, ii lf, holdsV o l, cc c, ii rt, holdsV o l, cc e, ii 0, bb true, cc c, cc e, .tuple #[ii 1, bb true, bb false, bb y], ii 1, bb false, bb true, undef, undef, undef, undef, undef, undef, undef, undef, undef, bb y, undef, ii L, ii H, ii rt, bb y, undef, undef, undef, undef, undef, undef], []⟩ (.inRegion (opsAt f 12) [4, 5, 6, 7, 8, 9] :: .inBlock 2 :: .inBlock 1 :: .code (Rg f 13) :: LL f))
abbrev S11 (f : Func) (L : Int) (H : Int) (L1 : Int) (H1 : Int) (st : Int) (lf : Int) (rt : Int) (o : Nat) (l : Nat) (c : Nat) (e : Nat) (y : Bool) : Frame := ((base 105).at ⟨#[ii L1, ii H1, holdsV o l, undef, undef, undef, ii 0, ii 0, ii st, ii lf, ii rt, cc c, cc e, undef, bb y, ii H, ii L, ii (H - L), ii (H - L + 1), ii st, ii L, ii st, ii lf, ii H, ii st, ii rt, ii lf, holdsV o l, cc c, ii rt, holdsV o l, cc e, ii 1, bb true, cc c, cc e, .tuple #[ii 1, bb true, bb false, bb y], ii 1, bb false, bb true, undef, undef, undef, undef, undef, undef, undef, undef, undef, bb y, tt L1 H1, ii L, ii H, ii rt, bb y, tt L1 H1, ii L1, ii H1, ii 1, undef, undef], []⟩ (.inRegion (opsAt f 8) [0, 1, 2, 3] :: .code (.block 2 (.cond (.tmp 38) (.seq (Rg f 9) (Rg f 10)) (.cond (.tmp 39) (.seq (Rg f 11) (Rg f 12)) .skip))) :: .inBlock 1 :: .code (Rg f 13) :: LL f))
abbrev K1 (f : Func) (L : Int) (H : Int) (L1 : Int) (H1 : Int) (st : Int) (lf : Int) (rt : Int) (o : Nat) (l : Nat) (c : Nat) (e : Nat) (y : Bool) (z : Bool) : Frame := ((base 105).at ⟨#[ii L1, ii H1, holdsV o l, undef, undef, undef, ii 0, ii 0, ii st, ii lf, ii rt, cc c, cc e, bb z, bb y, ii H, ii L, ii (H - L), ii (H - L + 1), ii st, ii L, ii st, ii lf, ii H, ii st, ii rt, ii lf, holdsV o l, cc c, ii rt, holdsV o l, cc e, ii 1, bb true, cc c, cc e, .tuple #[ii 0, bb true, bb z, bb false], ii 0, bb true, bb false, bb z, undef, ii L1, ii H1, ii lf, bb z, undef, undef, undef, bb y, tt L1 H1, ii L, ii H, ii rt, bb y, tt L1 H1, ii L1, ii H1, ii 1, undef, undef], []⟩ (.inRegion (opsAt f 10) [4, 5, 6, 7, 8, 9] :: .inBlock 2 :: .inBlock 1 :: .code (Rg f 13) :: LL f))
section
variable {rd own : Nat → Prop} {u : World} {cs : List Frame} {o l : Nat} {Stop : (Nat → Prop) → Goroutine → World → Prop} {m : Nat} {top : Frame}
set_option maxRecDepth 4000 in
theorem mov_yes {a b c : Int} (h : MGo Try.prog rd Stop m own (G (top.finish (.tuple #[.int .i64 (max a c), .int .i64 b])) cs) u) : MGo Try.prog rd Stop (m + 22) own (G (Frame.enter Try.prog 134 #[.int .i64 a, .int .i64 b, .int .i64 c, .bool true] .normal) (top :: cs)) u := by
 rw [enter_at _ Try.func134 body41, tm41]
 refine MGo.ctl (fun _ => stepG_seq) rfl rfl ?_
 refine MGo.ctl (fun _ => stepG_region) rfl rfl ?_
 rw [show List.range (opsAt Try.f134 0).size = [0, 1] from by kernel_rfl]
 obtain ⟨_, _, _, hop⟩ := op41_0_0
 refine MGo.pureT (d := 8) (v := .int .i64 0) (T := #[.int .i64 a, .int .i64 b, .int .i64 c, .bool true, Z, Z, Z, Z, .int .i64 0, Z, Z, Z, Z, Z, Z, Z, Z, Z, Z]) hop rfl (by decide) rfl (fun u' => run_assign rfl) (fun u' => evs_assign) (by kernel_rfl) ?_
 clear hop
 obtain ⟨_, _, _, hop⟩ := op41_0_1
 refine MGo.pureT (d := 9) (v := .int .i64 0) (T := #[.int .i64 a, .int .i64 b, .int .i64 c, .bool true, Z, Z, Z, Z, .int .i64 0, .int .i64 0, Z, Z, Z, Z, Z, Z, Z, Z, Z]) hop rfl (by decide) rfl (fun u' => run_assign rfl) (fun u' => evs_assign) (by kernel_rfl) ?_
 clear hop
 refine MGo.ctl (fun _ => stepG_region_end) rfl rfl ?_
 refine MGo.ctl (fun _ => stepG_seq) rfl rfl ?_
 refine MGo.ctl (fun _ => stepG_seq) rfl rfl ?_
 refine MGo.ctl (fun _ => stepG_region) rfl rfl ?_
 rw [show List.range (opsAt Try.f134 1).size = [0] from by kernel_rfl]
 obtain ⟨_, _, _, hop⟩ := op41_1_0
 refine MGo.pureT (d := 10) (v := .bool true) (T := #[.int .i64 a, .int .i64 b, .int .i64 c, .bool true, Z, Z, Z, Z, .int .i64 0, .int .i64 0, .bool true, Z, Z, Z, Z, Z, Z, Z, Z]) hop rfl (by decide) rfl (fun u' => run_move rfl) (fun u' => evs_move) (by kernel_rfl) ?_
 clear hop
 refine MGo.ctl (fun _ => stepG_region_end) rfl rfl ?_
 refine MGo.ctl (fun _ => stepG_cond (t := true) rfl) rfl rfl ?_
 refine MGo.ctl (fun _ => stepG_seq) rfl rfl ?_
 refine MGo.ctl (fun _ => stepG_region) rfl rfl ?_
 rw [show List.range (opsAt Try.f134 2).size = [0, 1, 2, 3, 4, 5] from by kernel_rfl]
 obtain ⟨_, _, _, hop⟩ := op41_2_0
 refine MGo.pureT (d := 11) (v := .int .i64 a) (T := #[.int .i64 a, .int .i64 b, .int .i64 c, .bool true, Z, Z, Z, Z, .int .i64 0, .int .i64 0, .bool true, .int .i64 a, Z, Z, Z, Z, Z, Z, Z]) hop rfl (by decide) rfl (fun u' => run_move rfl) (fun u' => evs_move) (by kernel_rfl) ?_
 clear hop
 obtain ⟨_, _, _, hop⟩ := op41_2_1
 refine MGo.pureT (d := 12) (v := .int .i64 c) (T := #[.int .i64 a, .int .i64 b, .int .i64 c, .bool true, Z, Z, Z, Z, .int .i64 0, .int .i64 0, .bool true, .int .i64 a, .int .i64 c, Z, Z, Z, Z, Z, Z]) hop rfl (by decide) rfl (fun u' => run_move rfl) (fun u' => evs_move) (by kernel_rfl) ?_
 clear hop
 obtain ⟨_, _, _, hop⟩ := op41_2_2
 refine MGo.pureT (d := 13) (v := .int .i64 (max a c)) (T := #[.int .i64 a, .int .i64 b, .int .i64 c, .bool true, Z, Z, Z, Z, .int .i64 0, .int .i64 0, .bool true, .int .i64 a, .int .i64 c, .int .i64 (max a c), Z, Z, Z, Z, Z]) hop rfl (by decide) rfl (fun u' => run_max rfl rfl) (fun u' => evs_max rfl rfl) (by kernel_rfl) ?_
 clear hop
 obtain ⟨_, _, _, hop⟩ := op41_2_3
 refine MGo.pureT (d := 14) (v := .int .i64 b) (T := #[.int .i64 a, .int .i64 b, .int .i64 c, .bool true, Z, Z, Z, Z, .int .i64 0, .int .i64 0, .bool true, .int .i64 a, .int .i64 c, .int .i64 (max a c), .int .i64 b, Z, Z, Z, Z]) hop rfl (by decide) rfl (fun u' => run_move rfl) (fun u' => evs_move) (by kernel_rfl) ?_
 clear hop
 obtain ⟨_, _, _, hop⟩ := op41_2_4
 refine MGo.pureT (d := 8) (v := .int .i64 (max a c)) (T := #[.int .i64 a, .int .i64 b, .int .i64 c, .bool true, Z, Z, Z, Z, .int .i64 (max a c), .int .i64 0, .bool true, .int .i64 a, .int .i64 c, .int .i64 (max a c), .int .i64 b, Z, Z, Z, Z]) hop rfl (by decide) rfl (fun u' => run_assign rfl) (fun u' => evs_assign) (by kernel_rfl) ?_
 clear hop
 obtain ⟨_, _, _, hop⟩ := op41_2_5
 refine MGo.pureT (d := 9) (v := .int .i64 b) (T := #[.int .i64 a, .int .i64 b, .int .i64 c, .bool true, Z, Z, Z, Z, .int .i64 (max a c), .int .i64 b, .bool true, .int .i64 a, .int .i64 c, .int .i64 (max a c), .int .i64 b, Z, Z, Z, Z]) hop rfl (by decide) rfl (fun u' => run_assign rfl) (fun u' => evs_assign) (by kernel_rfl) ?_
 clear hop
 refine MGo.ctl (fun _ => stepG_region_end) rfl rfl ?_
 refine MGo.ctl (fun _ => stepG_ret') rfl rfl ?_
 exact MGo.leave rfl rfl Try.func134 (fun u' => by simp [results, Try.results134]) (fun u' => by simp [results, Try.results134]) h
set_option maxRecDepth 4000 in
theorem mov_no {a b c : Int} (h : MGo Try.prog rd Stop m own (G (top.finish (.tuple #[.int .i64 a, .int .i64 (min b c)])) cs) u) : MGo Try.prog rd Stop (m + 23) own (G (Frame.enter Try.prog 134 #[.int .i64 a, .int .i64 b, .int .i64 c, .bool false] .normal) (top :: cs)) u := by
 rw [enter_at _ Try.func134 body41, tm41]
 refine MGo.ctl (fun _ => stepG_seq) rfl rfl ?_
 refine MGo.ctl (fun _ => stepG_region) rfl rfl ?_
 rw [show List.range (opsAt Try.f134 0).size = [0, 1] from by kernel_rfl]
 obtain ⟨_, _, _, hop⟩ := op41_0_0
 refine MGo.pureT (d := 8) (v := .int .i64 0) (T := #[.int .i64 a, .int .i64 b, .int .i64 c, .bool false, Z, Z, Z, Z, .int .i64 0, Z, Z, Z, Z, Z, Z, Z, Z, Z, Z]) hop rfl (by decide) rfl (fun u' => run_assign rfl) (fun u' => evs_assign) (by kernel_rfl) ?_
 clear hop
 obtain ⟨_, _, _, hop⟩ := op41_0_1
 refine MGo.pureT (d := 9) (v := .int .i64 0) (T := #[.int .i64 a, .int .i64 b, .int .i64 c, .bool false, Z, Z, Z, Z, .int .i64 0, .int .i64 0, Z, Z, Z, Z, Z, Z, Z, Z, Z]) hop rfl (by decide) rfl (fun u' => run_assign rfl) (fun u' => evs_assign) (by kernel_rfl) ?_
 clear hop
 refine MGo.ctl (fun _ => stepG_region_end) rfl rfl ?_
 refine MGo.ctl (fun _ => stepG_seq) rfl rfl ?_
 refine MGo.ctl (fun _ => stepG_seq) rfl rfl ?_
 refine MGo.ctl (fun _ => stepG_region) rfl rfl ?_
 rw [show List.range (opsAt Try.f134 1).size = [0] from by kernel_rfl]
 obtain ⟨_, _, _, hop⟩ := op41_1_0
 refine MGo.pureT (d := 10) (v := .bool false) (T := #[.int .i64 a, .int .i64 b, .int .i64 c, .bool false, Z, Z, Z, Z, .int .i64 0, .int .i64 0, .bool false, Z, Z, Z, Z, Z, Z, Z, Z]) hop rfl (by decide) rfl (fun u' => run_move rfl) (fun u' => evs_move) (by kernel_rfl) ?_
 clear hop
 refine MGo.ctl (fun _ => stepG_region_end) rfl rfl ?_
 refine MGo.ctl (fun _ => stepG_cond (t := false) rfl) rfl rfl ?_
 refine MGo.ctl (fun _ => stepG_skip) rfl rfl ?_
 refine MGo.ctl (fun _ => stepG_seq) rfl rfl ?_
 refine MGo.ctl (fun _ => stepG_region) rfl rfl ?_
 rw [show List.range (opsAt Try.f134 3).size = [0, 1, 2, 3, 4, 5] from by kernel_rfl]
 obtain ⟨_, _, _, hop⟩ := op41_3_0
 refine MGo.pureT (d := 15) (v := .int .i64 a) (T := #[.int .i64 a, .int .i64 b, .int .i64 c, .bool false, Z, Z, Z, Z, .int .i64 0, .int .i64 0, .bool false, Z, Z, Z, Z, .int .i64 a, Z, Z, Z]) hop rfl (by decide) rfl (fun u' => run_move rfl) (fun u' => evs_move) (by kernel_rfl) ?_
 clear hop
 obtain ⟨_, _, _, hop⟩ := op41_3_1
 refine MGo.pureT (d := 16) (v := .int .i64 b) (T := #[.int .i64 a, .int .i64 b, .int .i64 c, .bool false, Z, Z, Z, Z, .int .i64 0, .int .i64 0, .bool false, Z, Z, Z, Z, .int .i64 a, .int .i64 b, Z, Z]) hop rfl (by decide) rfl (fun u' => run_move rfl) (fun u' => evs_move) (by kernel_rfl) ?_
 clear hop
 obtain ⟨_, _, _, hop⟩ := op41_3_2
 refine MGo.pureT (d := 17) (v := .int .i64 c) (T := #[.int .i64 a, .int .i64 b, .int .i64 c, .bool false, Z, Z, Z, Z, .int .i64 0, .int .i64 0, .bool false, Z, Z, Z, Z, .int .i64 a, .int .i64 b, .int .i64 c, Z]) hop rfl (by decide) rfl (fun u' => run_move rfl) (fun u' => evs_move) (by kernel_rfl) ?_
 clear hop
 obtain ⟨_, _, _, hop⟩ := op41_3_3
 refine MGo.pureT (d := 18) (v := .int .i64 (min b c)) (T := #[.int .i64 a, .int .i64 b, .int .i64 c, .bool false, Z, Z, Z, Z, .int .i64 0, .int .i64 0, .bool false, Z, Z, Z, Z, .int .i64 a, .int .i64 b, .int .i64 c, .int .i64 (min b c)]) hop rfl (by decide) rfl (fun u' => run_min rfl rfl) (fun u' => evs_min rfl rfl) (by kernel_rfl) ?_
 clear hop
 obtain ⟨_, _, _, hop⟩ := op41_3_4
 refine MGo.pureT (d := 8) (v := .int .i64 a) (T := #[.int .i64 a, .int .i64 b, .int .i64 c, .bool false, Z, Z, Z, Z, .int .i64 a, .int .i64 0, .bool false, Z, Z, Z, Z, .int .i64 a, .int .i64 b, .int .i64 c, .int .i64 (min b c)]) hop rfl (by decide) rfl (fun u' => run_assign rfl) (fun u' => evs_assign) (by kernel_rfl) ?_
 clear hop
 obtain ⟨_, _, _, hop⟩ := op41_3_5
 refine MGo.pureT (d := 9) (v := .int .i64 (min b c)) (T := #[.int .i64 a, .int .i64 b, .int .i64 c, .bool false, Z, Z, Z, Z, .int .i64 a, .int .i64 (min b c), .bool false, Z, Z, Z, Z, .int .i64 a, .int .i64 b, .int .i64 c, .int .i64 (min b c)]) hop rfl (by decide) rfl (fun u' => run_assign rfl) (fun u' => evs_assign) (by kernel_rfl) ?_
 clear hop
 refine MGo.ctl (fun _ => stepG_region_end) rfl rfl ?_
 refine MGo.ctl (fun _ => stepG_ret') rfl rfl ?_
 exact MGo.leave rfl rfl Try.func134 (fun u' => by simp [results, Try.results134]) (fun u' => by simp [results, Try.results134]) h
set_option maxRecDepth 4000 in
theorem nar_a {L H st lf rt : Int} (h1 : (H - L + 1).tdiv 3 = st) (h2 : L + st = lf) (h3 : H - st = rt) (r1 : I64 (H - L)) (r2 : I64 (H - L + 1)) (r3 : I64 st) (r4 : I64 lf) (r5 : I64 rt) (h : MGo Try.prog rd Stop m own (G (Frame.enter Try.prog 133 #[.int .i64 lf, holdsV o l] .normal) ((NA Try.f105 L H st lf rt o l) :: cs)) u) : MGo Try.prog rd Stop (m + 30) own (G (Frame.enter Try.prog 105 #[.int .i64 L, .int .i64 H, holdsV o l] .normal) cs) u := by
 rw [enter_at _ Try.func105 body30, tm30]
 refine MGo.ctl (fun _ => stepG_seq) rfl rfl ?_
 refine MGo.ctl (fun _ => stepG_region) rfl rfl ?_
 rw [show List.range (opsAt Try.f105 0).size = [0, 1] from by kernel_rfl]
 obtain ⟨_, _, _, hop⟩ := op30_0_0
 refine MGo.pureT (d := 6) (v := .int .i64 0) (T := #[ii L, ii H, holdsV o l, Z, Z, Z, ii 0, Z, Z, Z, Z, Z, Z, Z, Z, Z, Z, Z, Z, Z, Z, Z, Z, Z, Z, Z, Z, Z, Z, Z, Z, Z, Z, Z, Z, Z, Z, Z, Z, Z, Z, Z, Z, Z, Z, Z, Z, Z, Z, Z, Z, Z, Z, Z, Z, Z, Z, Z, Z, Z, Z]) hop rfl (by decide) rfl (fun u' => run_assign rfl) (fun u' => evs_assign) (by kernel_rfl) ?_
 clear hop
 obtain ⟨_, _, _, hop⟩ := op30_0_1
 refine MGo.pureT (d := 7) (v := .int .i64 0) (T := #[ii L, ii H, holdsV o l, Z, Z, Z, ii 0, ii 0, Z, Z, Z, Z, Z, Z, Z, Z, Z, Z, Z, Z, Z, Z, Z, Z, Z, Z, Z, Z, Z, Z, Z, Z, Z, Z, Z, Z, Z, Z, Z, Z, Z, Z, Z, Z, Z, Z, Z, Z, Z, Z, Z, Z, Z, Z, Z, Z, Z, Z, Z, Z, Z]) hop rfl (by decide) rfl (fun u' => run_assign rfl) (fun u' => evs_assign) (by kernel_rfl) ?_
 clear hop
 refine MGo.ctl (fun _ => stepG_region_end) rfl rfl ?_
 refine MGo.ctl (fun _ => stepG_seq) rfl rfl ?_
 refine MGo.ctl (fun _ => stepG_region) rfl rfl ?_
 rw [show List.range (opsAt Try.f105 1).size = [0, 1, 2, 3, 4, 5] from by kernel_rfl]
 obtain ⟨_, _, _, hop⟩ := op30_1_0
 refine MGo.pureT (d := 15) (v := .int .i64 H) (T := #[ii L, ii H, holdsV o l, Z, Z, Z, ii 0, ii 0, Z, Z, Z, Z, Z, Z, Z, ii H, Z, Z, Z, Z, Z, Z, Z, Z, Z, Z, Z, Z, Z, Z, Z, Z, Z, Z, Z, Z, Z, Z, Z, Z, Z, Z, Z, Z, Z, Z, Z, Z, Z, Z, Z, Z, Z, Z, Z, Z, Z, Z, Z, Z, Z]) hop rfl (by decide) rfl (fun u' => run_move rfl) (fun u' => evs_move) (by kernel_rfl) ?_
 clear hop
 obtain ⟨_, _, _, hop⟩ := op30_1_1
 refine MGo.pureT (d := 16) (v := .int .i64 L) (T := #[ii L, ii H, holdsV o l, Z, Z, Z, ii 0, ii 0, Z, Z, Z, Z, Z, Z, Z, ii H, ii L, Z, Z, Z, Z, Z, Z, Z, Z, Z, Z, Z, Z, Z, Z, Z, Z, Z, Z, Z, Z, Z, Z, Z, Z, Z, Z, Z, Z, Z, Z, Z, Z, Z, Z, Z, Z, Z, Z, Z, Z, Z, Z, Z, Z]) hop rfl (by decide) rfl (fun u' => run_move rfl) (fun u' => evs_move) (by kernel_rfl) ?_
 clear hop
 obtain ⟨_, _, _, hop⟩ := op30_1_2
 refine MGo.pureT (d := 17) (v := .int .i64 (H - L)) (T := #[ii L, ii H, holdsV o l, Z, Z, Z, ii 0, ii 0, Z, Z, Z, Z, Z, Z, Z, ii H, ii L, ii (H - L), Z, Z, Z, Z, Z, Z, Z, Z, Z, Z, Z, Z, Z, Z, Z, Z, Z, Z, Z, Z, Z, Z, Z, Z, Z, Z, Z, Z, Z, Z, Z, Z, Z, Z, Z, Z, Z, Z, Z, Z, Z, Z, Z]) hop rfl (by decide) rfl (fun u' => run_sub rfl rfl rfl r1) (fun u' => evs_bin2 rfl rfl (.inr (.inl rfl))) (by kernel_rfl) ?_
 clear hop
 obtain ⟨_, _, _, hop⟩ := op30_1_3
 refine MGo.pureT (d := 18) (v := .int .i64 (H - L + 1)) (T := #[ii L, ii H, holdsV o l, Z, Z, Z, ii 0, ii 0, Z, Z, Z, Z, Z, Z, Z, ii H, ii L, ii (H - L), ii (H - L + 1), Z, Z, Z, Z, Z, Z, Z, Z, Z, Z, Z, Z, Z, Z, Z, Z, Z, Z, Z, Z, Z, Z, Z, Z, Z, Z, Z, Z, Z, Z, Z, Z, Z, Z, Z, Z, Z, Z, Z, Z, Z, Z]) hop rfl (by decide) rfl (fun u' => run_add rfl rfl rfl r2) (fun u' => evs_bin2 rfl rfl (.inl rfl)) (by kernel_rfl) ?_
 clear hop
 obtain ⟨_, _, _, hop⟩ := op30_1_4
 refine MGo.pureT (d := 19) (v := .int .i64 st) (T := #[ii L, ii H, holdsV o l, Z, Z, Z, ii 0, ii 0, Z, Z, Z, Z, Z, Z, Z, ii H, ii L, ii (H - L), ii (H - L + 1), ii st, Z, Z, Z, Z, Z, Z, Z, Z, Z, Z, Z, Z, Z, Z, Z, Z, Z, Z, Z, Z, Z, Z, Z, Z, Z, Z, Z, Z, Z, Z, Z, Z, Z, Z, Z, Z, Z, Z, Z, Z, Z]) hop rfl (by decide) rfl (fun u' => run_quo3 rfl rfl h1 r3) (fun u' => evs_quo3 rfl rfl) (by kernel_rfl) ?_
 clear hop
 obtain ⟨_, _, _, hop⟩ := op30_1_5
 refine MGo.pureT (d := 8) (v := .int .i64 st) (T := #[ii L, ii H, holdsV o l, Z, Z, Z, ii 0, ii 0, ii st, Z, Z, Z, Z, Z, Z, ii H, ii L, ii (H - L), ii (H - L + 1), ii st, Z, Z, Z, Z, Z, Z, Z, Z, Z, Z, Z, Z, Z, Z, Z, Z, Z, Z, Z, Z, Z, Z, Z, Z, Z, Z, Z, Z, Z, Z, Z, Z, Z, Z, Z, Z, Z, Z, Z, Z, Z]) hop rfl (by decide) rfl (fun u' => run_assign rfl) (fun u' => evs_assign) (by kernel_rfl) ?_
 clear hop
 refine MGo.ctl (fun _ => stepG_region_end) rfl rfl ?_
 refine MGo.ctl (fun _ => stepG_seq) rfl rfl ?_
 refine MGo.ctl (fun _ => stepG_region) rfl rfl ?_
 rw [show List.range (opsAt Try.f105 2).size = [0, 1, 2, 3, 4, 5, 6, 7] from by kernel_rfl]
 obtain ⟨_, _, _, hop⟩ := op30_2_0
 refine MGo.pureT (d := 20) (v := .int .i64 L) (T := #[ii L, ii H, holdsV o l, Z, Z, Z, ii 0, ii 0, ii st, Z, Z, Z, Z, Z, Z, ii H, ii L, ii (H - L), ii (H - L + 1), ii st, ii L, Z, Z, Z, Z, Z, Z, Z, Z, Z, Z, Z, Z, Z, Z, Z, Z, Z, Z, Z, Z, Z, Z, Z, Z, Z, Z, Z, Z, Z, Z, Z, Z, Z, Z, Z, Z, Z, Z, Z, Z]) hop rfl (by decide) rfl (fun u' => run_move rfl) (fun u' => evs_move) (by kernel_rfl) ?_
 clear hop
 obtain ⟨_, _, _, hop⟩ := op30_2_1
 refine MGo.pureT (d := 21) (v := .int .i64 st) (T := #[ii L, ii H, holdsV o l, Z, Z, Z, ii 0, ii 0, ii st, Z, Z, Z, Z, Z, Z, ii H, ii L, ii (H - L), ii (H - L + 1), ii st, ii L, ii st, Z, Z, Z, Z, Z, Z, Z, Z, Z, Z, Z, Z, Z, Z, Z, Z, Z, Z, Z, Z, Z, Z, Z, Z, Z, Z, Z, Z, Z, Z, Z, Z, Z, Z, Z, Z, Z, Z, Z]) hop rfl (by decide) rfl (fun u' => run_move rfl) (fun u' => evs_move) (by kernel_rfl) ?_
 clear hop
 obtain ⟨_, _, _, hop⟩ := op30_2_2
 refine MGo.pureT (d := 22) (v := .int .i64 lf) (T := #[ii L, ii H, holdsV o l, Z, Z, Z, ii 0, ii 0, ii st, Z, Z, Z, Z, Z, Z, ii H, ii L, ii (H - L), ii (H - L + 1), ii st, ii L, ii st, ii lf, Z, Z, Z, Z, Z, Z, Z, Z, Z, Z, Z, Z, Z, Z, Z, Z, Z, Z, Z, Z, Z, Z, Z, Z, Z, Z, Z, Z, Z, Z, Z, Z, Z, Z, Z, Z, Z, Z]) hop rfl (by decide) rfl (fun u' => run_add rfl rfl h2 r4) (fun u' => evs_bin2 rfl rfl (.inl rfl)) (by kernel_rfl) ?_
 clear hop
 obtain ⟨_, _, _, hop⟩ := op30_2_3
 refine MGo.pureT (d := 23) (v := .int .i64 H) (T := #[ii L, ii H, holdsV o l, Z, Z, Z, ii 0, ii 0, ii st, Z, Z, Z, Z, Z, Z, ii H, ii L, ii (H - L), ii (H - L + 1), ii st, ii L, ii st, ii lf, ii H, Z, Z, Z, Z, Z, Z, Z, Z, Z, Z, Z, Z, Z, Z, Z, Z, Z, Z, Z, Z, Z, Z, Z, Z, Z, Z, Z, Z, Z, Z, Z, Z, Z, Z, Z, Z, Z]) hop rfl (by decide) rfl (fun u' => run_move rfl) (fun u' => evs_move) (by kernel_rfl) ?_
 clear hop
 obtain ⟨_, _, _, hop⟩ := op30_2_4
 refine MGo.pureT (d := 24) (v := .int .i64 st) (T := #[ii L, ii H, holdsV o l, Z, Z, Z, ii 0, ii 0, ii st, Z, Z, Z, Z, Z, Z, ii H, ii L, ii (H - L), ii (H - L + 1), ii st, ii L, ii st, ii lf, ii H, ii st, Z, Z, Z, Z, Z, Z, Z, Z, Z, Z, Z, Z, Z, Z, Z, Z, Z, Z, Z, Z, Z, Z, Z, Z, Z, Z, Z, Z, Z, Z, Z, Z, Z, Z, Z, Z]) hop rfl (by decide) rfl (fun u' => run_move rfl) (fun u' => evs_move) (by kernel_rfl) ?_
 clear hop
 obtain ⟨_, _, _, hop⟩ := op30_2_5
 refine MGo.pureT (d := 25) (v := .int .i64 rt) (T := #[ii L, ii H, holdsV o l, Z, Z, Z, ii 0, ii 0, ii st, Z, Z, Z, Z, Z, Z, ii H, ii L, ii (H - L), ii (H - L + 1), ii st, ii L, ii st, ii lf, ii H, ii st, ii rt, Z, Z, Z, Z, Z, Z, Z, Z, Z, Z, Z, Z, Z, Z, Z, Z, Z, Z, Z, Z, Z, Z, Z, Z, Z, Z, Z, Z, Z, Z, Z, Z, Z, Z, Z]) hop rfl (by decide) rfl (fun u' => run_sub rfl rfl h3 r5) (fun u' => evs_bin2 rfl rfl (.inr (.inl rfl))) (by kernel_rfl) ?_
 clear hop
 obtain ⟨_, _, _, hop⟩ := op30_2_6
 refine MGo.pureT (d := 9) (v := .int .i64 lf) (T := #[ii L, ii H, holdsV o l, Z, Z, Z, ii 0, ii 0, ii st, ii lf, Z, Z, Z, Z, Z, ii H, ii L, ii (H - L), ii (H - L + 1), ii st, ii L, ii st, ii lf, ii H, ii st, ii rt, Z, Z, Z, Z, Z, Z, Z, Z, Z, Z, Z, Z, Z, Z, Z, Z, Z, Z, Z, Z, Z, Z, Z, Z, Z, Z, Z, Z, Z, Z, Z, Z, Z, Z, Z]) hop rfl (by decide) rfl (fun u' => run_assign rfl) (fun u' => evs_assign) (by kernel_rfl) ?_
 clear hop
 obtain ⟨_, _, _, hop⟩ := op30_2_7
 refine MGo.pureT (d := 10) (v := .int .i64 rt) (T := #[ii L, ii H, holdsV o l, Z, Z, Z, ii 0, ii 0, ii st, ii lf, ii rt, Z, Z, Z, Z, ii H, ii L, ii (H - L), ii (H - L + 1), ii st, ii L, ii st, ii lf, ii H, ii st, ii rt, Z, Z, Z, Z, Z, Z, Z, Z, Z, Z, Z, Z, Z, Z, Z, Z, Z, Z, Z, Z, Z, Z, Z, Z, Z, Z, Z, Z, Z, Z, Z, Z, Z, Z, Z]) hop rfl (by decide) rfl (fun u' => run_assign rfl) (fun u' => evs_assign) (by kernel_rfl) ?_
 clear hop
 refine MGo.ctl (fun _ => stepG_region_end) rfl rfl ?_
 refine MGo.ctl (fun _ => stepG_seq) rfl rfl ?_
 refine MGo.ctl (fun _ => stepG_region) rfl rfl ?_
 rw [show List.range (opsAt Try.f105 3).size = [0, 1, 2, 3, 4, 5, 6, 7] from by kernel_rfl]
 obtain ⟨_, _, _, hop⟩ := op30_3_0
 refine MGo.pureT (d := 26) (v := .int .i64 lf) (T := #[ii L, ii H, holdsV o l, Z, Z, Z, ii 0, ii 0, ii st, ii lf, ii rt, Z, Z, Z, Z, ii H, ii L, ii (H - L), ii (H - L + 1), ii st, ii L, ii st, ii lf, ii H, ii st, ii rt, ii lf, Z, Z, Z, Z, Z, Z, Z, Z, Z, Z, Z, Z, Z, Z, Z, Z, Z, Z, Z, Z, Z, Z, Z, Z, Z, Z, Z, Z, Z, Z, Z, Z, Z, Z]) hop rfl (by decide) rfl (fun u' => run_move rfl) (fun u' => evs_move) (by kernel_rfl) ?_
 clear hop
 obtain ⟨_, _, _, hop⟩ := op30_3_1
 refine MGo.pureT (d := 27) (v := holdsV o l) (T := #[ii L, ii H, holdsV o l, Z, Z, Z, ii 0, ii 0, ii st, ii lf, ii rt, Z, Z, Z, Z, ii H, ii L, ii (H - L), ii (H - L + 1), ii st, ii L, ii st, ii lf, ii H, ii st, ii rt, ii lf, holdsV o l, Z, Z, Z, Z, Z, Z, Z, Z, Z, Z, Z, Z, Z, Z, Z, Z, Z, Z, Z, Z, Z, Z, Z, Z, Z, Z, Z, Z, Z, Z, Z, Z, Z]) hop rfl (by decide) rfl (fun u' => run_move rfl) (fun u' => evs_move) (by kernel_rfl) ?_
 clear hop
 obtain ⟨_, _, _, hop⟩ := op30_3_2
 refine MGo.enter hop rfl (by decide) (fun u' => run_call40 rfl rfl rfl) (fun u' => evs_call40 rfl rfl rfl) ?_
 clear hop
 exact h
set_option maxRecDepth 4000 in
theorem nar_b {L H st lf rt : Int} {c : Nat} (h : MGo Try.prog rd Stop m own (G (Frame.enter Try.prog 133 #[.int .i64 rt, holdsV o l] .normal) ((NB Try.f105 L H st lf rt o l c) :: cs)) u) : MGo Try.prog rd Stop (m + 3) own (G (Frame.finish (NA Try.f105 L H st lf rt o l) (.chan (some c))) cs) u := by
 obtain ⟨_, _, _, hop⟩ := op30_3_2
 refine MGo.endT (T := #[ii L, ii H, holdsV o l, Z, Z, Z, ii 0, ii 0, ii st, ii lf, ii rt, Z, Z, Z, Z, ii H, ii L, ii (H - L), ii (H - L + 1), ii st, ii L, ii st, ii lf, ii H, ii st, ii rt, ii lf, holdsV o l, cc c, Z, Z, Z, Z, Z, Z, Z, Z, Z, Z, Z, Z, Z, Z, Z, Z, Z, Z, Z, Z, Z, Z, Z, Z, Z, Z, Z, Z, Z, Z, Z, Z]) hop rfl (by kernel_rfl) ?_
 clear hop
 skip
 obtain ⟨_, _, _, hop⟩ := op30_3_3
 refine MGo.pureT (d := 29) (v := .int .i64 rt) (T := #[ii L, ii H, holdsV o l, Z, Z, Z, ii 0, ii 0, ii st, ii lf, ii rt, Z, Z, Z, Z, ii H, ii L, ii (H - L), ii (H - L + 1), ii st, ii L, ii st, ii lf, ii H, ii st, ii rt, ii lf, holdsV o l, cc c, ii rt, Z, Z, Z, Z, Z, Z, Z, Z, Z, Z, Z, Z, Z, Z, Z, Z, Z, Z, Z, Z, Z, Z, Z, Z, Z, Z, Z, Z, Z, Z, Z]) hop rfl (by decide) rfl (fun u' => run_move rfl) (fun u' => evs_move) (by kernel_rfl) ?_
 clear hop
 obtain ⟨_, _, _, hop⟩ := op30_3_4
 refine MGo.pureT (d := 30) (v := holdsV o l) (T := #[ii L, ii H, holdsV o l, Z, Z, Z, ii 0, ii 0, ii st, ii lf, ii rt, Z, Z, Z, Z, ii H, ii L, ii (H - L), ii (H - L + 1), ii st, ii L, ii st, ii lf, ii H, ii st, ii rt, ii lf, holdsV o l, cc c, ii rt, holdsV o l, Z, Z, Z, Z, Z, Z, Z, Z, Z, Z, Z, Z, Z, Z, Z, Z, Z, Z, Z, Z, Z, Z, Z, Z, Z, Z, Z, Z, Z, Z]) hop rfl (by decide) rfl (fun u' => run_move rfl) (fun u' => evs_move) (by kernel_rfl) ?_
 clear hop
 obtain ⟨_, _, _, hop⟩ := op30_3_5
 refine MGo.enter hop rfl (by decide) (fun u' => run_call40 rfl rfl rfl) (fun u' => evs_call40 rfl rfl rfl) ?_
 clear hop
 exact h
set_option maxRecDepth 4000 in
theorem nar_c {L H st lf rt : Int} {c e : Nat} (h : MGo Try.prog rd Stop m own (G (S0 Try.f105 L H st lf rt o l c e) cs) u) : MGo Try.prog rd Stop (m + 29) own (G (Frame.finish (NB Try.f105 L H st lf rt o l c) (.chan (some e))) cs) u := by
 obtain ⟨_, _, _, hop⟩ := op30_3_5
 refine MGo.endT (T := #[ii L, ii H, holdsV o l, Z, Z, Z, ii 0, ii 0, ii st, ii lf, ii rt, Z, Z, Z, Z, ii H, ii L, ii (H - L), ii (H - L + 1), ii st, ii L, ii st, ii lf, ii H, ii st, ii rt, ii lf, holdsV o l, cc c, ii rt, holdsV o l, cc e, Z, Z, Z, Z, Z, Z, Z, Z, Z, Z, Z, Z, Z, Z, Z, Z, Z, Z, Z, Z, Z, Z, Z, Z, Z, Z, Z, Z, Z]) hop rfl (by kernel_rfl) ?_
 clear hop
 skip
 obtain ⟨_, _, _, hop⟩ := op30_3_6
 refine MGo.pureT (d := 11) (v := .chan (some c)) (T := #[ii L, ii H, holdsV o l, Z, Z, Z, ii 0, ii 0, ii st, ii lf, ii rt, cc c, Z, Z, Z, ii H, ii L, ii (H - L), ii (H - L + 1), ii st, ii L, ii st, ii lf, ii H, ii st, ii rt, ii lf, holdsV o l, cc c, ii rt, holdsV o l, cc e, Z, Z, Z, Z, Z, Z, Z, Z, Z, Z, Z, Z, Z, Z, Z, Z, Z, Z, Z, Z, Z, Z, Z, Z, Z, Z, Z, Z, Z]) hop rfl (by decide) rfl (fun u' => run_assign rfl) (fun u' => evs_assign) (by kernel_rfl) ?_
 clear hop
 obtain ⟨_, _, _, hop⟩ := op30_3_7
 refine MGo.pureT (d := 12) (v := .chan (some e)) (T := #[ii L, ii H, holdsV o l, Z, Z, Z, ii 0, ii 0, ii st, ii lf, ii rt, cc c, cc e, Z, Z, ii H, ii L, ii (H - L), ii (H - L + 1), ii st, ii L, ii st, ii lf, ii H, ii st, ii rt, ii lf, holdsV o l, cc c, ii rt, holdsV o l, cc e, Z, Z, Z, Z, Z, Z, Z, Z, Z, Z, Z, Z, Z, Z, Z, Z, Z, Z, Z, Z, Z, Z, Z, Z, Z, Z, Z, Z, Z]) hop rfl (by decide) rfl (fun u' => run_assign rfl) (fun u' => evs_assign) (by kernel_rfl) ?_
 clear hop
 refine MGo.ctl (fun _ => stepG_region_end) rfl rfl ?_
 refine MGo.ctl (fun _ => stepG_seq) rfl rfl ?_
 refine MGo.ctl (fun _ => stepG_seq) rfl rfl ?_
 refine MGo.ctl (fun _ => stepG_region) rfl rfl ?_
 rw [show List.range (opsAt Try.f105 4).size = [0] from by kernel_rfl]
 obtain ⟨_, _, _, hop⟩ := op30_4_0
 refine MGo.pureT (d := 32) (v := .int .i64 0) (T := #[ii L, ii H, holdsV o l, Z, Z, Z, ii 0, ii 0, ii st, ii lf, ii rt, cc c, cc e, Z, Z, ii H, ii L, ii (H - L), ii (H - L + 1), ii st, ii L, ii st, ii lf, ii H, ii st, ii rt, ii lf, holdsV o l, cc c, ii rt, holdsV o l, cc e, ii 0, Z, Z, Z, Z, Z, Z, Z, Z, Z, Z, Z, Z, Z, Z, Z, Z, Z, Z, Z, Z, Z, Z, Z, Z, Z, Z, Z, Z]) hop rfl (by decide) rfl (fun u' => run_move rfl) (fun u' => evs_move) (by kernel_rfl) ?_
 clear hop
 refine MGo.ctl (fun _ => stepG_region_end) rfl rfl ?_
 refine MGo.ctl (fun _ => stepG_block) rfl rfl ?_
 refine MGo.ctl (fun _ => stepG_loop) rfl rfl ?_
 refine MGo.ctl (fun _ => stepG_seq) rfl rfl ?_
 refine MGo.ctl (fun _ => stepG_region) rfl rfl ?_
 rw [show List.range (opsAt Try.f105 5).size = [0] from by kernel_rfl]
 obtain ⟨_, _, _, hop⟩ := op30_5_0
 refine MGo.pureT (d := 33) (v := .bool true) (T := #[ii L, ii H, holdsV o l, Z, Z, Z, ii 0, ii 0, ii st, ii lf, ii rt, cc c, cc e, Z, Z, ii H, ii L, ii (H - L), ii (H - L + 1), ii st, ii L, ii st, ii lf, ii H, ii st, ii rt, ii lf, holdsV o l, cc c, ii rt, holdsV o l, cc e, ii 0, bb true, Z, Z, Z, Z, Z, Z, Z, Z, Z, Z, Z, Z, Z, Z, Z, Z, Z, Z, Z, Z, Z, Z, Z, Z, Z, Z, Z]) hop rfl (by decide) rfl (fun u' => run_lss rfl rfl (by decide)) (fun u' => evs_bin3 rfl rfl (.inr (.inl rfl))) (by kernel_rfl) ?_
 clear hop
 refine MGo.ctl (fun _ => stepG_region_end) rfl rfl ?_
 refine MGo.ctl (fun _ => stepG_seq) rfl rfl ?_
 refine MGo.ctl (fun _ => stepG_cond (t := true) rfl) rfl rfl ?_
 refine MGo.ctl (fun _ => stepG_skip) rfl rfl ?_
 refine MGo.ctl (fun _ => stepG_seq) rfl rfl ?_
 refine MGo.ctl (fun _ => stepG_block) rfl rfl ?_
 refine MGo.ctl (fun _ => stepG_seq) rfl rfl ?_
 refine MGo.ctl (fun _ => stepG_seq) rfl rfl ?_
 refine MGo.ctl (fun _ => stepG_region) rfl rfl ?_
 rw [show List.range (opsAt Try.f105 6).size = [0] from by kernel_rfl]
 obtain ⟨_, _, _, hop⟩ := op30_6_0
 refine MGo.pureT (d := 34) (v := .chan (some c)) (T := #[ii L, ii H, holdsV o l, Z, Z, Z, ii 0, ii 0, ii st, ii lf, ii rt, cc c, cc e, Z, Z, ii H, ii L, ii (H - L), ii (H - L + 1), ii st, ii L, ii st, ii lf, ii H, ii st, ii rt, ii lf, holdsV o l, cc c, ii rt, holdsV o l, cc e, ii 0, bb true, cc c, Z, Z, Z, Z, Z, Z, Z, Z, Z, Z, Z, Z, Z, Z, Z, Z, Z, Z, Z, Z, Z, Z, Z, Z, Z, Z]) hop rfl (by decide) rfl (fun u' => run_move rfl) (fun u' => evs_move) (by kernel_rfl) ?_
 clear hop
 refine MGo.ctl (fun _ => stepG_region_end) rfl rfl ?_
 refine MGo.ctl (fun _ => stepG_region) rfl rfl ?_
 rw [show List.range (opsAt Try.f105 7).size = [0] from by kernel_rfl]
 obtain ⟨_, _, _, hop⟩ := op30_7_0
 refine MGo.pureT (d := 35) (v := .chan (some e)) (T := #[ii L, ii H, holdsV o l, Z, Z, Z, ii 0, ii 0, ii st, ii lf, ii rt, cc c, cc e, Z, Z, ii H, ii L, ii (H - L), ii (H - L + 1), ii st, ii L, ii st, ii lf, ii H, ii st, ii rt, ii lf, holdsV o l, cc c, ii rt, holdsV o l, cc e, ii 0, bb true, cc c, cc e, Z, Z, Z, Z, Z, Z, Z, Z, Z, Z, Z, Z, Z, Z, Z, Z, Z, Z, Z, Z, Z, Z, Z, Z, Z]) hop rfl (by decide) rfl (fun u' => run_move rfl) (fun u' => evs_move) (by kernel_rfl) ?_
 clear hop
 refine MGo.ctl (fun _ => stepG_region_end) rfl rfl ?_
 refine MGo.ctl (fun _ => stepG_seq) rfl rfl ?_
 refine MGo.ctl (fun _ => stepG_region) rfl rfl ?_
 rw [show List.range (opsAt Try.f105 8).size = [0, 1, 2, 3] from by kernel_rfl]
 exact h
set_option maxRecDepth 4000 in
theorem nar_sel0 {L H L1 H1 st lf rt : Int} {c e : Nat} {y : Bool} : stepG Try.prog true (G (S0 Try.f105 L H st lf rt o l c e) cs) u = .comm (G (S0 Try.f105 L H st lf rt o l c e) cs) #[rcase c (.bool false), rcase e (.bool false)] true .select u #[] := by
 obtain ⟨_, _, _, hop⟩ := op30_8_0
 rw [stepG_comm hop rfl (by decide) (run_select rfl rfl), listed_none (evs_select rfl rfl)]
set_option maxRecDepth 4000 in
theorem nar_d0 {L H st lf rt : Int} {c e : Nat} {y : Bool} (h : MGo Try.prog rd Stop m own (G (Frame.enter Try.prog 134 #[.int .i64 L, .int .i64 H, .int .i64 lf, .bool y] .normal) ((M0 Try.f105 L H st lf rt o l c e y) :: cs)) u) : MGo Try.prog rd Stop (m + 17) own (G (Frame.finish (S0 Try.f105 L H st lf rt o l c e) (.tuple #[.int .i64 0, .bool true, .bool y, .bool false])) cs) u := by
 obtain ⟨_, _, _, hop⟩ := op30_8_0
 refine MGo.endT (T := #[ii L, ii H, holdsV o l, Z, Z, Z, ii 0, ii 0, ii st, ii lf, ii rt, cc c, cc e, Z, Z, ii H, ii L, ii (H - L), ii (H - L + 1), ii st, ii L, ii st, ii lf, ii H, ii st, ii rt, ii lf, holdsV o l, cc c, ii rt, holdsV o l, cc e, ii 0, bb true, cc c, cc e, .tuple #[ii 0, bb true, bb y, bb false], Z, Z, Z, Z, Z, Z, Z, Z, Z, Z, Z, Z, Z, Z, Z, Z, Z, Z, Z, Z, Z, Z, Z, Z]) hop rfl (by kernel_rfl) ?_
 clear hop
 skip
 obtain ⟨_, _, _, hop⟩ := op30_8_1
 refine MGo.pureT (d := 37) (v := .int .i64 0) (T := #[ii L, ii H, holdsV o l, Z, Z, Z, ii 0, ii 0, ii st, ii lf, ii rt, cc c, cc e, Z, Z, ii H, ii L, ii (H - L), ii (H - L + 1), ii st, ii L, ii st, ii lf, ii H, ii st, ii rt, ii lf, holdsV o l, cc c, ii rt, holdsV o l, cc e, ii 0, bb true, cc c, cc e, .tuple #[ii 0, bb true, bb y, bb false], ii 0, Z, Z, Z, Z, Z, Z, Z, Z, Z, Z, Z, Z, Z, Z, Z, Z, Z, Z, Z, Z, Z, Z, Z]) hop rfl (by decide) rfl (fun u' => run_extract rfl rfl) (fun u' => evs_extract rfl rfl) (by kernel_rfl) ?_
 clear hop
 obtain ⟨_, _, _, hop⟩ := op30_8_2
 refine MGo.pureT (d := 38) (v := .bool true) (T := #[ii L, ii H, holdsV o l, Z, Z, Z, ii 0, ii 0, ii st, ii lf, ii rt, cc c, cc e, Z, Z, ii H, ii L, ii (H - L), ii (H - L + 1), ii st, ii L, ii st, ii lf, ii H, ii st, ii rt, ii lf, holdsV o l, cc c, ii rt, holdsV o l, cc e, ii 0, bb true, cc c, cc e, .tuple #[ii 0, bb true, bb y, bb false], ii 0, bb true, Z, Z, Z, Z, Z, Z, Z, Z, Z, Z, Z, Z, Z, Z, Z, Z, Z, Z, Z, Z, Z, Z]) hop rfl (by decide) rfl (fun u' => run_eql3 rfl rfl (by decide)) (fun u' => evs_bin3 rfl rfl (.inr (.inr rfl))) (by kernel_rfl) ?_
 clear hop
 obtain ⟨_, _, _, hop⟩ := op30_8_3
 refine MGo.pureT (d := 39) (v := .bool false) (T := #[ii L, ii H, holdsV o l, Z, Z, Z, ii 0, ii 0, ii st, ii lf, ii rt, cc c, cc e, Z, Z, ii H, ii L, ii (H - L), ii (H - L + 1), ii st, ii L, ii st, ii lf, ii H, ii st, ii rt, ii lf, holdsV o l, cc c, ii rt, holdsV o l, cc e, ii 0, bb true, cc c, cc e, .tuple #[ii 0, bb true, bb y, bb false], ii 0, bb true, bb false, Z, Z, Z, Z, Z, Z, Z, Z, Z, Z, Z, Z, Z, Z, Z, Z, Z, Z, Z, Z, Z]) hop rfl (by decide) rfl (fun u' => run_eql3 rfl rfl (by decide)) (fun u' => evs_bin3 rfl rfl (.inr (.inr rfl))) (by kernel_rfl) ?_
 clear hop
 refine MGo.ctl (fun _ => stepG_region_end) rfl rfl ?_
 refine MGo.ctl (fun _ => stepG_block) rfl rfl ?_
 refine MGo.ctl (fun _ => stepG_cond (t := true) rfl) rfl rfl ?_
 refine MGo.ctl (fun _ => stepG_seq) rfl rfl ?_
 refine MGo.ctl (fun _ => stepG_region) rfl rfl ?_
 rw [show List.range (opsAt Try.f105 9).size = [0, 1] from by kernel_rfl]
 obtain ⟨_, _, _, hop⟩ := op30_9_0
 refine MGo.pureT (d := 40) (v := .bool y) (T := #[ii L, ii H, holdsV o l, Z, Z, Z, ii 0, ii 0, ii st, ii lf, ii rt, cc c, cc e, Z, Z, ii H, ii L, ii (H - L), ii (H - L + 1), ii st, ii L, ii st, ii lf, ii H, ii st, ii rt, ii lf, holdsV o l, cc c, ii rt, holdsV o l, cc e, ii 0, bb true, cc c, cc e, .tuple #[ii 0, bb true, bb y, bb false], ii 0, bb true, bb false, bb y, Z, Z, Z, Z, Z, Z, Z, Z, Z, Z, Z, Z, Z, Z, Z, Z, Z, Z, Z, Z]) hop rfl (by decide) rfl (fun u' => run_extract rfl rfl) (fun u' => evs_extract rfl rfl) (by kernel_rfl) ?_
 clear hop
 obtain ⟨_, _, _, hop⟩ := op30_9_1
 refine MGo.pureT (d := 13) (v := .bool y) (T := #[ii L, ii H, holdsV o l, Z, Z, Z, ii 0, ii 0, ii st, ii lf, ii rt, cc c, cc e, bb y, Z, ii H, ii L, ii (H - L), ii (H - L + 1), ii st, ii L, ii st, ii lf, ii H, ii st, ii rt, ii lf, holdsV o l, cc c, ii rt, holdsV o l, cc e, ii 0, bb true, cc c, cc e, .tuple #[ii 0, bb true, bb y, bb false], ii 0, bb true, bb false, bb y, Z, Z, Z, Z, Z, Z, Z, Z, Z, Z, Z, Z, Z, Z, Z, Z, Z, Z, Z, Z]) hop rfl (by decide) rfl (fun u' => run_assign rfl) (fun u' => evs_assign) (by kernel_rfl) ?_
 clear hop
 refine MGo.ctl (fun _ => stepG_region_end) rfl rfl ?_
 refine MGo.ctl (fun _ => stepG_region) rfl rfl ?_
 rw [show List.range (opsAt Try.f105 10).size = [0, 1, 2, 3, 4, 5, 6, 7, 8, 9] from by kernel_rfl]
 obtain ⟨_, _, _, hop⟩ := op30_10_0
 refine MGo.pureT (d := 42) (v := .int .i64 L) (T := #[ii L, ii H, holdsV o l, Z, Z, Z, ii 0, ii 0, ii st, ii lf, ii rt, cc c, cc e, bb y, Z, ii H, ii L, ii (H - L), ii (H - L + 1), ii st, ii L, ii st, ii lf, ii H, ii st, ii rt, ii lf, holdsV o l, cc c, ii rt, holdsV o l, cc e, ii 0, bb true, cc c, cc e, .tuple #[ii 0, bb true, bb y, bb false], ii 0, bb true, bb false, bb y, Z, ii L, Z, Z, Z, Z, Z, Z, Z, Z, Z, Z, Z, Z, Z, Z, Z, Z, Z, Z]) hop rfl (by decide) rfl (fun u' => run_move rfl) (fun u' => evs_move) (by kernel_rfl) ?_
 clear hop
 obtain ⟨_, _, _, hop⟩ := op30_10_1
 refine MGo.pureT (d := 43) (v := .int .i64 H) (T := #[ii L, ii H, holdsV o l, Z, Z, Z, ii 0, ii 0, ii st, ii lf, ii rt, cc c, cc e, bb y, Z, ii H, ii L, ii (H - L), ii (H - L + 1), ii st, ii L, ii st, ii lf, ii H, ii st, ii rt, ii lf, holdsV o l, cc c, ii rt, holdsV o l, cc e, ii 0, bb true, cc c, cc e, .tuple #[ii 0, bb true, bb y, bb false], ii 0, bb true, bb false, bb y, Z, ii L, ii H, Z, Z, Z, Z, Z, Z, Z, Z, Z, Z, Z, Z, Z, Z, Z, Z, Z]) hop rfl (by decide) rfl (fun u' => run_move rfl) (fun u' => evs_move) (by kernel_rfl) ?_
 clear hop
 obtain ⟨_, _, _, hop⟩ := op30_10_2
 refine MGo.pureT (d := 44) (v := .int .i64 lf) (T := #[ii L, ii H, holdsV o l, Z, Z, Z, ii 0, ii 0, ii st, ii lf, ii rt, cc c, cc e, bb y, Z, ii H, ii L, ii (H - L), ii (H - L + 1), ii st, ii L, ii st, ii lf, ii H, ii st, ii rt, ii lf, holdsV o l, cc c, ii rt, holdsV o l, cc e, ii 0, bb true, cc c, cc e, .tuple #[ii 0, bb true, bb y, bb false], ii 0, bb true, bb false, bb y, Z, ii L, ii H, ii lf, Z, Z, Z, Z, Z, Z, Z, Z, Z, Z, Z, Z, Z, Z, Z, Z]) hop rfl (by decide) rfl (fun u' => run_move rfl) (fun u' => evs_move) (by kernel_rfl) ?_
 clear hop
 obtain ⟨_, _, _, hop⟩ := op30_10_3
 refine MGo.pureT (d := 45) (v := .bool y) (T := #[ii L, ii H, holdsV o l, Z, Z, Z, ii 0, ii 0, ii st, ii lf, ii rt, cc c, cc e, bb y, Z, ii H, ii L, ii (H - L), ii (H - L + 1), ii st, ii L, ii st, ii lf, ii H, ii st, ii rt, ii lf, holdsV o l, cc c, ii rt, holdsV o l, cc e, ii 0, bb true, cc c, cc e, .tuple #[ii 0, bb true, bb y, bb false], ii 0, bb true, bb false, bb y, Z, ii L, ii H, ii lf, bb y, Z, Z, Z, Z, Z, Z, Z, Z, Z, Z, Z, Z, Z, Z, Z]) hop rfl (by decide) rfl (fun u' => run_move rfl) (fun u' => evs_move) (by kernel_rfl) ?_
 clear hop
 obtain ⟨_, _, _, hop⟩ := op30_10_4
 refine MGo.enter hop rfl (by decide) (fun u' => run_call41 rfl rfl rfl rfl rfl) (fun u' => evs_call41 rfl rfl rfl rfl rfl) ?_
 clear hop
 exact h
set_option maxRecDepth 4000 in
theorem nar_f0 {L H L1 H1 st lf rt : Int} {c e : Nat} {y : Bool} (h : MGo Try.prog rd Stop m own (G (S10 Try.f105 L H L1 H1 st lf rt o l c e y) cs) u) : MGo Try.prog rd Stop (m + 32) own (G (Frame.finish (M0 Try.f105 L H st lf rt o l c e y) (.tuple #[.int .i64 L1, .int .i64 H1])) cs) u := by
 obtain ⟨_, _, _, hop⟩ := op30_10_4
 refine MGo.endT (T := #[ii L, ii H, holdsV o l, Z, Z, Z, ii 0, ii 0, ii st, ii lf, ii rt, cc c, cc e, bb y, Z, ii H, ii L, ii (H - L), ii (H - L + 1), ii st, ii L, ii st, ii lf, ii H, ii st, ii rt, ii lf, holdsV o l, cc c, ii rt, holdsV o l, cc e, ii 0, bb true, cc c, cc e, .tuple #[ii 0, bb true, bb y, bb false], ii 0, bb true, bb false, bb y, Z, ii L, ii H, ii lf, bb y, tt L1 H1, Z, Z, Z, Z, Z, Z, Z, Z, Z, Z, Z, Z, Z, Z]) hop rfl (by kernel_rfl) ?_
 clear hop
 skip
 obtain ⟨_, _, _, hop⟩ := op30_10_5
 refine MGo.pureT (d := 41) (v := .tuple #[.int .i64 L1, .int .i64 H1]) (T := #[ii L, ii H, holdsV o l, Z, Z, Z, ii 0, ii 0, ii st, ii lf, ii rt, cc c, cc e, bb y, Z, ii H, ii L, ii (H - L), ii (H - L + 1), ii st, ii L, ii st, ii lf, ii H, ii st, ii rt, ii lf, holdsV o l, cc c, ii rt, holdsV o l, cc e, ii 0, bb true, cc c, cc e, .tuple #[ii 0, bb true, bb y, bb false], ii 0, bb true, bb false, bb y, tt L1 H1, ii L, ii H, ii lf, bb y, tt L1 H1, Z, Z, Z, Z, Z, Z, Z, Z, Z, Z, Z, Z, Z, Z]) hop rfl (by decide) rfl (fun u' => run_move rfl) (fun u' => evs_move) (by kernel_rfl) ?_
 clear hop
 obtain ⟨_, _, _, hop⟩ := op30_10_6
 refine MGo.pureT (d := 47) (v := .int .i64 L1) (T := #[ii L, ii H, holdsV o l, Z, Z, Z, ii 0, ii 0, ii st, ii lf, ii rt, cc c, cc e, bb y, Z, ii H, ii L, ii (H - L), ii (H - L + 1), ii st, ii L, ii st, ii lf, ii H, ii st, ii rt, ii lf, holdsV o l, cc c, ii rt, holdsV o l, cc e, ii 0, bb true, cc c, cc e, .tuple #[ii 0, bb true, bb y, bb false], ii 0, bb true, bb false, bb y, tt L1 H1, ii L, ii H, ii lf, bb y, tt L1 H1, ii L1, Z, Z, Z, Z, Z, Z, Z, Z, Z, Z, Z, Z, Z]) hop rfl (by decide) rfl (fun u' => run_extract rfl rfl) (fun u' => evs_extract rfl rfl) (by kernel_rfl) ?_
 clear hop
 obtain ⟨_, _, _, hop⟩ := op30_10_7
 refine MGo.pureT (d := 48) (v := .int .i64 H1) (T := #[ii L, ii H, holdsV o l, Z, Z, Z, ii 0, ii 0, ii st, ii lf, ii rt, cc c, cc e, bb y, Z, ii H, ii L, ii (H - L), ii (H - L + 1), ii st, ii L, ii st, ii lf, ii H, ii st, ii rt, ii lf, holdsV o l, cc c, ii rt, holdsV o l, cc e, ii 0, bb true, cc c, cc e, .tuple #[ii 0, bb true, bb y, bb false], ii 0, bb true, bb false, bb y, tt L1 H1, ii L, ii H, ii lf, bb y, tt L1 H1, ii L1, ii H1, Z, Z, Z, Z, Z, Z, Z, Z, Z, Z, Z, Z]) hop rfl (by decide) rfl (fun u' => run_extract rfl rfl) (fun u' => evs_extract rfl rfl) (by kernel_rfl) ?_
 clear hop
 obtain ⟨_, _, _, hop⟩ := op30_10_8
 refine MGo.pureT (d := 0) (v := .int .i64 L1) (T := #[ii L1, ii H, holdsV o l, Z, Z, Z, ii 0, ii 0, ii st, ii lf, ii rt, cc c, cc e, bb y, Z, ii H, ii L, ii (H - L), ii (H - L + 1), ii st, ii L, ii st, ii lf, ii H, ii st, ii rt, ii lf, holdsV o l, cc c, ii rt, holdsV o l, cc e, ii 0, bb true, cc c, cc e, .tuple #[ii 0, bb true, bb y, bb false], ii 0, bb true, bb false, bb y, tt L1 H1, ii L, ii H, ii lf, bb y, tt L1 H1, ii L1, ii H1, Z, Z, Z, Z, Z, Z, Z, Z, Z, Z, Z, Z]) hop rfl (by decide) rfl (fun u' => run_assign rfl) (fun u' => evs_assign) (by kernel_rfl) ?_
 clear hop
 obtain ⟨_, _, _, hop⟩ := op30_10_9
 refine MGo.pureT (d := 1) (v := .int .i64 H1) (T := #[ii L1, ii H1, holdsV o l, Z, Z, Z, ii 0, ii 0, ii st, ii lf, ii rt, cc c, cc e, bb y, Z, ii H, ii L, ii (H - L), ii (H - L + 1), ii st, ii L, ii st, ii lf, ii H, ii st, ii rt, ii lf, holdsV o l, cc c, ii rt, holdsV o l, cc e, ii 0, bb true, cc c, cc e, .tuple #[ii 0, bb true, bb y, bb false], ii 0, bb true, bb false, bb y, tt L1 H1, ii L, ii H, ii lf, bb y, tt L1 H1, ii L1, ii H1, Z, Z, Z, Z, Z, Z, Z, Z, Z, Z, Z, Z]) hop rfl (by decide) rfl (fun u' => run_assign rfl) (fun u' => evs_assign) (by kernel_rfl) ?_
 clear hop
 refine MGo.ctl (fun _ => stepG_region_end) rfl rfl ?_
 refine MGo.ctl (fun _ => stepG_inBlock) rfl rfl ?_
 refine MGo.ctl (fun _ => stepG_inBlock) rfl rfl ?_
 refine MGo.ctl (fun _ => stepG_region) rfl rfl ?_
 rw [show List.range (opsAt Try.f105 13).size = [0, 1] from by kernel_rfl]
 obtain ⟨_, _, _, hop⟩ := op30_13_0
 refine MGo.pureT (d := 58) (v := .int .i64 1) (T := #[ii L1, ii H1, holdsV o l, Z, Z, Z, ii 0, ii 0, ii st, ii lf, ii rt, cc c, cc e, bb y, Z, ii H, ii L, ii (H - L), ii (H - L + 1), ii st, ii L, ii st, ii lf, ii H, ii st, ii rt, ii lf, holdsV o l, cc c, ii rt, holdsV o l, cc e, ii 0, bb true, cc c, cc e, .tuple #[ii 0, bb true, bb y, bb false], ii 0, bb true, bb false, bb y, tt L1 H1, ii L, ii H, ii lf, bb y, tt L1 H1, ii L1, ii H1, Z, Z, Z, Z, Z, Z, Z, Z, Z, ii 1, Z, Z]) hop rfl (by decide) rfl (fun u' => run_add3 rfl rfl rfl ⟨by decide, by decide⟩) (fun u' => evs_bin3 rfl rfl (.inl rfl)) (by kernel_rfl) ?_
 clear hop
 obtain ⟨_, _, _, hop⟩ := op30_13_1
 refine MGo.pureT (d := 32) (v := .int .i64 1) (T := #[ii L1, ii H1, holdsV o l, Z, Z, Z, ii 0, ii 0, ii st, ii lf, ii rt, cc c, cc e, bb y, Z, ii H, ii L, ii (H - L), ii (H - L + 1), ii st, ii L, ii st, ii lf, ii H, ii st, ii rt, ii lf, holdsV o l, cc c, ii rt, holdsV o l, cc e, ii 1, bb true, cc c, cc e, .tuple #[ii 0, bb true, bb y, bb false], ii 0, bb true, bb false, bb y, tt L1 H1, ii L, ii H, ii lf, bb y, tt L1 H1, ii L1, ii H1, Z, Z, Z, Z, Z, Z, Z, Z, Z, ii 1, Z, Z]) hop rfl (by decide) rfl (fun u' => run_move rfl) (fun u' => evs_move) (by kernel_rfl) ?_
 clear hop
 refine MGo.ctl (fun _ => stepG_region_end) rfl rfl ?_
 refine MGo.ctl (fun _ => stepG_inLoop) rfl rfl ?_
 refine MGo.ctl (fun _ => stepG_seq) rfl rfl ?_
 refine MGo.ctl (fun _ => stepG_region) rfl rfl ?_
 rw [show List.range (opsAt Try.f105 5).size = [0] from by kernel_rfl]
 obtain ⟨_, _, _, hop⟩ := op30_5_0
 refine MGo.pureT (d := 33) (v := .bool true) (T := #[ii L1, ii H1, holdsV o l, Z, Z, Z, ii 0, ii 0, ii st, ii lf, ii rt, cc c, cc e, bb y, Z, ii H, ii L, ii (H - L), ii (H - L + 1), ii st, ii L, ii st, ii lf, ii H, ii st, ii rt, ii lf, holdsV o l, cc c, ii rt, holdsV o l, cc e, ii 1, bb true, cc c, cc e, .tuple #[ii 0, bb true, bb y, bb false], ii 0, bb true, bb false, bb y, tt L1 H1, ii L, ii H, ii lf, bb y, tt L1 H1, ii L1, ii H1, Z, Z, Z, Z, Z, Z, Z, Z, Z, ii 1, Z, Z]) hop rfl (by decide) rfl (fun u' => run_lss rfl rfl (by decide)) (fun u' => evs_bin3 rfl rfl (.inr (.inl rfl))) (by kernel_rfl) ?_
 clear hop
 refine MGo.ctl (fun _ => stepG_region_end) rfl rfl ?_
 refine MGo.ctl (fun _ => stepG_seq) rfl rfl ?_
 refine MGo.ctl (fun _ => stepG_cond (t := true) rfl) rfl rfl ?_
 refine MGo.ctl (fun _ => stepG_skip) rfl rfl ?_
 refine MGo.ctl (fun _ => stepG_seq) rfl rfl ?_
 refine MGo.ctl (fun _ => stepG_block) rfl rfl ?_
 refine MGo.ctl (fun _ => stepG_seq) rfl rfl ?_
 refine MGo.ctl (fun _ => stepG_seq) rfl rfl ?_
 refine MGo.ctl (fun _ => stepG_region) rfl rfl ?_
 rw [show List.range (opsAt Try.f105 6).size = [0] from by kernel_rfl]
 obtain ⟨_, _, _, hop⟩ := op30_6_0
 refine MGo.pureT (d := 34) (v := .chan (some c)) (T := #[ii L1, ii H1, holdsV o l, Z, Z, Z, ii 0, ii 0, ii st, ii lf, ii rt, cc c, cc e, bb y, Z, ii H, ii L, ii (H - L), ii (H - L + 1), ii st, ii L, ii st, ii lf, ii H, ii st, ii rt, ii lf, holdsV o l, cc c, ii rt, holdsV o l, cc e, ii 1, bb true, cc c, cc e, .tuple #[ii 0, bb true, bb y, bb false], ii 0, bb true, bb false, bb y, tt L1 H1, ii L, ii H, ii lf, bb y, tt L1 H1, ii L1, ii H1, Z, Z, Z, Z, Z, Z, Z, Z, Z, ii 1, Z, Z]) hop rfl (by decide) rfl (fun u' => run_move rfl) (fun u' => evs_move) (by kernel_rfl) ?_
 clear hop
 refine MGo.ctl (fun _ => stepG_region_end) rfl rfl ?_
 refine MGo.ctl (fun _ => stepG_region) rfl rfl ?_
 rw [show List.range (opsAt Try.f105 7).size = [0] from by kernel_rfl]
 obtain ⟨_, _, _, hop⟩ := op30_7_0
 refine MGo.pureT (d := 35) (v := .chan (some e)) (T := #[ii L1, ii H1, holdsV o l, Z, Z, Z, ii 0, ii 0, ii st, ii lf, ii rt, cc c, cc e, bb y, Z, ii H, ii L, ii (H - L), ii (H - L + 1), ii st, ii L, ii st, ii lf, ii H, ii st, ii rt, ii lf, holdsV o l, cc c, ii rt, holdsV o l, cc e, ii 1, bb true, cc c, cc e, .tuple #[ii 0, bb true, bb y, bb false], ii 0, bb true, bb false, bb y, tt L1 H1, ii L, ii H, ii lf, bb y, tt L1 H1, ii L1, ii H1, Z, Z, Z, Z, Z, Z, Z, Z, Z, ii 1, Z, Z]) hop rfl (by decide) rfl (fun u' => run_move rfl) (fun u' => evs_move) (by kernel_rfl) ?_
 clear hop
 refine MGo.ctl (fun _ => stepG_region_end) rfl rfl ?_
 refine MGo.ctl (fun _ => stepG_seq) rfl rfl ?_
 refine MGo.ctl (fun _ => stepG_region) rfl rfl ?_
 rw [show List.range (opsAt Try.f105 8).size = [0, 1, 2, 3] from by kernel_rfl]
 exact h
set_option maxRecDepth 4000 in
theorem nar_sel10 {L H L1 H1 st lf rt : Int} {c e : Nat} {y : Bool} : stepG Try.prog true (G (S10 Try.f105 L H L1 H1 st lf rt o l c e y) cs) u = .comm (G (S10 Try.f105 L H L1 H1 st lf rt o l c e y) cs) #[rcase c (.bool false), rcase e (.bool false)] true .select u #[] := by
 obtain ⟨_, _, _, hop⟩ := op30_8_0
 rw [stepG_comm hop rfl (by decide) (run_select rfl rfl), listed_none (evs_select rfl rfl)]
set_option maxRecDepth 4000 in
theorem nar_g0 {L H L1 H1 st lf rt : Int} {c e : Nat} {y z : Bool} (h : MGo Try.prog rd Stop m own (G (Frame.enter Try.prog 134 #[.int .i64 L1, .int .i64 H1, .int .i64 rt, .bool z] .normal) ((K0 Try.f105 L H L1 H1 st lf rt o l c e y z) :: cs)) u) : MGo Try.prog rd Stop (m + 18) own (G (Frame.finish (S10 Try.f105 L H L1 H1 st lf rt o l c e y) (.tuple #[.int .i64 1, .bool true, .bool false, .bool z])) cs) u := by
 obtain ⟨_, _, _, hop⟩ := op30_8_0
 refine MGo.endT (T := #[ii L1, ii H1, holdsV o l, Z, Z, Z, ii 0, ii 0, ii st, ii lf, ii rt, cc c, cc e, bb y, Z, ii H, ii L, ii (H - L), ii (H - L + 1), ii st, ii L, ii st, ii lf, ii H, ii st, ii rt, ii lf, holdsV o l, cc c, ii rt, holdsV o l, cc e, ii 1, bb true, cc c, cc e, .tuple #[ii 1, bb true, bb false, bb z], ii 0, bb true, bb false, bb y, tt L1 H1, ii L, ii H, ii lf, bb y, tt L1 H1, ii L1, ii H1, Z, Z, Z, Z, Z, Z, Z, Z, Z, ii 1, Z, Z]) hop rfl (by kernel_rfl) ?_
 clear hop
 skip
 obtain ⟨_, _, _, hop⟩ := op30_8_1
 refine MGo.pureT (d := 37) (v := .int .i64 1) (T := #[ii L1, ii H1, holdsV o l, Z, Z, Z, ii 0, ii 0, ii st, ii lf, ii rt, cc c, cc e, bb y, Z, ii H, ii L, ii (H - L), ii (H - L + 1), ii st, ii L, ii st, ii lf, ii H, ii st, ii rt, ii lf, holdsV o l, cc c, ii rt, holdsV o l, cc e, ii 1, bb true, cc c, cc e, .tuple #[ii 1, bb true, bb false, bb z], ii 1, bb true, bb false, bb y, tt L1 H1, ii L, ii H, ii lf, bb y, tt L1 H1, ii L1, ii H1, Z, Z, Z, Z, Z, Z, Z, Z, Z, ii 1, Z, Z]) hop rfl (by decide) rfl (fun u' => run_extract rfl rfl) (fun u' => evs_extract rfl rfl) (by kernel_rfl) ?_
 clear hop
 obtain ⟨_, _, _, hop⟩ := op30_8_2
 refine MGo.pureT (d := 38) (v := .bool false) (T := #[ii L1, ii H1, holdsV o l, Z, Z, Z, ii 0, ii 0, ii st, ii lf, ii rt, cc c, cc e, bb y, Z, ii H, ii L, ii (H - L), ii (H - L + 1), ii st, ii L, ii st, ii lf, ii H, ii st, ii rt, ii lf, holdsV o l, cc c, ii rt, holdsV o l, cc e, ii 1, bb true, cc c, cc e, .tuple #[ii 1, bb true, bb false, bb z], ii 1, bb false, bb false, bb y, tt L1 H1, ii L, ii H, ii lf, bb y, tt L1 H1, ii L1, ii H1, Z, Z, Z, Z, Z, Z, Z, Z, Z, ii 1, Z, Z]) hop rfl (by decide) rfl (fun u' => run_eql3 rfl rfl (by decide)) (fun u' => evs_bin3 rfl rfl (.inr (.inr rfl))) (by kernel_rfl) ?_
 clear hop
 obtain ⟨_, _, _, hop⟩ := op30_8_3
 refine MGo.pureT (d := 39) (v := .bool true) (T := #[ii L1, ii H1, holdsV o l, Z, Z, Z, ii 0, ii 0, ii st, ii lf, ii rt, cc c, cc e, bb y, Z, ii H, ii L, ii (H - L), ii (H - L + 1), ii st, ii L, ii st, ii lf, ii H, ii st, ii rt, ii lf, holdsV o l, cc c, ii rt, holdsV o l, cc e, ii 1, bb true, cc c, cc e, .tuple #[ii 1, bb true, bb false, bb z], ii 1, bb false, bb true, bb y, tt L1 H1, ii L, ii H, ii lf, bb y, tt L1 H1, ii L1, ii H1, Z, Z, Z, Z, Z, Z, Z, Z, Z, ii 1, Z, Z]) hop rfl (by decide) rfl (fun u' => run_eql3 rfl rfl (by decide)) (fun u' => evs_bin3 rfl rfl (.inr (.inr rfl))) (by kernel_rfl) ?_
 clear hop
 refine MGo.ctl (fun _ => stepG_region_end) rfl rfl ?_
 refine MGo.ctl (fun _ => stepG_block) rfl rfl ?_
 refine MGo.ctl (fun _ => stepG_cond (t := false) rfl) rfl rfl ?_
 refine MGo.ctl (fun _ => stepG_cond (t := true) rfl) rfl rfl ?_
 refine MGo.ctl (fun _ => stepG_seq) rfl rfl ?_
 refine MGo.ctl (fun _ => stepG_region) rfl rfl ?_
 rw [show List.range (opsAt Try.f105 11).size = [0, 1] from by kernel_rfl]
 obtain ⟨_, _, _, hop⟩ := op30_11_0
 refine MGo.pureT (d := 49) (v := .bool z) (T := #[ii L1, ii H1, holdsV o l, Z, Z, Z, ii 0, ii 0, ii st, ii lf, ii rt, cc c, cc e, bb y, Z, ii H, ii L, ii (H - L), ii (H - L + 1), ii st, ii L, ii st, ii lf, ii H, ii st, ii rt, ii lf, holdsV o l, cc c, ii rt, holdsV o l, cc e, ii 1, bb true, cc c, cc e, .tuple #[ii 1, bb true, bb false, bb z], ii 1, bb false, bb true, bb y, tt L1 H1, ii L, ii H, ii lf, bb y, tt L1 H1, ii L1, ii H1, bb z, Z, Z, Z, Z, Z, Z, Z, Z, ii 1, Z, Z]) hop rfl (by decide) rfl (fun u' => run_extract rfl rfl) (fun u' => evs_extract rfl rfl) (by kernel_rfl) ?_
 clear hop
 obtain ⟨_, _, _, hop⟩ := op30_11_1
 refine MGo.pureT (d := 14) (v := .bool z) (T := #[ii L1, ii H1, holdsV o l, Z, Z, Z, ii 0, ii 0, ii st, ii lf, ii rt, cc c, cc e, bb y, bb z, ii H, ii L, ii (H - L), ii (H - L + 1), ii st, ii L, ii st, ii lf, ii H, ii st, ii rt, ii lf, holdsV o l, cc c, ii rt, holdsV o l, cc e, ii 1, bb true, cc c, cc e, .tuple #[ii 1, bb true, bb false, bb z], ii 1, bb false, bb true, bb y, tt L1 H1, ii L, ii H, ii lf, bb y, tt L1 H1, ii L1, ii H1, bb z, Z, Z, Z, Z, Z, Z, Z, Z, ii 1, Z, Z]) hop rfl (by decide) rfl (fun u' => run_assign rfl) (fun u' => evs_assign) (by kernel_rfl) ?_
 clear hop
 refine MGo.ctl (fun _ => stepG_region_end) rfl rfl ?_
 refine MGo.ctl (fun _ => stepG_region) rfl rfl ?_
 rw [show List.range (opsAt Try.f105 12).size = [0, 1, 2, 3, 4, 5, 6, 7, 8, 9] from by kernel_rfl]
 obtain ⟨_, _, _, hop⟩ := op30_12_0
 refine MGo.pureT (d := 51) (v := .int .i64 L1) (T := #[ii L1, ii H1, holdsV o l, Z, Z, Z, ii 0, ii 0, ii st, ii lf, ii rt, cc c, cc e, bb y, bb z, ii H, ii L, ii (H - L), ii (H - L + 1), ii st, ii L, ii st, ii lf, ii H, ii st, ii rt, ii lf, holdsV o l, cc c, ii rt, holdsV o l, cc e, ii 1, bb true, cc c, cc e, .tuple #[ii 1, bb true, bb false, bb z], ii 1, bb false, bb true, bb y, tt L1 H1, ii L, ii H, ii lf, bb y, tt L1 H1, ii L1, ii H1, bb z, Z, ii L1, Z, Z, Z, Z, Z, Z, ii 1, Z, Z]) hop rfl (by decide) rfl (fun u' => run_move rfl) (fun u' => evs_move) (by kernel_rfl) ?_
 clear hop
 obtain ⟨_, _, _, hop⟩ := op30_12_1
 refine MGo.pureT (d := 52) (v := .int .i64 H1) (T := #[ii L1, ii H1, holdsV o l, Z, Z, Z, ii 0, ii 0, ii st, ii lf, ii rt, cc c, cc e, bb y, bb z, ii H, ii L, ii (H - L), ii (H - L + 1), ii st, ii L, ii st, ii lf, ii H, ii st, ii rt, ii lf, holdsV o l, cc c, ii rt, holdsV o l, cc e, ii 1, bb true, cc c, cc e, .tuple #[ii 1, bb true, bb false, bb z], ii 1, bb false, bb true, bb y, tt L1 H1, ii L, ii H, ii lf, bb y, tt L1 H1, ii L1, ii H1, bb z, Z, ii L1, ii H1, Z, Z, Z, Z, Z, ii 1, Z, Z]) hop rfl (by decide) rfl (fun u' => run_move rfl) (fun u' => evs_move) (by kernel_rfl) ?_
 clear hop
 obtain ⟨_, _, _, hop⟩ := op30_12_2
 refine MGo.pureT (d := 53) (v := .int .i64 rt) (T := #[ii L1, ii H1, holdsV o l, Z, Z, Z, ii 0, ii 0, ii st, ii lf, ii rt, cc c, cc e, bb y, bb z, ii H, ii L, ii (H - L), ii (H - L + 1), ii st, ii L, ii st, ii lf, ii H, ii st, ii rt, ii lf, holdsV o l, cc c, ii rt, holdsV o l, cc e, ii 1, bb true, cc c, cc e, .tuple #[ii 1, bb true, bb false, bb z], ii 1, bb false, bb true, bb y, tt L1 H1, ii L, ii H, ii lf, bb y, tt L1 H1, ii L1, ii H1, bb z, Z, ii L1, ii H1, ii rt, Z, Z, Z, Z, ii 1, Z, Z]) hop rfl (by decide) rfl (fun u' => run_move rfl) (fun u' => evs_move) (by kernel_rfl) ?_
 clear hop
 obtain ⟨_, _, _, hop⟩ := op30_12_3
 refine MGo.pureT (d := 54) (v := .bool z) (T := #[ii L1, ii H1, holdsV o l, Z, Z, Z, ii 0, ii 0, ii st, ii lf, ii rt, cc c, cc e, bb y, bb z, ii H, ii L, ii (H - L), ii (H - L + 1), ii st, ii L, ii st, ii lf, ii H, ii st, ii rt, ii lf, holdsV o l, cc c, ii rt, holdsV o l, cc e, ii 1, bb true, cc c, cc e, .tuple #[ii 1, bb true, bb false, bb z], ii 1, bb false, bb true, bb y, tt L1 H1, ii L, ii H, ii lf, bb y, tt L1 H1, ii L1, ii H1, bb z, Z, ii L1, ii H1, ii rt, bb z, Z, Z, Z, ii 1, Z, Z]) hop rfl (by decide) rfl (fun u' => run_move rfl) (fun u' => evs_move) (by kernel_rfl) ?_
 clear hop
 obtain ⟨_, _, _, hop⟩ := op30_12_4
 refine MGo.enter hop rfl (by decide) (fun u' => run_call41 rfl rfl rfl rfl rfl) (fun u' => evs_call41 rfl rfl rfl rfl rfl) ?_
 clear hop
 exact h
set_option maxRecDepth 4000 in
theorem nar_h0 {L H L1 H1 L2 H2 st lf rt : Int} {c e : Nat} {y z : Bool} (h : MGo Try.prog rd Stop m own (G (top.finish (.tuple #[.int .i64 L2, .int .i64 H2])) cs) u) : MGo Try.prog rd Stop (m + 29) own (G (Frame.finish (K0 Try.f105 L H L1 H1 st lf rt o l c e y z) (.tuple #[.int .i64 L2, .int .i64 H2])) (top :: cs)) u := by
 obtain ⟨_, _, _, hop⟩ := op30_12_4
 refine MGo.endT (T := #[ii L1, ii H1, holdsV o l, Z, Z, Z, ii 0, ii 0, ii st, ii lf, ii rt, cc c, cc e, bb y, bb z, ii H, ii L, ii (H - L), ii (H - L + 1), ii st, ii L, ii st, ii lf, ii H, ii st, ii rt, ii lf, holdsV o l, cc c, ii rt, holdsV o l, cc e, ii 1, bb true, cc c, cc e, .tuple #[ii 1, bb true, bb false, bb z], ii 1, bb false, bb true, bb y, tt L1 H1, ii L, ii H, ii lf, bb y, tt L1 H1, ii L1, ii H1, bb z, Z, ii L1, ii H1, ii rt, bb z, tt L2 H2, Z, Z, ii 1, Z, Z]) hop rfl (by kernel_rfl) ?_
 clear hop
 skip
 obtain ⟨_, _, _, hop⟩ := op30_12_5
 refine MGo.pureT (d := 50) (v := .tuple #[.int .i64 L2, .int .i64 H2]) (T := #[ii L1, ii H1, holdsV o l, Z, Z, Z, ii 0, ii 0, ii st, ii lf, ii rt, cc c, cc e, bb y, bb z, ii H, ii L, ii (H - L), ii (H - L + 1), ii st, ii L, ii st, ii lf, ii H, ii st, ii rt, ii lf, holdsV o l, cc c, ii rt, holdsV o l, cc e, ii 1, bb true, cc c, cc e, .tuple #[ii 1, bb true, bb false, bb z], ii 1, bb false, bb true, bb y, tt L1 H1, ii L, ii H, ii lf, bb y, tt L1 H1, ii L1, ii H1, bb z, tt L2 H2, ii L1, ii H1, ii rt, bb z, tt L2 H2, Z, Z, ii 1, Z, Z]) hop rfl (by decide) rfl (fun u' => run_move rfl) (fun u' => evs_move) (by kernel_rfl) ?_
 clear hop
 obtain ⟨_, _, _, hop⟩ := op30_12_6
 refine MGo.pureT (d := 56) (v := .int .i64 L2) (T := #[ii L1, ii H1, holdsV o l, Z, Z, Z, ii 0, ii 0, ii st, ii lf, ii rt, cc c, cc e, bb y, bb z, ii H, ii L, ii (H - L), ii (H - L + 1), ii st, ii L, ii st, ii lf, ii H, ii st, ii rt, ii lf, holdsV o l, cc c, ii rt, holdsV o l, cc e, ii 1, bb true, cc c, cc e, .tuple #[ii 1, bb true, bb false, bb z], ii 1, bb false, bb true, bb y, tt L1 H1, ii L, ii H, ii lf, bb y, tt L1 H1, ii L1, ii H1, bb z, tt L2 H2, ii L1, ii H1, ii rt, bb z, tt L2 H2, ii L2, Z, ii 1, Z, Z]) hop rfl (by decide) rfl (fun u' => run_extract rfl rfl) (fun u' => evs_extract rfl rfl) (by kernel_rfl) ?_
 clear hop
 obtain ⟨_, _, _, hop⟩ := op30_12_7
 refine MGo.pureT (d := 57) (v := .int .i64 H2) (T := #[ii L1, ii H1, holdsV o l, Z, Z, Z, ii 0, ii 0, ii st, ii lf, ii rt, cc c, cc e, bb y, bb z, ii H, ii L, ii (H - L), ii (H - L + 1), ii st, ii L, ii st, ii lf, ii H, ii st, ii rt, ii lf, holdsV o l, cc c, ii rt, holdsV o l, cc e, ii 1, bb true, cc c, cc e, .tuple #[ii 1, bb true, bb false, bb z], ii 1, bb false, bb true, bb y, tt L1 H1, ii L, ii H, ii lf, bb y, tt L1 H1, ii L1, ii H1, bb z, tt L2 H2, ii L1, ii H1, ii rt, bb z, tt L2 H2, ii L2, ii H2, ii 1, Z, Z]) hop rfl (by decide) rfl (fun u' => run_extract rfl rfl) (fun u' => evs_extract rfl rfl) (by kernel_rfl) ?_
 clear hop
 obtain ⟨_, _, _, hop⟩ := op30_12_8
 refine MGo.pureT (d := 0) (v := .int .i64 L2) (T := #[ii L2, ii H1, holdsV o l, Z, Z, Z, ii 0, ii 0, ii st, ii lf, ii rt, cc c, cc e, bb y, bb z, ii H, ii L, ii (H - L), ii (H - L + 1), ii st, ii L, ii st, ii lf, ii H, ii st, ii rt, ii lf, holdsV o l, cc c, ii rt, holdsV o l, cc e, ii 1, bb true, cc c, cc e, .tuple #[ii 1, bb true, bb false, bb z], ii 1, bb false, bb true, bb y, tt L1 H1, ii L, ii H, ii lf, bb y, tt L1 H1, ii L1, ii H1, bb z, tt L2 H2, ii L1, ii H1, ii rt, bb z, tt L2 H2, ii L2, ii H2, ii 1, Z, Z]) hop rfl (by decide) rfl (fun u' => run_assign rfl) (fun u' => evs_assign) (by kernel_rfl) ?_
 clear hop
 obtain ⟨_, _, _, hop⟩ := op30_12_9
 refine MGo.pureT (d := 1) (v := .int .i64 H2) (T := #[ii L2, ii H2, holdsV o l, Z, Z, Z, ii 0, ii 0, ii st, ii lf, ii rt, cc c, cc e, bb y, bb z, ii H, ii L, ii (H - L), ii (H - L + 1), ii st, ii L, ii st, ii lf, ii H, ii st, ii rt, ii lf, holdsV o l, cc c, ii rt, holdsV o l, cc e, ii 1, bb true, cc c, cc e, .tuple #[ii 1, bb true, bb false, bb z], ii 1, bb false, bb true, bb y, tt L1 H1, ii L, ii H, ii lf, bb y, tt L1 H1, ii L1, ii H1, bb z, tt L2 H2, ii L1, ii H1, ii rt, bb z, tt L2 H2, ii L2, ii H2, ii 1, Z, Z]) hop rfl (by decide) rfl (fun u' => run_assign rfl) (fun u' => evs_assign) (by kernel_rfl) ?_
 clear hop
 refine MGo.ctl (fun _ => stepG_region_end) rfl rfl ?_
 refine MGo.ctl (fun _ => stepG_inBlock) rfl rfl ?_
 refine MGo.ctl (fun _ => stepG_inBlock) rfl rfl ?_
 refine MGo.ctl (fun _ => stepG_region) rfl rfl ?_
 rw [show List.range (opsAt Try.f105 13).size = [0, 1] from by kernel_rfl]
 obtain ⟨_, _, _, hop⟩ := op30_13_0
 refine MGo.pureT (d := 58) (v := .int .i64 2) (T := #[ii L2, ii H2, holdsV o l, Z, Z, Z, ii 0, ii 0, ii st, ii lf, ii rt, cc c, cc e, bb y, bb z, ii H, ii L, ii (H - L), ii (H - L + 1), ii st, ii L, ii st, ii lf, ii H, ii st, ii rt, ii lf, holdsV o l, cc c, ii rt, holdsV o l, cc e, ii 1, bb true, cc c, cc e, .tuple #[ii 1, bb true, bb false, bb z], ii 1, bb false, bb true, bb y, tt L1 H1, ii L, ii H, ii lf, bb y, tt L1 H1, ii L1, ii H1, bb z, tt L2 H2, ii L1, ii H1, ii rt, bb z, tt L2 H2, ii L2, ii H2, ii 2, Z, Z]) hop rfl (by decide) rfl (fun u' => run_add3 rfl rfl rfl ⟨by decide, by decide⟩) (fun u' => evs_bin3 rfl rfl (.inl rfl)) (by kernel_rfl) ?_
 clear hop
 obtain ⟨_, _, _, hop⟩ := op30_13_1
 refine MGo.pureT (d := 32) (v := .int .i64 2) (T := #[ii L2, ii H2, holdsV o l, Z, Z, Z, ii 0, ii 0, ii st, ii lf, ii rt, cc c, cc e, bb y, bb z, ii H, ii L, ii (H - L), ii (H - L + 1), ii st, ii L, ii st, ii lf, ii H, ii st, ii rt, ii lf, holdsV o l, cc c, ii rt, holdsV o l, cc e, ii 2, bb true, cc c, cc e, .tuple #[ii 1, bb true, bb false, bb z], ii 1, bb false, bb true, bb y, tt L1 H1, ii L, ii H, ii lf, bb y, tt L1 H1, ii L1, ii H1, bb z, tt L2 H2, ii L1, ii H1, ii rt, bb z, tt L2 H2, ii L2, ii H2, ii 2, Z, Z]) hop rfl (by decide) rfl (fun u' => run_move rfl) (fun u' => evs_move) (by kernel_rfl) ?_
 clear hop
 refine MGo.ctl (fun _ => stepG_region_end) rfl rfl ?_
 refine MGo.ctl (fun _ => stepG_inLoop) rfl rfl ?_
 refine MGo.ctl (fun _ => stepG_seq) rfl rfl ?_
 refine MGo.ctl (fun _ => stepG_region) rfl rfl ?_
 rw [show List.range (opsAt Try.f105 5).size = [0] from by kernel_rfl]
 obtain ⟨_, _, _, hop⟩ := op30_5_0
 refine MGo.pureT (d := 33) (v := .bool false) (T := #[ii L2, ii H2, holdsV o l, Z, Z, Z, ii 0, ii 0, ii st, ii lf, ii rt, cc c, cc e, bb y, bb z, ii H, ii L, ii (H - L), ii (H - L + 1), ii st, ii L, ii st, ii lf, ii H, ii st, ii rt, ii lf, holdsV o l, cc c, ii rt, holdsV o l, cc e, ii 2, bb false, cc c, cc e, .tuple #[ii 1, bb true, bb false, bb z], ii 1, bb false, bb true, bb y, tt L1 H1, ii L, ii H, ii lf, bb y, tt L1 H1, ii L1, ii H1, bb z, tt L2 H2, ii L1, ii H1, ii rt, bb z, tt L2 H2, ii L2, ii H2, ii 2, Z, Z]) hop rfl (by decide) rfl (fun u' => run_lss rfl rfl (by decide)) (fun u' => evs_bin3 rfl rfl (.inr (.inl rfl))) (by kernel_rfl) ?_
 clear hop
 refine MGo.ctl (fun _ => stepG_region_end) rfl rfl ?_
 refine MGo.ctl (fun _ => stepG_seq) rfl rfl ?_
 refine MGo.ctl (fun _ => stepG_cond (t := false) rfl) rfl rfl ?_
 refine MGo.ctl (fun _ => stepG_exit rfl) rfl rfl ?_
 refine MGo.ctl (fun _ => stepG_seq) rfl rfl ?_
 refine MGo.ctl (fun _ => stepG_region) rfl rfl ?_
 rw [show List.range (opsAt Try.f105 14).size = [0, 1, 2, 3] from by kernel_rfl]
 obtain ⟨_, _, _, hop⟩ := op30_14_0
 refine MGo.pureT (d := 59) (v := .int .i64 L2) (T := #[ii L2, ii H2, holdsV o l, Z, Z, Z, ii 0, ii 0, ii st, ii lf, ii rt, cc c, cc e, bb y, bb z, ii H, ii L, ii (H - L), ii (H - L + 1), ii st, ii L, ii st, ii lf, ii H, ii st, ii rt, ii lf, holdsV o l, cc c, ii rt, holdsV o l, cc e, ii 2, bb false, cc c, cc e, .tuple #[ii 1, bb true, bb false, bb z], ii 1, bb false, bb true, bb y, tt L1 H1, ii L, ii H, ii lf, bb y, tt L1 H1, ii L1, ii H1, bb z, tt L2 H2, ii L1, ii H1, ii rt, bb z, tt L2 H2, ii L2, ii H2, ii 2, ii L2, Z]) hop rfl (by decide) rfl (fun u' => run_move rfl) (fun u' => evs_move) (by kernel_rfl) ?_
 clear hop
 obtain ⟨_, _, _, hop⟩ := op30_14_1
 refine MGo.pureT (d := 60) (v := .int .i64 H2) (T := #[ii L2, ii H2, holdsV o l, Z, Z, Z, ii 0, ii 0, ii st, ii lf, ii rt, cc c, cc e, bb y, bb z, ii H, ii L, ii (H - L), ii (H - L + 1), ii st, ii L, ii st, ii lf, ii H, ii st, ii rt, ii lf, holdsV o l, cc c, ii rt, holdsV o l, cc e, ii 2, bb false, cc c, cc e, .tuple #[ii 1, bb true, bb false, bb z], ii 1, bb false, bb true, bb y, tt L1 H1, ii L, ii H, ii lf, bb y, tt L1 H1, ii L1, ii H1, bb z, tt L2 H2, ii L1, ii H1, ii rt, bb z, tt L2 H2, ii L2, ii H2, ii 2, ii L2, ii H2]) hop rfl (by decide) rfl (fun u' => run_move rfl) (fun u' => evs_move) (by kernel_rfl) ?_
 clear hop
 obtain ⟨_, _, _, hop⟩ := op30_14_2
 refine MGo.pureT (d := 6) (v := .int .i64 L2) (T := #[ii L2, ii H2, holdsV o l, Z, Z, Z, ii L2, ii 0, ii st, ii lf, ii rt, cc c, cc e, bb y, bb z, ii H, ii L, ii (H - L), ii (H - L + 1), ii st, ii L, ii st, ii lf, ii H, ii st, ii rt, ii lf, holdsV o l, cc c, ii rt, holdsV o l, cc e, ii 2, bb false, cc c, cc e, .tuple #[ii 1, bb true, bb false, bb z], ii 1, bb false, bb true, bb y, tt L1 H1, ii L, ii H, ii lf, bb y, tt L1 H1, ii L1, ii H1, bb z, tt L2 H2, ii L1, ii H1, ii rt, bb z, tt L2 H2, ii L2, ii H2, ii 2, ii L2, ii H2]) hop rfl (by decide) rfl (fun u' => run_assign rfl) (fun u' => evs_assign) (by kernel_rfl) ?_
 clear hop
 obtain ⟨_, _, _, hop⟩ := op30_14_3
 refine MGo.pureT (d := 7) (v := .int .i64 H2) (T := #[ii L2, ii H2, holdsV o l, Z, Z, Z, ii L2, ii H2, ii st, ii lf, ii rt, cc c, cc e, bb y, bb z, ii H, ii L, ii (H - L), ii (H - L + 1), ii st, ii L, ii st, ii lf, ii H, ii st, ii rt, ii lf, holdsV o l, cc c, ii rt, holdsV o l, cc e, ii 2, bb false, cc c, cc e, .tuple #[ii 1, bb true, bb false, bb z], ii 1, bb false, bb true, bb y, tt L1 H1, ii L, ii H, ii lf, bb y, tt L1 H1, ii L1, ii H1, bb z, tt L2 H2, ii L1, ii H1, ii rt, bb z, tt L2 H2, ii L2, ii H2, ii 2, ii L2, ii H2]) hop rfl (by decide) rfl (fun u' => run_assign rfl) (fun u' => evs_assign) (by kernel_rfl) ?_
 clear hop
 refine MGo.ctl (fun _ => stepG_region_end) rfl rfl ?_
 refine MGo.ctl (fun _ => stepG_ret') rfl rfl ?_
 exact MGo.leave rfl rfl Try.func105 (fun u' => by simp [results, Try.results105]) (fun u' => by simp [results, Try.results105]) h
set_option maxRecDepth 4000 in
theorem nar_d1 {L H st lf rt : Int} {c e : Nat} {y : Bool} (h : MGo Try.prog rd Stop m own (G (Frame.enter Try.prog 134 #[.int .i64 L, .int .i64 H, .int .i64 rt, .bool y] .normal) ((M1 Try.f105 L H st lf rt o l c e y) :: cs)) u) : MGo Try.prog rd Stop (m + 18) own (G (Frame.finish (S0 Try.f105 L H st lf rt o l c e) (.tuple #[.int .i64 1, .bool true, .bool false, .bool y])) cs) u := by
 obtain ⟨_, _, _, hop⟩ := op30_8_0
 refine MGo.endT (T := #[ii L, ii H, holdsV o l, Z, Z, Z, ii 0, ii 0, ii st, ii lf, ii rt, cc c, cc e, Z, Z, ii H, ii L, ii (H - L), ii (H - L + 1), ii st, ii L, ii st, ii lf, ii H, ii st, ii rt, ii lf, holdsV o l, cc c, ii rt, holdsV o l, cc e, ii 0, bb true, cc c, cc e, .tuple #[ii 1, bb true, bb false, bb y], Z, Z, Z, Z, Z, Z, Z, Z, Z, Z, Z, Z, Z, Z, Z, Z, Z, Z, Z, Z, Z, Z, Z, Z]) hop rfl (by kernel_rfl) ?_
 clear hop
 skip
 obtain ⟨_, _, _, hop⟩ := op30_8_1
 refine MGo.pureT (d := 37) (v := .int .i64 1) (T := #[ii L, ii H, holdsV o l, Z, Z, Z, ii 0, ii 0, ii st, ii lf, ii rt, cc c, cc e, Z, Z, ii H, ii L, ii (H - L), ii (H - L + 1), ii st, ii L, ii st, ii lf, ii H, ii st, ii rt, ii lf, holdsV o l, cc c, ii rt, holdsV o l, cc e, ii 0, bb true, cc c, cc e, .tuple #[ii 1, bb true, bb false, bb y], ii 1, Z, Z, Z, Z, Z, Z, Z, Z, Z, Z, Z, Z, Z, Z, Z, Z, Z, Z, Z, Z, Z, Z, Z]) hop rfl (by decide) rfl (fun u' => run_extract rfl rfl) (fun u' => evs_extract rfl rfl) (by kernel_rfl) ?_
 clear hop
 obtain ⟨_, _, _, hop⟩ := op30_8_2
 refine MGo.pureT (d := 38) (v := .bool false) (T := #[ii L, ii H, holdsV o l, Z, Z, Z, ii 0, ii 0, ii st, ii lf, ii rt, cc c, cc e, Z, Z, ii H, ii L, ii (H - L), ii (H - L + 1), ii st, ii L, ii st, ii lf, ii H, ii st, ii rt, ii lf, holdsV o l, cc c, ii rt, holdsV o l, cc e, ii 0, bb true, cc c, cc e, .tuple #[ii 1, bb true, bb false, bb y], ii 1, bb false, Z, Z, Z, Z, Z, Z, Z, Z, Z, Z, Z, Z, Z, Z, Z, Z, Z, Z, Z, Z, Z, Z]) hop rfl (by decide) rfl (fun u' => run_eql3 rfl rfl (by decide)) (fun u' => evs_bin3 rfl rfl (.inr (.inr rfl))) (by kernel_rfl) ?_
 clear hop
 obtain ⟨_, _, _, hop⟩ := op30_8_3
 refine MGo.pureT (d := 39) (v := .bool true) (T := #[ii L, ii H, holdsV o l, Z, Z, Z, ii 0, ii 0, ii st, ii lf, ii rt, cc c, cc e, Z, Z, ii H, ii L, ii (H - L), ii (H - L + 1), ii st, ii L, ii st, ii lf, ii H, ii st, ii rt, ii lf, holdsV o l, cc c, ii rt, holdsV o l, cc e, ii 0, bb true, cc c, cc e, .tuple #[ii 1, bb true, bb false, bb y], ii 1, bb false, bb true, Z, Z, Z, Z, Z, Z, Z, Z, Z, Z, Z, Z, Z, Z, Z, Z, Z, Z, Z, Z, Z]) hop rfl (by decide) rfl (fun u' => run_eql3 rfl rfl (by decide)) (fun u' => evs_bin3 rfl rfl (.inr (.inr rfl))) (by kernel_rfl) ?_
 clear hop
 refine MGo.ctl (fun _ => stepG_region_end) rfl rfl ?_
 refine MGo.ctl (fun _ => stepG_block) rfl rfl ?_
 refine MGo.ctl (fun _ => stepG_cond (t := false) rfl) rfl rfl ?_
 refine MGo.ctl (fun _ => stepG_cond (t := true) rfl) rfl rfl ?_
 refine MGo.ctl (fun _ => stepG_seq) rfl rfl ?_
 refine MGo.ctl (fun _ => stepG_region) rfl rfl ?_
 rw [show List.range (opsAt Try.f105 11).size = [0, 1] from by kernel_rfl]
 obtain ⟨_, _, _, hop⟩ := op30_11_0
 refine MGo.pureT (d := 49) (v := .bool y) (T := #[ii L, ii H, holdsV o l, Z, Z, Z, ii 0, ii 0, ii st, ii lf, ii rt, cc c, cc e, Z, Z, ii H, ii L, ii (H - L), ii (H - L + 1), ii st, ii L, ii st, ii lf, ii H, ii st, ii rt, ii lf, holdsV o l, cc c, ii rt, holdsV o l, cc e, ii 0, bb true, cc c, cc e, .tuple #[ii 1, bb true, bb false, bb y], ii 1, bb false, bb true, Z, Z, Z, Z, Z, Z, Z, Z, Z, bb y, Z, Z, Z, Z, Z, Z, Z, Z, Z, Z, Z]) hop rfl (by decide) rfl (fun u' => run_extract rfl rfl) (fun u' => evs_extract rfl rfl) (by kernel_rfl) ?_
 clear hop
 obtain ⟨_, _, _, hop⟩ := op30_11_1
 refine MGo.pureT (d := 14) (v := .bool y) (T := #[ii L, ii H, holdsV o l, Z, Z, Z, ii 0, ii 0, ii st, ii lf, ii rt, cc c, cc e, Z, bb y, ii H, ii L, ii (H - L), ii (H - L + 1), ii st, ii L, ii st, ii lf, ii H, ii st, ii rt, ii lf, holdsV o l, cc c, ii rt, holdsV o l, cc e, ii 0, bb true, cc c, cc e, .tuple #[ii 1, bb true, bb false, bb y], ii 1, bb false, bb true, Z, Z, Z, Z, Z, Z, Z, Z, Z, bb y, Z, Z, Z, Z, Z, Z, Z, Z, Z, Z, Z]) hop rfl (by decide) rfl (fun u' => run_assign rfl) (fun u' => evs_assign) (by kernel_rfl) ?_
 clear hop
 refine MGo.ctl (fun _ => stepG_region_end) rfl rfl ?_
 refine MGo.ctl (fun _ => stepG_region) rfl rfl ?_
 rw [show List.range (opsAt Try.f105 12).size = [0, 1, 2, 3, 4, 5, 6, 7, 8, 9] from by kernel_rfl]
 obtain ⟨_, _, _, hop⟩ := op30_12_0
 refine MGo.pureT (d := 51) (v := .int .i64 L) (T := #[ii L, ii H, holdsV o l, Z, Z, Z, ii 0, ii 0, ii st, ii lf, ii rt, cc c, cc e, Z, bb y, ii H, ii L, ii (H - L), ii (H - L + 1), ii st, ii L, ii st, ii lf, ii H, ii st, ii rt, ii lf, holdsV o l, cc c, ii rt, holdsV o l, cc e, ii 0, bb true, cc c, cc e, .tuple #[ii 1, bb true, bb false, bb y], ii 1, bb false, bb true, Z, Z, Z, Z, Z, Z, Z, Z, Z, bb y, Z, ii L, Z, Z, Z, Z, Z, Z, Z, Z, Z]) hop rfl (by decide) rfl (fun u' => run_move rfl) (fun u' => evs_move) (by kernel_rfl) ?_
 clear hop
 obtain ⟨_, _, _, hop⟩ := op30_12_1
 refine MGo.pureT (d := 52) (v := .int .i64 H) (T := #[ii L, ii H, holdsV o l, Z, Z, Z, ii 0, ii 0, ii st, ii lf, ii rt, cc c, cc e, Z, bb y, ii H, ii L, ii (H - L), ii (H - L + 1), ii st, ii L, ii st, ii lf, ii H, ii st, ii rt, ii lf, holdsV o l, cc c, ii rt, holdsV o l, cc e, ii 0, bb true, cc c, cc e, .tuple #[ii 1, bb true, bb false, bb y], ii 1, bb false, bb true, Z, Z, Z, Z, Z, Z, Z, Z, Z, bb y, Z, ii L, ii H, Z, Z, Z, Z, Z, Z, Z, Z]) hop rfl (by decide) rfl (fun u' => run_move rfl) (fun u' => evs_move) (by kernel_rfl) ?_
 clear hop
 obtain ⟨_, _, _, hop⟩ := op30_12_2
 refine MGo.pureT (d := 53) (v := .int .i64 rt) (T := #[ii L, ii H, holdsV o l, Z, Z, Z, ii 0, ii 0, ii st, ii lf, ii rt, cc c, cc e, Z, bb y, ii H, ii L, ii (H - L), ii (H - L + 1), ii st, ii L, ii st, ii lf, ii H, ii st, ii rt, ii lf, holdsV o l, cc c, ii rt, holdsV o l, cc e, ii 0, bb true, cc c, cc e, .tuple #[ii 1, bb true, bb false, bb y], ii 1, bb false, bb true, Z, Z, Z, Z, Z, Z, Z, Z, Z, bb y, Z, ii L, ii H, ii rt, Z, Z, Z, Z, Z, Z, Z]) hop rfl (by decide) rfl (fun u' => run_move rfl) (fun u' => evs_move) (by kernel_rfl) ?_
 clear hop
 obtain ⟨_, _, _, hop⟩ := op30_12_3
 refine MGo.pureT (d := 54) (v := .bool y) (T := #[ii L, ii H, holdsV o l, Z, Z, Z, ii 0, ii 0, ii st, ii lf, ii rt, cc c, cc e, Z, bb y, ii H, ii L, ii (H - L), ii (H - L + 1), ii st, ii L, ii st, ii lf, ii H, ii st, ii rt, ii lf, holdsV o l, cc c, ii rt, holdsV o l, cc e, ii 0, bb true, cc c, cc e, .tuple #[ii 1, bb true, bb false, bb y], ii 1, bb false, bb true, Z, Z, Z, Z, Z, Z, Z, Z, Z, bb y, Z, ii L, ii H, ii rt, bb y, Z, Z, Z, Z, Z, Z]) hop rfl (by decide) rfl (fun u' => run_move rfl) (fun u' => evs_move) (by kernel_rfl) ?_
 clear hop
 obtain ⟨_, _, _, hop⟩ := op30_12_4
 refine MGo.enter hop rfl (by decide) (fun u' => run_call41 rfl rfl rfl rfl rfl) (fun u' => evs_call41 rfl rfl rfl rfl rfl) ?_
 clear hop
 exact h
set_option maxRecDepth 4000 in
theorem nar_f1 {L H L1 H1 st lf rt : Int} {c e : Nat} {y : Bool} (h : MGo Try.prog rd Stop m own (G (S11 Try.f105 L H L1 H1 st lf rt o l c e y) cs) u) : MGo Try.prog rd Stop (m + 32) own (G (Frame.finish (M1 Try.f105 L H st lf rt o l c e y) (.tuple #[.int .i64 L1, .int .i64 H1])) cs) u := by
 obtain ⟨_, _, _, hop⟩ := op30_12_4
 refine MGo.endT (T := #[ii L, ii H, holdsV o l, Z, Z, Z, ii 0, ii 0, ii st, ii lf, ii rt, cc c, cc e, Z, bb y, ii H, ii L, ii (H - L), ii (H - L + 1), ii st, ii L, ii st, ii lf, ii H, ii st, ii rt, ii lf, holdsV o l, cc c, ii rt, holdsV o l, cc e, ii 0, bb true, cc c, cc e, .tuple #[ii 1, bb true, bb false, bb y], ii 1, bb false, bb true, Z, Z, Z, Z, Z, Z, Z, Z, Z, bb y, Z, ii L, ii H, ii rt, bb y, tt L1 H1, Z, Z, Z, Z, Z]) hop rfl (by kernel_rfl) ?_
 clear hop
 skip
 obtain ⟨_, _, _, hop⟩ := op30_12_5
 refine MGo.pureT (d := 50) (v := .tuple #[.int .i64 L1, .int .i64 H1]) (T := #[ii L, ii H, holdsV o l, Z, Z, Z, ii 0, ii 0, ii st, ii lf, ii rt, cc c, cc e, Z, bb y, ii H, ii L, ii (H - L), ii (H - L + 1), ii st, ii L, ii st, ii lf, ii H, ii st, ii rt, ii lf, holdsV o l, cc c, ii rt, holdsV o l, cc e, ii 0, bb true, cc c, cc e, .tuple #[ii 1, bb true, bb false, bb y], ii 1, bb false, bb true, Z, Z, Z, Z, Z, Z, Z, Z, Z, bb y, tt L1 H1, ii L, ii H, ii rt, bb y, tt L1 H1, Z, Z, Z, Z, Z]) hop rfl (by decide) rfl (fun u' => run_move rfl) (fun u' => evs_move) (by kernel_rfl) ?_
 clear hop
 obtain ⟨_, _, _, hop⟩ := op30_12_6
 refine MGo.pureT (d := 56) (v := .int .i64 L1) (T := #[ii L, ii H, holdsV o l, Z, Z, Z, ii 0, ii 0, ii st, ii lf, ii rt, cc c, cc e, Z, bb y, ii H, ii L, ii (H - L), ii (H - L + 1), ii st, ii L, ii st, ii lf, ii H, ii st, ii rt, ii lf, holdsV o l, cc c, ii rt, holdsV o l, cc e, ii 0, bb true, cc c, cc e, .tuple #[ii 1, bb true, bb false, bb y], ii 1, bb false, bb true, Z, Z, Z, Z, Z, Z, Z, Z, Z, bb y, tt L1 H1, ii L, ii H, ii rt, bb y, tt L1 H1, ii L1, Z, Z, Z, Z]) hop rfl (by decide) rfl (fun u' => run_extract rfl rfl) (fun u' => evs_extract rfl rfl) (by kernel_rfl) ?_
 clear hop
 obtain ⟨_, _, _, hop⟩ := op30_12_7
 refine MGo.pureT (d := 57) (v := .int .i64 H1) (T := #[ii L, ii H, holdsV o l, Z, Z, Z, ii 0, ii 0, ii st, ii lf, ii rt, cc c, cc e, Z, bb y, ii H, ii L, ii (H - L), ii (H - L + 1), ii st, ii L, ii st, ii lf, ii H, ii st, ii rt, ii lf, holdsV o l, cc c, ii rt, holdsV o l, cc e, ii 0, bb true, cc c, cc e, .tuple #[ii 1, bb true, bb false, bb y], ii 1, bb false, bb true, Z, Z, Z, Z, Z, Z, Z, Z, Z, bb y, tt L1 H1, ii L, ii H, ii rt, bb y, tt L1 H1, ii L1, ii H1, Z, Z, Z]) hop rfl (by decide) rfl (fun u' => run_extract rfl rfl) (fun u' => evs_extract rfl rfl) (by kernel_rfl) ?_
 clear hop
 obtain ⟨_, _, _, hop⟩ := op30_12_8
 refine MGo.pureT (d := 0) (v := .int .i64 L1) (T := #[ii L1, ii H, holdsV o l, Z, Z, Z, ii 0, ii 0, ii st, ii lf, ii rt, cc c, cc e, Z, bb y, ii H, ii L, ii (H - L), ii (H - L + 1), ii st, ii L, ii st, ii lf, ii H, ii st, ii rt, ii lf, holdsV o l, cc c, ii rt, holdsV o l, cc e, ii 0, bb true, cc c, cc e, .tuple #[ii 1, bb true, bb false, bb y], ii 1, bb false, bb true, Z, Z, Z, Z, Z, Z, Z, Z, Z, bb y, tt L1 H1, ii L, ii H, ii rt, bb y, tt L1 H1, ii L1, ii H1, Z, Z, Z]) hop rfl (by decide) rfl (fun u' => run_assign rfl) (fun u' => evs_assign) (by kernel_rfl) ?_
 clear hop
 obtain ⟨_, _, _, hop⟩ := op30_12_9
 refine MGo.pureT (d := 1) (v := .int .i64 H1) (T := #[ii L1, ii H1, holdsV o l, Z, Z, Z, ii 0, ii 0, ii st, ii lf, ii rt, cc c, cc e, Z, bb y, ii H, ii L, ii (H - L), ii (H - L + 1), ii st, ii L, ii st, ii lf, ii H, ii st, ii rt, ii lf, holdsV o l, cc c, ii rt, holdsV o l, cc e, ii 0, bb true, cc c, cc e, .tuple #[ii 1, bb true, bb false, bb y], ii 1, bb false, bb true, Z, Z, Z, Z, Z, Z, Z, Z, Z, bb y, tt L1 H1, ii L, ii H, ii rt, bb y, tt L1 H1, ii L1, ii H1, Z, Z, Z]) hop rfl (by decide) rfl (fun u' => run_assign rfl) (fun u' => evs_assign) (by kernel_rfl) ?_
 clear hop
 refine MGo.ctl (fun _ => stepG_region_end) rfl rfl ?_
 refine MGo.ctl (fun _ => stepG_inBlock) rfl rfl ?_
 refine MGo.ctl (fun _ => stepG_inBlock) rfl rfl ?_
 refine MGo.ctl (fun _ => stepG_region) rfl rfl ?_
 rw [show List.range (opsAt Try.f105 13).size = [0, 1] from by kernel_rfl]
 obtain ⟨_, _, _, hop⟩ := op30_13_0
 refine MGo.pureT (d := 58) (v := .int .i64 1) (T := #[ii L1, ii H1, holdsV o l, Z, Z, Z, ii 0, ii 0, ii st, ii lf, ii rt, cc c, cc e, Z, bb y, ii H, ii L, ii (H - L), ii (H - L + 1), ii st, ii L, ii st, ii lf, ii H, ii st, ii rt, ii lf, holdsV o l, cc c, ii rt, holdsV o l, cc e, ii 0, bb true, cc c, cc e, .tuple #[ii 1, bb true, bb false, bb y], ii 1, bb false, bb true, Z, Z, Z, Z, Z, Z, Z, Z, Z, bb y, tt L1 H1, ii L, ii H, ii rt, bb y, tt L1 H1, ii L1, ii H1, ii 1, Z, Z]) hop rfl (by decide) rfl (fun u' => run_add3 rfl rfl rfl ⟨by decide, by decide⟩) (fun u' => evs_bin3 rfl rfl (.inl rfl)) (by kernel_rfl) ?_
 clear hop
 obtain ⟨_, _, _, hop⟩ := op30_13_1
 refine MGo.pureT (d := 32) (v := .int .i64 1) (T := #[ii L1, ii H1, holdsV o l, Z, Z, Z, ii 0, ii 0, ii st, ii lf, ii rt, cc c, cc e, Z, bb y, ii H, ii L, ii (H - L), ii (H - L + 1), ii st, ii L, ii st, ii lf, ii H, ii st, ii rt, ii lf, holdsV o l, cc c, ii rt, holdsV o l, cc e, ii 1, bb true, cc c, cc e, .tuple #[ii 1, bb true, bb false, bb y], ii 1, bb false, bb true, Z, Z, Z, Z, Z, Z, Z, Z, Z, bb y, tt L1 H1, ii L, ii H, ii rt, bb y, tt L1 H1, ii L1, ii H1, ii 1, Z, Z]) hop rfl (by decide) rfl (fun u' => run_move rfl) (fun u' => evs_move) (by kernel_rfl) ?_
 clear hop
 refine MGo.ctl (fun _ => stepG_region_end) rfl rfl ?_
 refine MGo.ctl (fun _ => stepG_inLoop) rfl rfl ?_
 refine MGo.ctl (fun _ => stepG_seq) rfl rfl ?_
 refine MGo.ctl (fun _ => stepG_region) rfl rfl ?_
 rw [show List.range (opsAt Try.f105 5).size = [0] from by kernel_rfl]
 obtain ⟨_, _, _, hop⟩ := op30_5_0
 refine MGo.pureT (d := 33) (v := .bool true) (T := #[ii L1, ii H1, holdsV o l, Z, Z, Z, ii 0, ii 0, ii st, ii lf, ii rt, cc c, cc e, Z, bb y, ii H, ii L, ii (H - L), ii (H - L + 1), ii st, ii L, ii st, ii lf, ii H, ii st, ii rt, ii lf, holdsV o l, cc c, ii rt, holdsV o l, cc e, ii 1, bb true, cc c, cc e, .tuple #[ii 1, bb true, bb false, bb y], ii 1, bb false, bb true, Z, Z, Z, Z, Z, Z, Z, Z, Z, bb y, tt L1 H1, ii L, ii H, ii rt, bb y, tt L1 H1, ii L1, ii H1, ii 1, Z, Z]) hop rfl (by decide) rfl (fun u' => run_lss rfl rfl (by decide)) (fun u' => evs_bin3 rfl rfl (.inr (.inl rfl))) (by kernel_rfl) ?_
 clear hop
 refine MGo.ctl (fun _ => stepG_region_end) rfl rfl ?_
 refine MGo.ctl (fun _ => stepG_seq) rfl rfl ?_
 refine MGo.ctl (fun _ => stepG_cond (t := true) rfl) rfl rfl ?_
 refine MGo.ctl (fun _ => stepG_skip) rfl rfl ?_
 refine MGo.ctl (fun _ => stepG_seq) rfl rfl ?_
 refine MGo.ctl (fun _ => stepG_block) rfl rfl ?_
 refine MGo.ctl (fun _ => stepG_seq) rfl rfl ?_
 refine MGo.ctl (fun _ => stepG_seq) rfl rfl ?_
 refine MGo.ctl (fun _ => stepG_region) rfl rfl ?_
 rw [show List.range (opsAt Try.f105 6).size = [0] from by kernel_rfl]
 obtain ⟨_, _, _, hop⟩ := op30_6_0
 refine MGo.pureT (d := 34) (v := .chan (some c)) (T := #[ii L1, ii H1, holdsV o l, Z, Z, Z, ii 0, ii 0, ii st, ii lf, ii rt, cc c, cc e, Z, bb y, ii H, ii L, ii (H - L), ii (H - L + 1), ii st, ii L, ii st, ii lf, ii H, ii st, ii rt, ii lf, holdsV o l, cc c, ii rt, holdsV o l, cc e, ii 1, bb true, cc c, cc e, .tuple #[ii 1, bb true, bb false, bb y], ii 1, bb false, bb true, Z, Z, Z, Z, Z, Z, Z, Z, Z, bb y, tt L1 H1, ii L, ii H, ii rt, bb y, tt L1 H1, ii L1, ii H1, ii 1, Z, Z]) hop rfl (by decide) rfl (fun u' => run_move rfl) (fun u' => evs_move) (by kernel_rfl) ?_
 clear hop
 refine MGo.ctl (fun _ => stepG_region_end) rfl rfl ?_
 refine MGo.ctl (fun _ => stepG_region) rfl rfl ?_
 rw [show List.range (opsAt Try.f105 7).size = [0] from by kernel_rfl]
 obtain ⟨_, _, _, hop⟩ := op30_7_0
 refine MGo.pureT (d := 35) (v := .chan (some e)) (T := #[ii L1, ii H1, holdsV o l, Z, Z, Z, ii 0, ii 0, ii st, ii lf, ii rt, cc c, cc e, Z, bb y, ii H, ii L, ii (H - L), ii (H - L + 1), ii st, ii L, ii st, ii lf, ii H, ii st, ii rt, ii lf, holdsV o l, cc c, ii rt, holdsV o l, cc e, ii 1, bb true, cc c, cc e, .tuple #[ii 1, bb true, bb false, bb y], ii 1, bb false, bb true, Z, Z, Z, Z, Z, Z, Z, Z, Z, bb y, tt L1 H1, ii L, ii H, ii rt, bb y, tt L1 H1, ii L1, ii H1, ii 1, Z, Z]) hop rfl (by decide) rfl (fun u' => run_move rfl) (fun u' => evs_move) (by kernel_rfl) ?_
 clear hop
 refine MGo.ctl (fun _ => stepG_region_end) rfl rfl ?_
 refine MGo.ctl (fun _ => stepG_seq) rfl rfl ?_
 refine MGo.ctl (fun _ => stepG_region) rfl rfl ?_
 rw [show List.range (opsAt Try.f105 8).size = [0, 1, 2, 3] from by kernel_rfl]
 exact h
set_option maxRecDepth 4000 in
theorem nar_sel11 {L H L1 H1 st lf rt : Int} {c e : Nat} {y : Bool} : stepG Try.prog true (G (S11 Try.f105 L H L1 H1 st lf rt o l c e y) cs) u = .comm (G (S11 Try.f105 L H L1 H1 st lf rt o l c e y) cs) #[rcase c (.bool false), rcase e (.bool false)] true .select u #[] := by
 obtain ⟨_, _, _, hop⟩ := op30_8_0
 rw [stepG_comm hop rfl (by decide) (run_select rfl rfl), listed_none (evs_select rfl rfl)]
set_option maxRecDepth 4000 in
theorem nar_g1 {L H L1 H1 st lf rt : Int} {c e : Nat} {y z : Bool} (h : MGo Try.prog rd Stop m own (G (Frame.enter Try.prog 134 #[.int .i64 L1, .int .i64 H1, .int .i64 lf, .bool z] .normal) ((K1 Try.f105 L H L1 H1 st lf rt o l c e y z) :: cs)) u) : MGo Try.prog rd Stop (m + 17) own (G (Frame.finish (S11 Try.f105 L H L1 H1 st lf rt o l c e y) (.tuple #[.int .i64 0, .bool true, .bool z, .bool false])) cs) u := by
 obtain ⟨_, _, _, hop⟩ := op30_8_0
 refine MGo.endT (T := #[ii L1, ii H1, holdsV o l, Z, Z, Z, ii 0, ii 0, ii st, ii lf, ii rt, cc c, cc e, Z, bb y, ii H, ii L, ii (H - L), ii (H - L + 1), ii st, ii L, ii st, ii lf, ii H, ii st, ii rt, ii lf, holdsV o l, cc c, ii rt, holdsV o l, cc e, ii 1, bb true, cc c, cc e, .tuple #[ii 0, bb true, bb z, bb false], ii 1, bb false, bb true, Z, Z, Z, Z, Z, Z, Z, Z, Z, bb y, tt L1 H1, ii L, ii H, ii rt, bb y, tt L1 H1, ii L1, ii H1, ii 1, Z, Z]) hop rfl (by kernel_rfl) ?_
 clear hop
 skip
 obtain ⟨_, _, _, hop⟩ := op30_8_1
 refine MGo.pureT (d := 37) (v := .int .i64 0) (T := #[ii L1, ii H1, holdsV o l, Z, Z, Z, ii 0, ii 0, ii st, ii lf, ii rt, cc c, cc e, Z, bb y, ii H, ii L, ii (H - L), ii (H - L + 1), ii st, ii L, ii st, ii lf, ii H, ii st, ii rt, ii lf, holdsV o l, cc c, ii rt, holdsV o l, cc e, ii 1, bb true, cc c, cc e, .tuple #[ii 0, bb true, bb z, bb false], ii 0, bb false, bb true, Z, Z, Z, Z, Z, Z, Z, Z, Z, bb y, tt L1 H1, ii L, ii H, ii rt, bb y, tt L1 H1, ii L1, ii H1, ii 1, Z, Z]) hop rfl (by decide) rfl (fun u' => run_extract rfl rfl) (fun u' => evs_extract rfl rfl) (by kernel_rfl) ?_
 clear hop
 obtain ⟨_, _, _, hop⟩ := op30_8_2
 refine MGo.pureT (d := 38) (v := .bool true) (T := #[ii L1, ii H1, holdsV o l, Z, Z, Z, ii 0, ii 0, ii st, ii lf, ii rt, cc c, cc e, Z, bb y, ii H, ii L, ii (H - L), ii (H - L + 1), ii st, ii L, ii st, ii lf, ii H, ii st, ii rt, ii lf, holdsV o l, cc c, ii rt, holdsV o l, cc e, ii 1, bb true, cc c, cc e, .tuple #[ii 0, bb true, bb z, bb false], ii 0, bb true, bb true, Z, Z, Z, Z, Z, Z, Z, Z, Z, bb y, tt L1 H1, ii L, ii H, ii rt, bb y, tt L1 H1, ii L1, ii H1, ii 1, Z, Z]) hop rfl (by decide) rfl (fun u' => run_eql3 rfl rfl (by decide)) (fun u' => evs_bin3 rfl rfl (.inr (.inr rfl))) (by kernel_rfl) ?_
 clear hop
 obtain ⟨_, _, _, hop⟩ := op30_8_3
 refine MGo.pureT (d := 39) (v := .bool false) (T := #[ii L1, ii H1, holdsV o l, Z, Z, Z, ii 0, ii 0, ii st, ii lf, ii rt, cc c, cc e, Z, bb y, ii H, ii L, ii (H - L), ii (H - L + 1), ii st, ii L, ii st, ii lf, ii H, ii st, ii rt, ii lf, holdsV o l, cc c, ii rt, holdsV o l, cc e, ii 1, bb true, cc c, cc e, .tuple #[ii 0, bb true, bb z, bb false], ii 0, bb true, bb false, Z, Z, Z, Z, Z, Z, Z, Z, Z, bb y, tt L1 H1, ii L, ii H, ii rt, bb y, tt L1 H1, ii L1, ii H1, ii 1, Z, Z]) hop rfl (by decide) rfl (fun u' => run_eql3 rfl rfl (by decide)) (fun u' => evs_bin3 rfl rfl (.inr (.inr rfl))) (by kernel_rfl) ?_
 clear hop
 refine MGo.ctl (fun _ => stepG_region_end) rfl rfl ?_
 refine MGo.ctl (fun _ => stepG_block) rfl rfl ?_
 refine MGo.ctl (fun _ => stepG_cond (t := true) rfl) rfl rfl ?_
 refine MGo.ctl (fun _ => stepG_seq) rfl rfl ?_
 refine MGo.ctl (fun _ => stepG_region) rfl rfl ?_
 rw [show List.range (opsAt Try.f105 9).size = [0, 1] from by kernel_rfl]
 obtain ⟨_, _, _, hop⟩ := op30_9_0
 refine MGo.pureT (d := 40) (v := .bool z) (T := #[ii L1, ii H1, holdsV o l, Z, Z, Z, ii 0, ii 0, ii st, ii lf, ii rt, cc c, cc e, Z, bb y, ii H, ii L, ii (H - L), ii (H - L + 1), ii st, ii L, ii st, ii lf, ii H, ii st, ii rt, ii lf, holdsV o l, cc c, ii rt, holdsV o l, cc e, ii 1, bb true, cc c, cc e, .tuple #[ii 0, bb true, bb z, bb false], ii 0, bb true, bb false, bb z, Z, Z, Z, Z, Z, Z, Z, Z, bb y, tt L1 H1, ii L, ii H, ii rt, bb y, tt L1 H1, ii L1, ii H1, ii 1, Z, Z]) hop rfl (by decide) rfl (fun u' => run_extract rfl rfl) (fun u' => evs_extract rfl rfl) (by kernel_rfl) ?_
 clear hop
 obtain ⟨_, _, _, hop⟩ := op30_9_1
 refine MGo.pureT (d := 13) (v := .bool z) (T := #[ii L1, ii H1, holdsV o l, Z, Z, Z, ii 0, ii 0, ii st, ii lf, ii rt, cc c, cc e, bb z, bb y, ii H, ii L, ii (H - L), ii (H - L + 1), ii st, ii L, ii st, ii lf, ii H, ii st, ii rt, ii lf, holdsV o l, cc c, ii rt, holdsV o l, cc e, ii 1, bb true, cc c, cc e, .tuple #[ii 0, bb true, bb z, bb false], ii 0, bb true, bb false, bb z, Z, Z, Z, Z, Z, Z, Z, Z, bb y, tt L1 H1, ii L, ii H, ii rt, bb y, tt L1 H1, ii L1, ii H1, ii 1, Z, Z]) hop rfl (by decide) rfl (fun u' => run_assign rfl) (fun u' => evs_assign) (by kernel_rfl) ?_
 clear hop
 refine MGo.ctl (fun _ => stepG_region_end) rfl rfl ?_
 refine MGo.ctl (fun _ => stepG_region) rfl rfl ?_
 rw [show List.range (opsAt Try.f105 10).size = [0, 1, 2, 3, 4, 5, 6, 7, 8, 9] from by kernel_rfl]
 obtain ⟨_, _, _, hop⟩ := op30_10_0
 refine MGo.pureT (d := 42) (v := .int .i64 L1) (T := #[ii L1, ii H1, holdsV o l, Z, Z, Z, ii 0, ii 0, ii st, ii lf, ii rt, cc c, cc e, bb z, bb y, ii H, ii L, ii (H - L), ii (H - L + 1), ii st, ii L, ii st, ii lf, ii H, ii st, ii rt, ii lf, holdsV o l, cc c, ii rt, holdsV o l, cc e, ii 1, bb true, cc c, cc e, .tuple #[ii 0, bb true, bb z, bb false], ii 0, bb true, bb false, bb z, Z, ii L1, Z, Z, Z, Z, Z, Z, bb y, tt L1 H1, ii L, ii H, ii rt, bb y, tt L1 H1, ii L1, ii H1, ii 1, Z, Z]) hop rfl (by decide) rfl (fun u' => run_move rfl) (fun u' => evs_move) (by kernel_rfl) ?_
 clear hop
 obtain ⟨_, _, _, hop⟩ := op30_10_1
 refine MGo.pureT (d := 43) (v := .int .i64 H1) (T := #[ii L1, ii H1, holdsV o l, Z, Z, Z, ii 0, ii 0, ii st, ii lf, ii rt, cc c, cc e, bb z, bb y, ii H, ii L, ii (H - L), ii (H - L + 1), ii st, ii L, ii st, ii lf, ii H, ii st, ii rt, ii lf, holdsV o l, cc c, ii rt, holdsV o l, cc e, ii 1, bb true, cc c, cc e, .tuple #[ii 0, bb true, bb z, bb false], ii 0, bb true, bb false, bb z, Z, ii L1, ii H1, Z, Z, Z, Z, Z, bb y, tt L1 H1, ii L, ii H, ii rt, bb y, tt L1 H1, ii L1, ii H1, ii 1, Z, Z]) hop rfl (by decide) rfl (fun u' => run_move rfl) (fun u' => evs_move) (by kernel_rfl) ?_
 clear hop
 obtain ⟨_, _, _, hop⟩ := op30_10_2
 refine MGo.pureT (d := 44) (v := .int .i64 lf) (T := #[ii L1, ii H1, holdsV o l, Z, Z, Z, ii 0, ii 0, ii st, ii lf, ii rt, cc c, cc e, bb z, bb y, ii H, ii L, ii (H - L), ii (H - L + 1), ii st, ii L, ii st, ii lf, ii H, ii st, ii rt, ii lf, holdsV o l, cc c, ii rt, holdsV o l, cc e, ii 1, bb true, cc c, cc e, .tuple #[ii 0, bb true, bb z, bb false], ii 0, bb true, bb false, bb z, Z, ii L1, ii H1, ii lf, Z, Z, Z, Z, bb y, tt L1 H1, ii L, ii H, ii rt, bb y, tt L1 H1, ii L1, ii H1, ii 1, Z, Z]) hop rfl (by decide) rfl (fun u' => run_move rfl) (fun u' => evs_move) (by kernel_rfl) ?_
 clear hop
 obtain ⟨_, _, _, hop⟩ := op30_10_3
 refine MGo.pureT (d := 45) (v := .bool z) (T := #[ii L1, ii H1, holdsV o l, Z, Z, Z, ii 0, ii 0, ii st, ii lf, ii rt, cc c, cc e, bb z, bb y, ii H, ii L, ii (H - L), ii (H - L + 1), ii st, ii L, ii st, ii lf, ii H, ii st, ii rt, ii lf, holdsV o l, cc c, ii rt, holdsV o l, cc e, ii 1, bb true, cc c, cc e, .tuple #[ii 0, bb true, bb z, bb false], ii 0, bb true, bb false, bb z, Z, ii L1, ii H1, ii lf, bb z, Z, Z, Z, bb y, tt L1 H1, ii L, ii H, ii rt, bb y, tt L1 H1, ii L1, ii H1, ii 1, Z, Z]) hop rfl (by decide) rfl (fun u' => run_move rfl) (fun u' => evs_move) (by kernel_rfl) ?_
 clear hop
 obtain ⟨_, _, _, hop⟩ := op30_10_4
 refine MGo.enter hop rfl (by decide) (fun u' => run_call41 rfl rfl rfl rfl rfl) (fun u' => evs_call41 rfl rfl rfl rfl rfl) ?_
 clear hop
 exact h
set_option maxRecDepth 4000 in
theorem nar_h1 {L H L1 H1 L2 H2 st lf rt : Int} {c e : Nat} {y z : Bool} (h : MGo Try.prog rd Stop m own (G (top.finish (.tuple #[.int .i64 L2, .int .i64 H2])) cs) u) : MGo Try.prog rd Stop (m + 29) own (G (Frame.finish (K1 Try.f105 L H L1 H1 st lf rt o l c e y z) (.tuple #[.int .i64 L2, .int .i64 H2])) (top :: cs)) u := by
 obtain ⟨_, _, _, hop⟩ := op30_10_4
 refine MGo.endT (T := #[ii L1, ii H1, holdsV o l, Z, Z, Z, ii 0, ii 0, ii st, ii lf, ii rt, cc c, cc e, bb z, bb y, ii H, ii L, ii (H - L), ii (H - L + 1), ii st, ii L, ii st, ii lf, ii H, ii st, ii rt, ii lf, holdsV o l, cc c, ii rt, holdsV o l, cc e, ii 1, bb true, cc c, cc e, .tuple #[ii 0, bb true, bb z, bb false], ii 0, bb true, bb false, bb z, Z, ii L1, ii H1, ii lf, bb z, tt L2 H2, Z, Z, bb y, tt L1 H1, ii L, ii H, ii rt, bb y, tt L1 H1, ii L1, ii H1, ii 1, Z, Z]) hop rfl (by kernel_rfl) ?_
 clear hop
 skip
 obtain ⟨_, _, _, hop⟩ := op30_10_5
 refine MGo.pureT (d := 41) (v := .tuple #[.int .i64 L2, .int .i64 H2]) (T := #[ii L1, ii H1, holdsV o l, Z, Z, Z, ii 0, ii 0, ii st, ii lf, ii rt, cc c, cc e, bb z, bb y, ii H, ii L, ii (H - L), ii (H - L + 1), ii st, ii L, ii st, ii lf, ii H, ii st, ii rt, ii lf, holdsV o l, cc c, ii rt, holdsV o l, cc e, ii 1, bb true, cc c, cc e, .tuple #[ii 0, bb true, bb z, bb false], ii 0, bb true, bb false, bb z, tt L2 H2, ii L1, ii H1, ii lf, bb z, tt L2 H2, Z, Z, bb y, tt L1 H1, ii L, ii H, ii rt, bb y, tt L1 H1, ii L1, ii H1, ii 1, Z, Z]) hop rfl (by decide) rfl (fun u' => run_move rfl) (fun u' => evs_move) (by kernel_rfl) ?_
 clear hop
 obtain ⟨_, _, _, hop⟩ := op30_10_6
 refine MGo.pureT (d := 47) (v := .int .i64 L2) (T := #[ii L1, ii H1, holdsV o l, Z, Z, Z, ii 0, ii 0, ii st, ii lf, ii rt, cc c, cc e, bb z, bb y, ii H, ii L, ii (H - L), ii (H - L + 1), ii st, ii L, ii st, ii lf, ii H, ii st, ii rt, ii lf, holdsV o l, cc c, ii rt, holdsV o l, cc e, ii 1, bb true, cc c, cc e, .tuple #[ii 0, bb true, bb z, bb false], ii 0, bb true, bb false, bb z, tt L2 H2, ii L1, ii H1, ii lf, bb z, tt L2 H2, ii L2, Z, bb y, tt L1 H1, ii L, ii H, ii rt, bb y, tt L1 H1, ii L1, ii H1, ii 1, Z, Z]) hop rfl (by decide) rfl (fun u' => run_extract rfl rfl) (fun u' => evs_extract rfl rfl) (by kernel_rfl) ?_
 clear hop
 obtain ⟨_, _, _, hop⟩ := op30_10_7
 refine MGo.pureT (d := 48) (v := .int .i64 H2) (T := #[ii L1, ii H1, holdsV o l, Z, Z, Z, ii 0, ii 0, ii st, ii lf, ii rt, cc c, cc e, bb z, bb y, ii H, ii L, ii (H - L), ii (H - L + 1), ii st, ii L, ii st, ii lf, ii H, ii st, ii rt, ii lf, holdsV o l, cc c, ii rt, holdsV o l, cc e, ii 1, bb true, cc c, cc e, .tuple #[ii 0, bb true, bb z, bb false], ii 0, bb true, bb false, bb z, tt L2 H2, ii L1, ii H1, ii lf, bb z, tt L2 H2, ii L2, ii H2, bb y, tt L1 H1, ii L, ii H, ii rt, bb y, tt L1 H1, ii L1, ii H1, ii 1, Z, Z]) hop rfl (by decide) rfl (fun u' => run_extract rfl rfl) (fun u' => evs_extract rfl rfl) (by kernel_rfl) ?_
 clear hop
 obtain ⟨_, _, _, hop⟩ := op30_10_8
 refine MGo.pureT (d := 0) (v := .int .i64 L2) (T := #[ii L2, ii H1, holdsV o l, Z, Z, Z, ii 0, ii 0, ii st, ii lf, ii rt, cc c, cc e, bb z, bb y, ii H, ii L, ii (H - L), ii (H - L + 1), ii st, ii L, ii st, ii lf, ii H, ii st, ii rt, ii lf, holdsV o l, cc c, ii rt, holdsV o l, cc e, ii 1, bb true, cc c, cc e, .tuple #[ii 0, bb true, bb z, bb false], ii 0, bb true, bb false, bb z, tt L2 H2, ii L1, ii H1, ii lf, bb z, tt L2 H2, ii L2, ii H2, bb y, tt L1 H1, ii L, ii H, ii rt, bb y, tt L1 H1, ii L1, ii H1, ii 1, Z, Z]) hop rfl (by decide) rfl (fun u' => run_assign rfl) (fun u' => evs_assign) (by kernel_rfl) ?_
 clear hop
 obtain ⟨_, _, _, hop⟩ := op30_10_9
 refine MGo.pureT (d := 1) (v := .int .i64 H2) (T := #[ii L2, ii H2, holdsV o l, Z, Z, Z, ii 0, ii 0, ii st, ii lf, ii rt, cc c, cc e, bb z, bb y, ii H, ii L, ii (H - L), ii (H - L + 1), ii st, ii L, ii st, ii lf, ii H, ii st, ii rt, ii lf, holdsV o l, cc c, ii rt, holdsV o l, cc e, ii 1, bb true, cc c, cc e, .tuple #[ii 0, bb true, bb z, bb false], ii 0, bb true, bb false, bb z, tt L2 H2, ii L1, ii H1, ii lf, bb z, tt L2 H2, ii L2, ii H2, bb y, tt L1 H1, ii L, ii H, ii rt, bb y, tt L1 H1, ii L1, ii H1, ii 1, Z, Z]) hop rfl (by decide) rfl (fun u' => run_assign rfl) (fun u' => evs_assign) (by kernel_rfl) ?_
 clear hop
 refine MGo.ctl (fun _ => stepG_region_end) rfl rfl ?_
 refine MGo.ctl (fun _ => stepG_inBlock) rfl rfl ?_
 refine MGo.ctl (fun _ => stepG_inBlock) rfl rfl ?_
 refine MGo.ctl (fun _ => stepG_region) rfl rfl ?_
 rw [show List.range (opsAt Try.f105 13).size = [0, 1] from by kernel_rfl]
 obtain ⟨_, _, _, hop⟩ := op30_13_0
 refine MGo.pureT (d := 58) (v := .int .i64 2) (T := #[ii L2, ii H2, holdsV o l, Z, Z, Z, ii 0, ii 0, ii st, ii lf, ii rt, cc c, cc e, bb z, bb y, ii H, ii L, ii (H - L), ii (H - L + 1), ii st, ii L, ii st, ii lf, ii H, ii st, ii rt, ii lf, holdsV o l, cc c, ii rt, holdsV o l, cc e, ii 1, bb true, cc c, cc e, .tuple #[ii 0, bb true, bb z, bb false], ii 0, bb true, bb false, bb z, tt L2 H2, ii L1, ii H1, ii lf, bb z, tt L2 H2, ii L2, ii H2, bb y, tt L1 H1, ii L, ii H, ii rt, bb y, tt L1 H1, ii L1, ii H1, ii 2, Z, Z]) hop rfl (by decide) rfl (fun u' => run_add3 rfl rfl rfl ⟨by decide, by decide⟩) (fun u' => evs_bin3 rfl rfl (.inl rfl)) (by kernel_rfl) ?_
 clear hop
 obtain ⟨_, _, _, hop⟩ := op30_13_1
 refine MGo.pureT (d := 32) (v := .int .i64 2) (T := #[ii L2, ii H2, holdsV o l, Z, Z, Z, ii 0, ii 0, ii st, ii lf, ii rt, cc c, cc e, bb z, bb y, ii H, ii L, ii (H - L), ii (H - L + 1), ii st, ii L, ii st, ii lf, ii H, ii st, ii rt, ii lf, holdsV o l, cc c, ii rt, holdsV o l, cc e, ii 2, bb true, cc c, cc e, .tuple #[ii 0, bb true, bb z, bb false], ii 0, bb true, bb false, bb z, tt L2 H2, ii L1, ii H1, ii lf, bb z, tt L2 H2, ii L2, ii H2, bb y, tt L1 H1, ii L, ii H, ii rt, bb y, tt L1 H1, ii L1, ii H1, ii 2, Z, Z]) hop rfl (by decide) rfl (fun u' => run_move rfl) (fun u' => evs_move) (by kernel_rfl) ?_
 clear hop
 refine MGo.ctl (fun _ => stepG_region_end) rfl rfl ?_
 refine MGo.ctl (fun _ => stepG_inLoop) rfl rfl ?_
 refine MGo.ctl (fun _ => stepG_seq) rfl rfl ?_
 refine MGo.ctl (fun _ => stepG_region) rfl rfl ?_
 rw [show List.range (opsAt Try.f105 5).size = [0] from by kernel_rfl]
 obtain ⟨_, _, _, hop⟩ := op30_5_0
 refine MGo.pureT (d := 33) (v := .bool false) (T := #[ii L2, ii H2, holdsV o l, Z, Z, Z, ii 0, ii 0, ii st, ii lf, ii rt, cc c, cc e, bb z, bb y, ii H, ii L, ii (H - L), ii (H - L + 1), ii st, ii L, ii st, ii lf, ii H, ii st, ii rt, ii lf, holdsV o l, cc c, ii rt, holdsV o l, cc e, ii 2, bb false, cc c, cc e, .tuple #[ii 0, bb true, bb z, bb false], ii 0, bb true, bb false, bb z, tt L2 H2, ii L1, ii H1, ii lf, bb z, tt L2 H2, ii L2, ii H2, bb y, tt L1 H1, ii L, ii H, ii rt, bb y, tt L1 H1, ii L1, ii H1, ii 2, Z, Z]) hop rfl (by decide) rfl (fun u' => run_lss rfl rfl (by decide)) (fun u' => evs_bin3 rfl rfl (.inr (.inl rfl))) (by kernel_rfl) ?_
 clear hop
 refine MGo.ctl (fun _ => stepG_region_end) rfl rfl ?_
 refine MGo.ctl (fun _ => stepG_seq) rfl rfl ?_
 refine MGo.ctl (fun _ => stepG_cond (t := false) rfl) rfl rfl ?_
 refine MGo.ctl (fun _ => stepG_exit rfl) rfl rfl ?_
 refine MGo.ctl (fun _ => stepG_seq) rfl rfl ?_
 refine MGo.ctl (fun _ => stepG_region) rfl rfl ?_
 rw [show List.range (opsAt Try.f105 14).size = [0, 1, 2, 3] from by kernel_rfl]
 obtain ⟨_, _, _, hop⟩ := op30_14_0
 refine MGo.pureT (d := 59) (v := .int .i64 L2) (T := #[ii L2, ii H2, holdsV o l, Z, Z, Z, ii 0, ii 0, ii st, ii lf, ii rt, cc c, cc e, bb z, bb y, ii H, ii L, ii (H - L), ii (H - L + 1), ii st, ii L, ii st, ii lf, ii H, ii st, ii rt, ii lf, holdsV o l, cc c, ii rt, holdsV o l, cc e, ii 2, bb false, cc c, cc e, .tuple #[ii 0, bb true, bb z, bb false], ii 0, bb true, bb false, bb z, tt L2 H2, ii L1, ii H1, ii lf, bb z, tt L2 H2, ii L2, ii H2, bb y, tt L1 H1, ii L, ii H, ii rt, bb y, tt L1 H1, ii L1, ii H1, ii 2, ii L2, Z]) hop rfl (by decide) rfl (fun u' => run_move rfl) (fun u' => evs_move) (by kernel_rfl) ?_
 clear hop
 obtain ⟨_, _, _, hop⟩ := op30_14_1
 refine MGo.pureT (d := 60) (v := .int .i64 H2) (T := #[ii L2, ii H2, holdsV o l, Z, Z, Z, ii 0, ii 0, ii st, ii lf, ii rt, cc c, cc e, bb z, bb y, ii H, ii L, ii (H - L), ii (H - L + 1), ii st, ii L, ii st, ii lf, ii H, ii st, ii rt, ii lf, holdsV o l, cc c, ii rt, holdsV o l, cc e, ii 2, bb false, cc c, cc e, .tuple #[ii 0, bb true, bb z, bb false], ii 0, bb true, bb false, bb z, tt L2 H2, ii L1, ii H1, ii lf, bb z, tt L2 H2, ii L2, ii H2, bb y, tt L1 H1, ii L, ii H, ii rt, bb y, tt L1 H1, ii L1, ii H1, ii 2, ii L2, ii H2]) hop rfl (by decide) rfl (fun u' => run_move rfl) (fun u' => evs_move) (by kernel_rfl) ?_
 clear hop
 obtain ⟨_, _, _, hop⟩ := op30_14_2
 refine MGo.pureT (d := 6) (v := .int .i64 L2) (T := #[ii L2, ii H2, holdsV o l, Z, Z, Z, ii L2, ii 0, ii st, ii lf, ii rt, cc c, cc e, bb z, bb y, ii H, ii L, ii (H - L), ii (H - L + 1), ii st, ii L, ii st, ii lf, ii H, ii st, ii rt, ii lf, holdsV o l, cc c, ii rt, holdsV o l, cc e, ii 2, bb false, cc c, cc e, .tuple #[ii 0, bb true, bb z, bb false], ii 0, bb true, bb false, bb z, tt L2 H2, ii L1, ii H1, ii lf, bb z, tt L2 H2, ii L2, ii H2, bb y, tt L1 H1, ii L, ii H, ii rt, bb y, tt L1 H1, ii L1, ii H1, ii 2, ii L2, ii H2]) hop rfl (by decide) rfl (fun u' => run_assign rfl) (fun u' => evs_assign) (by kernel_rfl) ?_
 clear hop
 obtain ⟨_, _, _, hop⟩ := op30_14_3
 refine MGo.pureT (d := 7) (v := .int .i64 H2) (T := #[ii L2, ii H2, holdsV o l, Z, Z, Z, ii L2, ii H2, ii st, ii lf, ii rt, cc c, cc e, bb z, bb y, ii H, ii L, ii (H - L), ii (H - L + 1), ii st, ii L, ii st, ii lf, ii H, ii st, ii rt, ii lf, holdsV o l, cc c, ii rt, holdsV o l, cc e, ii 2, bb false, cc c, cc e, .tuple #[ii 0, bb true, bb z, bb false], ii 0, bb true, bb false, bb z, tt L2 H2, ii L1, ii H1, ii lf, bb z, tt L2 H2, ii L2, ii H2, bb y, tt L1 H1, ii L, ii H, ii rt, bb y, tt L1 H1, ii L1, ii H1, ii 2, ii L2, ii H2]) hop rfl (by decide) rfl (fun u' => run_assign rfl) (fun u' => evs_assign) (by kernel_rfl) ?_
 clear hop
 refine MGo.ctl (fun _ => stepG_region_end) rfl rfl ?_
 refine MGo.ctl (fun _ => stepG_ret') rfl rfl ?_
 exact MGo.leave rfl rfl Try.func105 (fun u' => by simp [results, Try.results105]) (fun u' => by simp [results, Try.results105]) h
end
end Go.Proofs.Ytpeoabopeihadaa.Sim
/- Goroutine 0 comes to a go statement, and one more is at work. No program of the project in this text. -/
namespace Go.Proofs.Ytpeoabopeihadaa.Sim
open Go Go.Conc
open Go.ConcN (sumTo upd sumTo_upd upd_ne upd_same)
section
variable {M : Type} {Q : Program} {lt : M → M → Prop} {wk : Bool → Wkr M} {chs : List Nat} {rd : Nat → Nat → Prop}
theorem CI.wlt {f : Bool → Bool} {o : Bool → Option M} {own : Nat → Nat → Prop} {g0 : Goroutine} {gs : Array Goroutine} {u : World} {t : Trace} {q : Nat → Nat} (h : CI Q wk f o chs own rd g0 gs u t q) {r : Bool} (hr : f r = true) : (wk r).i < gs.size := by
 have hsl := h.slot r hr
 unfold Slot at hsl
 cases e : o r with
 | some m =>
  rw [e] at hsl
  obtain ⟨g, e, _⟩ := hsl
  exact (Array.getElem?_eq_some_iff.1 e).1
 | none =>
  rw [e] at hsl
  obtain ⟨g, z, n, e, _⟩ := hsl
  exact (Array.getElem?_eq_some_iff.1 e).1
structure Hire (Q : Program) (ow rd : Nat → Prop) (g : Goroutine) (v : World) (x : Wkr M) (m : M) (g' child : Goroutine) (own0 rd0 rdw : Nat → Prop) : Prop where
 spawn : stepG Q true g v = .spawn g' child v #[]
 run : g'.status = .running
 works : x.W m (fun _ => False) child v
 hown : ∀ b, own0 b → ow b
 hrd0 : ∀ b, rd0 b → ow b ∨ rd b
 hrdw : ∀ b, rdw b → rd0 b
 apart : ∀ b, own0 b → ¬ rdw b
 c : ow x.c
 chan : ∃ k, v.heap[x.c]? = some (.chan 0 #[] false k k false)
 c0 : ¬ own0 x.c ∧ ¬ rd0 x.c
theorem spawns (hwf : WellFounded lt) {f : Bool → Bool} {o : Bool → Option M} {own : Nat → Nat → Prop} {g0 : Goroutine} {gs : Array Goroutine} {u : World} {sl : Option (Nat × Nat)} {t : Trace} {q : Nat → Nat} {n : Nat} {s : Bool} (hs : f s = false)
  {After : Wkr M → Goroutine → (Nat → Prop) → (Nat → Prop) → (Nat → Prop) → World → Prop}
  (hW : ∀ s, f s = true → Works Q lt (rd (wk s).i) (wk s)) (h : CI Q wk f o chs own rd g0 gs u t q) (hrun : g0.status = .running)
  (hM : MGo Q (rd 0) (fun ow g v => ∀ i, ∃ x m g' child own0 rd0 rdw, x.i = i ∧ Hire Q ow (rd 0) g v x m g' child own0 rd0 rdw ∧ Works Q lt rdw x ∧ After x g' own0 rd0 rdw v) n (own 0) g0 u) :
  ∃ N gs' u' sl' t' o' own' q' x m g' own0 rd0 rdw, runNT Q N (crowd gs u sl) t = (.next (crowd gs' u' sl'), t') ∧ gs'.size = gs.size + 1 ∧ x.i = gs.size ∧
   CI Q (updB wk s x) (updB f s true) (updB o' s (some m)) (x.c :: chs) (upd (upd own' x.i (fun _ => False)) 0 own0) (upd (upd rd x.i rdw) 0 rd0) g' gs' u' t' q' ∧ g'.status = .running ∧
   (∀ r, updB f s true r = true → Works Q lt ((upd (upd rd x.i rdw) 0 rd0) (updB wk s x r).i) (updB wk s x r)) ∧ After x g' own0 rd0 rdw u' := by
 obtain ⟨N, gs1, u0, u1, sl0, sl1, t1, o1, own1, g1, q1, r1, r2, r3, r4, r5, r6⟩ := to_stop hwf _ (sl := sl) hW h hrun hM rfl
 obtain ⟨x, m, g', child, own0, rd0, rdw, hx, hh, hw, ha⟩ := r6 gs1.size
 obtain ⟨gs2, ops, a1, a2, a3⟩ := r4.spawn hs hh.spawn hh.run hx hh.works hh.hown hh.hrd0 hh.hrdw hh.apart hh.c hh.chan hh.c0 sl1
 have hpos : 0 < gs1.size := (Array.getElem?_eq_some_iff.1 r4.zero).1
 refine ⟨N + 1, gs2, u1, sl1, _, o1, own1, q1, x, m, g', own0, rd0, rdw, ?_, by rw [a1, r2], by rw [hx, r2], a3, hh.run, fun r hr => ?_, ha⟩
 ·rw [runNT_add, r1]
  simp only [runNT, r3, a2]
 ·by_cases e : r = s
  ·subst e
   rw [updB_same, upd_ne _ _ (by omega), upd_same]
   exact hw
  ·rw [updB_ne _ _ e] at hr ⊢
   have h1 := r4.wlt hr
   have h2 := (r4.pos r hr).1
   rw [upd_ne _ _ (by omega), upd_ne _ _ (by omega)]
   exact hW r hr
end
end Go.Proofs.Ytpeoabopeihadaa.Sim
/- Goroutine 0's walk keeps what it only reads; goroutine 0 beside leavers; walks that lead on. No program of the project in this text. -/
namespace Go.Proofs.Ytpeoabopeihadaa.Sim
open Go Go.Conc
open Go.ConcN (sumTo upd sumTo_upd upd_ne upd_same)
section
variable {Q : Program} {rd : Nat → Prop}
structure Neat (ow rd : Nat → Prop) (v : World) : Prop where
 low : ∀ b, ow b ∨ rd b → b < v.heap.size
 apart : ∀ b, ow b → ¬ rd b
theorem Neat.keep {ow : Nat → Prop} {u v : World} (h : Neat ow rd u) (k : u.heap.size ≤ v.heap.size) : Neat ow rd v := ⟨fun b hb => Nat.lt_of_lt_of_le (h.low b hb) k, h.apart⟩
theorem Neat.gd {ow ow' : Nat → Prop} {u v : World} {es : Array Event} (h : Neat ow rd u) (k : Gd ow rd ow' u v es) : Neat ow' rd v ∧ Keeps rd u v := by
 refine ⟨⟨fun b hb => ?_, fun b hb hr => ?_⟩, ⟨k.size, fun b hb => k.other b (h.low b (.inr hb)) (fun ho => h.apart b ho hb), k.os, k.tape, k.out⟩⟩
 ·rcases hb with hb | hb
  ·rcases k.fresh b hb with hb | hb
   ·exact Nat.lt_of_lt_of_le (h.low b (.inl hb)) k.size
   ·exact hb.2
  ·exact Nat.lt_of_lt_of_le (h.low b (.inr hb)) k.size
 ·rcases k.fresh b hb with hb | hb
  ·exact h.apart b hb hr
  ·have := h.low b (.inr hr)
   omega
theorem MGo.keeps {Stop : (Nat → Prop) → Goroutine → World → Prop} : ∀ {n : Nat} {own : Nat → Prop} {g : Goroutine} {u0 u : World}, MGo Q rd Stop n own g u → Neat own rd u → Keeps rd u0 u → MGo Q rd (fun ow g v => Stop ow g v ∧ Neat ow rd v ∧ Keeps rd u0 v) n own g u
 | 0, own, g, u0, u, h, hn, k => fun v hv => ⟨h v hv, hn.keep hv.size, k.trans (hv.mono fun b hb => .inr hb)⟩
 | n + 1, own, g, u0, u, h, hn, k => h.imp (fun h v hv => ⟨h v hv, hn.keep hv.size, k.trans (hv.mono fun b hb => .inr hb)⟩) fun ⟨h1, h2⟩ => ⟨h1, fun v hv => by
  obtain ⟨g', u'', es, own', a, b, c, d⟩ := h2 v hv
  obtain ⟨n1, n2⟩ := (hn.keep hv.size).gd c
  exact ⟨g', u'', es, own', a, b, c, MGo.keeps d n1 ((k.trans (hv.mono fun b hb => .inr hb)).trans n2)⟩⟩
def Leads (Q : Program) (g gT : Goroutine) : Prop := ∃ K, ∀ (rd own : Nat → Prop) (Stop : (Nat → Prop) → Goroutine → World → Prop) (m : Nat) (u : World), MGo Q rd Stop m own gT u → MGo Q rd Stop (m + K) own g u
theorem Leads.refl (g : Goroutine) : Leads Q g g := ⟨0, fun _ _ _ _ _ h => h⟩
theorem Leads.trans {a b c : Goroutine} (h : Leads Q a b) (k : Leads Q b c) : Leads Q a c := by
 obtain ⟨K, h⟩ := h
 obtain ⟨J, k⟩ := k
 exact ⟨J + K, fun rd own Stop m u x => by rw [← Nat.add_assoc]; exact h _ _ _ _ _ (k _ _ _ _ _ x)⟩
structure Alone (Q : Program) (g0 : Goroutine) (gs : Array Goroutine) (u : World) (t : Trace) : Prop where
 zero : gs[0]? = some g0
 run : g0.status = .running
 leave : ∃ q, Leavers Q t gs q
 past : Past (fun _ => False) u.heap.size t
abbrev Old (u v : World) : Prop := Keeps (fun b => b < u.heap.size) u v
theorem Old.refl (u : World) : Old u u := Keeps.refl _ u
theorem Old.trans {u v w : World} (h : Old u v) (k : Old v w) : Old u w := Keeps.trans h (k.mono fun b hb => Nat.lt_of_lt_of_le hb h.size)
end
end Go.Proofs.Ytpeoabopeihadaa.Sim
