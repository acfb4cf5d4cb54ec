/- New blocks as letters; the fates come true. -/
import Derived.Test.YtdbefnghljjieaaSe
namespace Go.Proofs.Ytdbefnghljjieaa
open Go.RowKit
set_option linter.unusedVariables false
set_option linter.unusedSimpArgs false
theorem alloc_rg {ops : Array Oper} {rest : List Oper} {o : Oper} {a : Act} {w : World} {Q : Exit → Act → World → Prop} (hgd : o.guard = none) (ty : TypeId) (ho : o.op = .alloc ty) {l : List Value} (hr : ∀ w : World, (Instr.alloc ty true (.tuple #[])).run Try.prog w = .ok (.pointer (some ⟨w.heap.size, 0, none⟩)) (w.alloc (.cells l.toArray ty)))
    (h : ∀ W, Blk W w.heap.size l.toArray ty → Below w.heap.size w W → wpList Try.prog ops Q rest (a.put o.dst (.pointer (some ⟨w.heap.size, 0, none⟩))) W) : wpList Try.prog ops Q (o :: rest) a w := by
  refine wpList_plain hgd fun K hK => ?_
  unfold Oper.wp execOp
  simp only [ho, Sem.run_bind, hr, Result.andThen_ok, Sem.run_pure]
  exact hK _ _ (h _ (Blk.new _ _ _) (below1 _ _))
theorem box_rg {ops : Array Oper} {rest : List Oper} {o : Oper} {a : Act} {w : World} {Q : Exit → Act → World → Prop} (hgd : o.guard = none) (ty : TypeId) (x : Operand) (ho : o.op = .box ty x) {l : List Value} (hx : a.eval x = .agg l.toArray)
    (h : ∀ W, Blk W w.heap.size l.toArray ty → Below w.heap.size w W → wpList Try.prog ops Q rest (a.put o.dst (.pointer (some ⟨w.heap.size, 0, none⟩))) W) : wpList Try.prog ops Q (o :: rest) a w := by
  refine wpList_plain hgd fun K hK => ?_
  unfold Oper.wp execOp
  have hr : (Instr.box ty (.agg l.toArray)).run Try.prog w = .ok (.pointer (some ⟨w.heap.size, 0, none⟩)) (w.alloc (.cells l.toArray ty)) := rfl
  simp only [ho, hx, Sem.run_bind, hr, Result.andThen_ok, Sem.run_pure]
  exact hK _ _ (h _ (Blk.new _ _ _) (below1 _ _))
theorem box_1 {ops : Array Oper} {rest : List Oper} {o : Oper} {a : Act} {w : World} {Q : Exit → Act → World → Prop} (hgd : o.guard = none) (ty : TypeId) (x : Operand) (ho : o.op = .box ty x) {v : Value} (hx : a.eval x = v) (hv : v.cells = #[v])
    (h : ∀ W, Blk W w.heap.size #[v] ty → Below w.heap.size w W → wpList Try.prog ops Q rest (a.put o.dst (.pointer (some ⟨w.heap.size, 0, none⟩))) W) : wpList Try.prog ops Q (o :: rest) a w := by
  refine wpList_plain hgd fun K hK => ?_
  unfold Oper.wp execOp
  have hr : (Instr.box ty v).run Try.prog w = .ok (.pointer (some ⟨w.heap.size, 0, none⟩)) (w.alloc (.cells v.cells ty)) := rfl
  simp only [ho, hx, Sem.run_bind, hr, Result.andThen_ok, Sem.run_pure]
  rw [hv]
  exact hK _ _ (h _ (Blk.new _ _ _) (below1 _ _))
theorem al37 (w : World) : (Instr.alloc 37 true (.tuple #[])).run Try.prog w = .ok (.pointer (some ⟨w.heap.size, 0, none⟩)) (w.alloc (.cells (byv zs64).toArray 37)) := by kernel_rfl
theorem al45 (w : World) : (Instr.alloc 45 true (.tuple #[])).run Try.prog w = .ok (.pointer (some ⟨w.heap.size, 0, none⟩)) (w.alloc (.cells (byv zs64).toArray 45)) := by kernel_rfl
theorem al70 (w : World) : (Instr.alloc 70 true (.tuple #[])).run Try.prog w = .ok (.pointer (some ⟨w.heap.size, 0, none⟩)) (w.alloc (.cells (wrV (0, zs64)).toArray 70)) := by kernel_rfl
theorem al66 (w : World) : (Instr.alloc 66 true (.tuple #[])).run Try.prog w = .ok (.pointer (some ⟨w.heap.size, 0, none⟩)) (w.alloc (.cells (wrV (0, zs64)).toArray 66)) := by kernel_rfl
theorem al4 (w : World) : (Instr.alloc 4 true (.tuple #[])).run Try.prog w = .ok (.pointer (some ⟨w.heap.size, 0, none⟩)) (w.alloc (.cells [Value.bool false].toArray 4)) := by kernel_rfl
/-- The fates come true. -/
def runS (fs : Nat → Nat) : Nat → List (Nat × List Nat) → Stt → Stt
  | _, [], A => A
  | i, q :: r, A => runS fs (i + 1) r (setL (fs i) q A)
theorem runS_append (fs : Nat → Nat) (l m : List (Nat × List Nat)) : ∀ (i : Nat) (A : Stt), runS fs i (l ++ m) A = runS fs (i + l.length) m (runS fs i l A) := by
  induction l with
  | nil => intro i A; rfl
  | cons q r ih => intro i A; rw [List.cons_append, runS, ih, runS, List.length_cons, show i + 1 + r.length = i + (r.length + 1) by omega]
theorem runS_next (fs : Nat → Nat) (l : List (Nat × List Nat)) (A : Stt) {k : Nat} {q : Nat × List Nat} (h : l[k]? = some q) : runS fs 0 (l.take (k + 1)) A = setL (fs k) q (runS fs 0 (l.take k) A) := by
  have hk : k < l.length := (List.getElem?_eq_some_iff.1 h).1
  rw [List.take_add_one, h, runS_append, List.length_take, Nat.min_eq_left (by omega), Nat.zero_add]
  rfl
theorem setL_W (f : Nat) (q : Nat × List Nat) (A : Stt) : (setL f q A).W = A.W := by
  unfold setL
  split
  · rfl
  · split <;> rfl
theorem setL_len (f : Nat) (q : Nat × List Nat) (A : Stt) : (setL f q A).L.length = A.L.length := by
  unfold setL
  split
  · exact List.length_set
  · split
    · exact List.length_set
    · rfl
theorem runS_W (fs : Nat → Nat) (l : List (Nat × List Nat)) : ∀ (i : Nat) (A : Stt), (runS fs i l A).W = A.W := by
  induction l with
  | nil => intro i A; rfl
  | cons q r ih => intro i A; rw [runS, ih, setL_W]
theorem runS_len (fs : Nat → Nat) (l : List (Nat × List Nat)) : ∀ (i : Nat) (A : Stt), (runS fs i l A).L.length = A.L.length := by
  induction l with
  | nil => intro i A; rfl
  | cons q r ih => intro i A; rw [runS, ih, setL_len]
def crashS (fs : Nat → Nat) (A : Stt) : Stt := runS fs 0 A.W ⟨A.L, []⟩
section
variable {Y : Lay} {w w' : World} {bs bp : Nat} {vq : Value} {A : Stt}
/-- The queue's value is another one. -/
theorem Sto.queue (h : Sto Y w bs bp vq A) {v' : Value} {W : List (Nat × List Nat)} (hs : Blk w' bs #[.slice (some ⟨bp, 0, none⟩) A.L.length A.L.length, v'] Y.TS) (hp : Blk w' bp ((A.L.map Y.pc).flatten).toArray Y.TP) (hq : w'.ownsRow 0 Y.TW 65 v' W.length (W.map wrV).flatten) (n2 : v'.ownBlock ≠ some bs) (n3 : v'.ownBlock ≠ some bp) (hw : ∀ q ∈ W, q.1 < A.L.length ∧ q.2.length = 64) (hn : W.length ≤ 4096) : Sto Y w' bs bp v' ⟨A.L, W⟩ :=
  ⟨hs, hp, hq, h.n1, n2, n3, ⟨h.good.n0, h.good.n1, h.good.l, hw, hn⟩⟩
theorem Blk.set1 {w : World} {b : Nat} {x y : Value} {T : TypeId} (h : Blk w b #[x, y] T) (v : Value) : Blk (w.setCell ⟨b, 1, none⟩ v) b #[x, v] T := h.set 1 v
theorem but_setCell (w : World) (b o : Nat) (v : Value) : But (fun k => k = b) w (w.setCell ⟨b, o, none⟩ v) := ⟨rfl, rfl, rfl, by simp [World.setCell], fun k _ hk => Below.heap_setCell w _ v k hk⟩
theorem Sto.clear (h : Sto Y w bs bp vq A) : Sto Y (w.setCell ⟨bs, 1, none⟩ (.slice none 0 0)) bs bp (.slice none 0 0) ⟨A.L, []⟩ := by
  have hb := but_setCell w bs 1 (.slice none 0 0)
  exact h.queue (h.s.set1 _) (hb.blk h.p (fun e => h.n1 e.symm)) (World.ownsRow_nil _ _ _ _) (fun c => by cases c) (fun c => by cases c) (fun q hq => by cases hq) (by simp)
end
end Go.Proofs.Ytdbefnghljjieaa
