/- A slice's writes from behind: the iterator. -/
import Derived.Test.YtdbefnghljjieaaPu
import Derived.RangeFuncNested
import Derived.RangeFuncBound
import Derived.RangeFuncCalls
import Derived.RangeFuncLeaves
import Derived.Shelf.Abstract
import Derived.Shelf.RegionOpen
import Derived.WalkKit
import Derived.OwnWalkIn
import Derived.TacticsInMore
import Derived.LoopNIn
import Derived.LoopIn
import Derived.RangeFuncBox
namespace Go.Proofs.Ytdbefnghljjieaa
open Go.RowKit Go.Shelf
set_option linter.unusedVariables false
set_option linter.unusedSimpArgs false
attribute [local go_sem] Oper.semAt_some
theorem rd1_any (c : Nat) (at_ : Int) (q : Nat × List Nat) (hq : q.2.length = 64) (w : World) (h : w.cell? ⟨c, 0, none⟩ = some (.int .i64 at_)) (hc : c < w.heap.size) : Calls Try.prog 27 #[.agg (wrV q).toArray, .pointer (some ⟨c, 0, none⟩)] w fun e w' => e = .returned (.bool (decide ((q.1 : Int) = at_))) ∧ w' = w.alloc (.cells (wrV q).toArray 70) := by
  have hX := Blk.new w (wrV q).toArray 70
  have c0 : (w.alloc (.cells (wrV q).toArray 70)).cell? ⟨w.heap.size, 0, none⟩ = some (.int .i64 (q.1 : Int)) := range_head (ys := byv q.2) hX.rg
  have c1 := ((below1 w (.cells (wrV q).toArray 70)).cell (p := ⟨c, 0, none⟩) hc).trans h
  clear hX h
  go_enter Try.func27, Try.ntmps27
  go_wp2_with fail
  go_ret
  exact ⟨rfl, rfl⟩
section
variable {F : Fence} {n : Nat} {ops : Array Oper} {rest : List Oper} {o : Oper} {a : Act} {w : World} {Q : Exit → Act → World → Prop}
theorem load_rgIn (hgd : o.guard = none) (ty : TypeId) (x : Operand) (ho : o.op = .load ty x) {b of : Nat} {l : List Value} (hR : w.rangeAt b of l) (hx : a.eval x = .pointer (some ⟨b, of, none⟩)) (hr : isRowB Try.prog ty = true) {m : Nat} (hi : (Try.prog.info? ty).map (·.size) = some m) (hn : l.length = m)
    (h : wpListIn F n Try.prog ops Q rest (a.put o.dst (.agg l.toArray)) w) : wpListIn F n Try.prog ops Q (o :: rest) a w := by
  unfold isRowB at hr
  split at hr
  · next d hu =>
    refine wpListIn_plain hgd fun K hK => ?_
    unfold Oper.wpIn
    refine ⟨by simp [Oper.about, ho], ?_⟩
    rw [Oper.semAt_plain F _ _ (by rw [ho]; intro c hc'; cases hc')]
    have e := run_loadAt_mid (P := Try.prog) w b of ty l d hR hu hr (by rw [hi, hn])
    simp only [execOp, ho, hx, Sem.run_bind, e, Result.andThen_ok, Sem.run_pure]
    exact hK _ _ h
  · cases hr
theorem alloc_rgIn (hgd : o.guard = none) (ty : TypeId) (ho : o.op = .alloc ty) {l : List Value} (hr : ∀ w : World, (Instr.alloc ty true (.tuple #[])).run Try.prog w = .ok (.pointer (some ⟨w.heap.size, 0, none⟩)) (w.alloc (.cells l.toArray ty)))
    (h : ∀ W, Blk W w.heap.size l.toArray ty → Below w.heap.size w W → KeepsOthers w W → wpListIn F n Try.prog ops Q rest (a.put o.dst (.pointer (some ⟨w.heap.size, 0, none⟩))) W) : wpListIn F n Try.prog ops Q (o :: rest) a w := by
  refine wpListIn_plain hgd fun K hK => ?_
  unfold Oper.wpIn
  refine ⟨by simp [Oper.about, ho], ?_⟩
  rw [Oper.semAt_plain F _ _ (by rw [ho]; intro c hc'; cases hc')]
  simp only [execOp, ho, Sem.run_bind, hr, Result.andThen_ok, Sem.run_pure]
  exact hK _ _ (h _ (Blk.new _ _ _) (below1 _ _) (KeepsOthers.alloc _ _))
theorem keeps_setCells {b : Nat} : ∀ (vs : List Value) (k : Nat) (w : World), KeepsOthers w (w.setCells b k vs)
  | [], _, w => KeepsOthers.refl w
  | v :: vs, k, w => (KeepsOthers.setCell w _ v).trans (keeps_setCells vs (k + 1) _)
theorem store_cellIn (hgd : o.guard = none) (ty : TypeId) (x y : Operand) (ho : o.op = .store ty x y) {b k : Nat} {T : TypeId} {old new : Array Value} {v : Value} (hB : Blk w b old T) (hx : a.eval x = .pointer (some ⟨b, k, none⟩)) (hy : a.eval y = v) (hk : k < old.size) (hi : (Try.prog.info? ty).map (·.size) = some 1) (h1 : v.oneCell' = true) (hn : old.setIfInBounds k v = new)
    (h : ∀ W, Blk W b new T → But (fun x => x = b) w W → KeepsOthers w W → wpListIn F n Try.prog ops Q rest (a.put o.dst undef) W) : wpListIn F n Try.prog ops Q (o :: rest) a w := by
  refine wpListIn_plain hgd fun K hK => ?_
  unfold Oper.wpIn
  refine ⟨by simp [Oper.about, ho], ?_⟩
  rw [Oper.semAt_plain F _ _ (by rw [ho]; intro c hc'; cases hc')]
  simp only [execOp, ho, hx, hy, Instr.storeAt, Instr.sureAddr, Sem.run_bind, Sem.run_pure, Result.andThen_ok, run_cell (there_cell hB hk) hi h1]
  exact hK _ _ (h _ (by rw [← hn]; exact hB.set k v) (but_setCells [v] k w) (keeps_setCells [v] k w))
theorem store_allIn (hgd : o.guard = none) (ty : TypeId) (x y : Operand) (ho : o.op = .store ty x y) {b : Nat} {T : TypeId} {old : Array Value} {l : List Value} (hB : Blk w b old T) (hx : a.eval x = .pointer (some ⟨b, 0, none⟩)) (hy : a.eval y = .agg l.toArray) {m : Nat} (hi : (Try.prog.info? ty).map (·.size) = some m) (ho' : old.size = m) (hn : l.length = m) (h1 : One l)
    (h : ∀ W, Blk W b l.toArray T → But (fun k => k = b) w W → KeepsOthers w W → wpListIn F n Try.prog ops Q rest (a.put o.dst undef) W) : wpListIn F n Try.prog ops Q (o :: rest) a w := by
  refine wpListIn_plain hgd fun K hK => ?_
  unfold Oper.wpIn
  refine ⟨by simp [Oper.about, ho], ?_⟩
  rw [Oper.semAt_plain F _ _ (by rw [ho]; intro c hc'; cases hc')]
  have e := run_storeAt_mid (P := Try.prog) w b 0 ty l.toArray (hB.there (by simp [ho', hn])) (hi.trans (by simp [hn])) (all_oneCell_toArray h1)
  simp only [execOp, ho, hx, hy, Sem.run_bind, e, Result.andThen_ok, Sem.run_pure]
  exact hK _ _ (h _ (by have k := blk_setCells l 0 hB; have e := sets_all (cs := old) (vs := l.toArray) (by simp [ho', hn]); simp only [] at e; rw [e] at k; exact k) (but_setCells l 0 w) (keeps_setCells l 0 w))
end
abbrev Wt := Nat × List Nat
/-- A write with its place. -/
abbrev It := { x : Nat × Wt // x.2.2.length = 64 }
def back (zs : List It) (k : Nat) : List It := (zs.drop k).reverse
theorem back_next (zs : List It) {k : Nat} {q : It} (h : zs[k]? = some q) : back zs k = back zs (k + 1) ++ [q] := by
  unfold back
  have hk := (List.getElem?_eq_some_iff.1 h).1
  rw [List.drop_eq_getElem_cons hk, List.reverse_cons, (List.getElem?_eq_some_iff.1 h).2]
theorem back_len (zs : List It) (k : Nat) : (back zs k).length = zs.length - k := by simp [back]
set_option maxRecDepth 100000 in
set_option maxHeartbeats 2000000 in
theorem back1_in (F : Fence) (n : Nat) (h35 : F.fn 35) (hro : F.round = none) (hn : 1 ≤ n) (l Bs n₀ g cap : Nat) (zs : List It) (hz2 : zs.length ≤ 4096) (hb : g < n₀) (J Jx : List It → World → Prop)
    (hY : ∀ pre x W, J pre W → pre.length < zs.length → YieldAt F (n - 1) Try.prog l #[.int .i64 (x.1.1 : Int), .agg (wrV x.1.2).toArray] W fun e W' =>
      (e = .returned (.bool true) ∧ J (pre ++ [x]) W' ∧ Below n₀ W W') ∨ (e = .returned (.bool false) ∧ Jx (pre ++ [x]) W'))
    (W : World) (hBs : W.cell? ⟨Bs, 0, none⟩ = some (.slice (some ⟨g, 0, none⟩) zs.length cap)) (hBs2 : Bs < n₀) (hc : ∀ (j : Nat) (q : It), zs[j]? = some q → W.rangeAt g (j * 65) (wrV q.1.2)) (hj : ∀ (j : Nat) (q : It), zs[j]? = some q → q.1.1 = j) (h0 : J [] W) :
    CallsIn F n Try.prog 35 #[.func (.yield l) #[] #[], .pointer (some ⟨Bs, 0, none⟩)] W fun e W' => (∃ v, e = .returned v) ∧
      ((∃ ys, ys = back zs 0 ∧ J ys W') ∨ (∃ pre, (∃ k, pre = back zs k) ∧ Jx pre W')) := by
  have HC := hide hc
  have HJ := hide hj
  have HY := hide hY
  clear hc hj hY
  refine callsIn_of_wp Try.func35 rfl h35 ?_ hro
  simp only [Try.ntmps35, List.size_toArray, List.length_cons, List.length_nil, Nat.reduceAdd, Nat.reduceSub, Array.replicate_succ, Array.replicate_zero, List.push_toArray, List.append_toArray, List.nil_append, List.cons_append]
  gi_wp2
  gi_loopw [3] (fun i wr => ∃ k : Nat, k ≤ zs.length ∧ i = .int .i64 ((k : Int) - 1) ∧ J (back zs k) wr ∧ Below n₀ W wr)
    (fun i _ => (intOf i + 1).toNat)
  case atStart => exact ⟨zs.length, Nat.le_refl _, by first | rfl | (congr 1; rw [IntKind.wrap_i64]; omega), by simpa [back] using h0, Below.refl _ _⟩
  case round =>
    obtain ⟨k, hk, rfl, hJs, hnx⟩ := hrel
    have hbs := (hnx.cell (p := ⟨Bs, 0, none⟩) hBs2).trans hBs
    cases k with
    | succ k =>
      obtain ⟨q, hq⟩ : ∃ q, zs[k]? = some q := ⟨zs[k], by simp [show k < zs.length by omega]⟩
      have hR0 : wr.rangeAt g (k * 65) (wrV q.1.2) := fun j v hv => (hnx.cell (p := ⟨g, k * 65 + j, none⟩) hb).trans (unhide HC k q hq j v hv)
      have HR := hide hR0
      have hlen := hide (show (wrV q.1.2).length = 65 by rw [wrV_len, q.2])
      obtain ⟨fn, tmps, assign, body, hy, hR⟩ := unhide HY _ q wr hJs (by rw [back_len]; omega)
      rw [unhide HJ k q hq] at hy
      have HB := hide (back_next zs hq)
      have hi : ((k + 1 : Nat) : Int) - 1 = (k : Int) := by omega
      have hi2 : IntKind.i64.wrap ((k : Int) - 1) = (k : Int) - 1 := by rw [IntKind.wrap_i64]; omega
      have hkl : (k : Int) < (zs.length : Int) := by omega
      rw [hi]
      clear hR0 hq hi
      gi_wp2_with (refine load_rgIn rfl 70 _ rfl (unhide HR) rfl row70 size70 (unhide hlen) ?_)
      refine hR.mono ?_
      rintro e W3 (⟨rfl, hJ3, hk3⟩ | ⟨rfl, hJx3⟩)
      · gi_wp2
        go_roundw
        case rel => exact ⟨k, by omega, rfl, by rw [unhide HB]; exact hJ3, hnx.trans hk3⟩
        case measure => simp [intOf]
      · gi_wp2
        refine bodyPost_ret (results_none rfl _ _ _) rfl ?_
        exact ⟨⟨_, rfl⟩, .inr ⟨_, ⟨k, by rw [unhide HB]⟩, hJx3⟩⟩
    | zero =>
      gi_wp2
      go_end0
      exact ⟨⟨_, rfl⟩, .inl ⟨_, rfl, hJs⟩⟩
/-- Backward hands back a value that goes through the writes from behind. -/
theorem back_stops (F : Fence) (n : Nat) (h35 : F.fn 35) (hro : F.round = none) (hn : 1 ≤ n) (Bs n₀ g cap : Nat) (zs : List It) (hz2 : zs.length ≤ 4096) (w : World) (hBs : Bs < w.heap.size) (hBn : Bs < n₀) (hb : g < n₀) (hn₀ : n₀ ≤ w.heap.size)
    (hc : w.cell? ⟨Bs, 0, none⟩ = some (.slice (some ⟨g, 0, none⟩) zs.length cap)) (hr : ∀ (j : Nat) (q : It), zs[j]? = some q → w.rangeAt g (j * 65) (wrV q.1.2)) (hj : ∀ (j : Nat) (q : It), zs[j]? = some q → q.1.1 = j) :
    SeqStopsK F n Try.prog 35 #[.pointer (some ⟨Bs, 0, none⟩)] (fun x : It => #[Value.int .i64 (x.1.1 : Int), Value.agg (wrV x.1.2).toArray]) (Below n₀) (fun ys => ys = back zs 0) (fun pre => ∃ k, pre = back zs k) zs.length w := fun l J Jx W hW _ _ hY h0 =>
  back1_in F n h35 hro hn l Bs n₀ g cap zs hz2 hb J Jx hY W ((hW.cell (p := ⟨Bs, 0, none⟩) hBs).trans hc) hBn (fun j q hq i v hv => (hW.cell (p := ⟨g, j * 65 + i, none⟩) (by show g < _; omega)).trans (hr j q hq i v hv)) hj h0
set_option maxRecDepth 100000 in
set_option maxHeartbeats 1000000 in
theorem back0_in (F : Fence) (n : Nat) (h35 : F.fn 35) (hro : F.round = none) (l Bs : Nat) (x : Option Addr) (cap : Nat) (J : List It → World → Prop) (W : World) (hBs : W.cell? ⟨Bs, 0, none⟩ = some (.slice x 0 cap)) (h0 : J [] W) :
    CallsIn F n Try.prog 35 #[.func (.yield l) #[] #[], .pointer (some ⟨Bs, 0, none⟩)] W fun e W' => (∃ v, e = .returned v) ∧ J [] W' := by
  refine callsIn_of_wp Try.func35 rfl h35 ?_ hro
  simp only [Try.ntmps35, List.size_toArray, List.length_cons, List.length_nil, Nat.reduceAdd, Nat.reduceSub, Array.replicate_succ, Array.replicate_zero, List.push_toArray, List.append_toArray, List.nil_append, List.cons_append]
  gi_wp2
  gi_loopw [3] (fun i wr => i = .int .i64 (-1) ∧ J [] wr) (fun _ _ => 0)
  case atStart => exact ⟨by first | rfl | (congr 1), h0⟩
  case round =>
    obtain ⟨rfl, hJs⟩ := hrel
    gi_wp2
    go_end0
    exact ⟨⟨_, rfl⟩, hJs⟩
theorem back0_stops (F : Fence) (n : Nat) (h35 : F.fn 35) (hro : F.round = none) (Bs n₀ cap : Nat) (x : Option Addr) (w : World) (hBs : Bs < w.heap.size)
    (hc : w.cell? ⟨Bs, 0, none⟩ = some (.slice x 0 cap)) :
    SeqStopsK F n Try.prog 35 #[.pointer (some ⟨Bs, 0, none⟩)] (fun x : It => #[Value.int .i64 (x.1.1 : Int), Value.agg (wrV x.1.2).toArray]) (Below n₀) (fun ys => ys = back [] 0) (fun pre => ∃ k, pre = back [] k) 0 w := fun l J Jx W hW _ _ hY h0 =>
  (back0_in F n h35 hro l Bs x cap J W ((hW.cell (p := ⟨Bs, 0, none⟩) hBs).trans hc) h0).mono fun e W' ⟨he, hj⟩ => ⟨he, .inl ⟨_, rfl, hj⟩⟩
theorem bw_in (F : Fence) (n : Nat) (h34 : F.fn 34) (hro : F.round = none) (a : Option Addr) (len cap : Nat) (w : World) :
    CallsIn F n Try.prog 34 #[.slice a len cap] w fun e w' => e = .returned (.func (.func 35) #[] #[.pointer (some ⟨w.heap.size, 0, none⟩)]) ∧ w' = w.alloc (.cells #[.slice a len cap] 60) := by
  refine callsIn_of_wp Try.func34 rfl h34 ?_ hro
  simp only [Try.ntmps34, List.size_toArray, List.length_cons, List.length_nil, Nat.reduceAdd, Nat.reduceSub, Array.replicate_succ, Array.replicate_zero, List.push_toArray, List.append_toArray, List.nil_append, List.cons_append]
  gi_wp2
  go_ret
  exact ⟨rfl, rfl⟩
theorem items : ∀ (zs : List Wt) (k : Nat), (∀ q ∈ zs, q.2.length = 64) → ∃ zi : List It, zi.length = zs.length ∧ ∀ (j : Nat) (x : It), zi[j]? = some x → x.1.1 = k + j ∧ zs[j]? = some x.1.2
  | [], _, _ => ⟨[], rfl, fun j x h => by simp at h⟩
  | q :: r, k, h => by
    obtain ⟨zi, h1, h2⟩ := items r (k + 1) (fun y hy => h y (List.mem_cons_of_mem _ hy))
    refine ⟨⟨(k, q), h q List.mem_cons_self⟩ :: zi, by simp [h1], fun j x hx => ?_⟩
    cases j with
    | zero =>
      simp at hx
      subst hx
      exact ⟨rfl, rfl⟩
    | succ j =>
      simp at hx
      obtain ⟨e1, e2⟩ := h2 j x hx
      exact ⟨by omega, by simpa using e2⟩
end Go.Proofs.Ytdbefnghljjieaa
