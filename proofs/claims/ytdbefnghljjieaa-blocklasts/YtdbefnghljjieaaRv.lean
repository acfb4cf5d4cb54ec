/- Regions that draw. -/
import Derived.Test.YtdbefnghljjieaaSt
import Derived.BigQuiet
namespace Go.Proofs.Ytdbefnghljjieaa
open Go.RowKit
set_option linter.unusedVariables false
set_option linter.unusedSimpArgs false
section
variable {ops : Array Oper} {Q : Exit → Act → World → Prop} {md : Region.Mode} {S : World → Prop} {fuel : Nat} {listed : Array Bool} {a : Act} {w : World}
theorem anyH_at {i : Nat} {oi : Oper} {v : Value} (d : Nat) (hi : ops[i]? = some oi) (hd : oi.dst = some d)
    (hs : Region.noSelect ops = true) (hf : Region.free md ops listed i = true) (hr : (Region.ready md ops listed).contains i = true)
    (hQ : ∀ c a w, Q (.panic c) (a.put (some d) v) w → Q (.panic c) a w) (hy : YieldsIf Try.prog ops S oi v a) (hS : S w)
    (h : wpAnyH Try.prog md ops Q S fuel (listed.setIfInBounds i true) (a.put (some d) v) w) : wpAnyH Try.prog md ops Q S (fuel + 1) listed a w := by
  rw [← hd] at h
  exact wpAnyH_take hi hs hf hr (by rw [hd]; exact hQ) hy hS h
theorem anyH_op {i : Nat} {o : Oper} (hr : Region.ready md ops listed = [i]) (ho : ops[i]? = some o) (hg : o.guard = none) (h : o.wp Try.prog a w (fun a' w' => S w' ∧ wpAnyH Try.prog md ops Q S fuel (listed.setIfInBounds i true) a' w') Q) : wpAnyH Try.prog md ops Q S (fuel + 1) listed a w :=
  wpAnyH_all hr (by simp) (fun j hj => by
    have e : j = i := by simpa using hj
    subst e
    refine wpOp_step ho (fun K' hK => ?_)
    rw [if_pos (by simp [Region.wanted, hg])]
    exact Oper.wp_mono hK h)
theorem anyH_two {i j : Nat} {o q : Oper} (hr : Region.ready md ops listed = [i, j]) (ho : ops[i]? = some o) (hg : o.guard = none) (ho' : ops[j]? = some q) (hg' : q.guard = none) (h : o.wp Try.prog a w (fun a' w' => S w' ∧ wpAnyH Try.prog md ops Q S fuel (listed.setIfInBounds i true) a' w') Q) (h' : q.wp Try.prog a w (fun a' w' => S w' ∧ wpAnyH Try.prog md ops Q S fuel (listed.setIfInBounds j true) a' w') Q) : wpAnyH Try.prog md ops Q S (fuel + 1) listed a w :=
  wpAnyH_all hr (by simp) (fun k hk => by
    have e : k = i ∨ k = j := by simpa using hk
    rcases e with rfl | rfl
    · refine wpOp_step ho (fun K' hK => ?_)
      rw [if_pos (by simp [Region.wanted, hg])]
      exact Oper.wp_mono hK h
    · refine wpOp_step ho' (fun K' hK => ?_)
      rw [if_pos (by simp [Region.wanted, hg'])]
      exact Oper.wp_mono hK h')
theorem anyH_storem {i : Nat} {op : Oper} (hr : Region.ready md ops listed = [i]) (ho : ops[i]? = some op) (hg : op.guard = none) (ty : TypeId) (x y : Operand) (hop : op.op = .store ty x y) {b o : Nat} {T : TypeId} {old : Array Value} {l : List Value} (hB : Blk w b old T) (hx : a.eval x = .pointer (some ⟨b, o, none⟩)) (hy : a.eval y = .agg l.toArray) {n : Nat} (hi : (Try.prog.info? ty).map (·.size) = some n) (ho' : o + n ≤ old.size) (hn : l.length = n) (h1 : One l)
    (h : ∀ W, Blk W b (setsN old o l) T → But (fun k => k = b) w W → S W ∧ wpAnyH Try.prog md ops Q S fuel (listed.setIfInBounds i true) (a.put op.dst undef) W) : wpAnyH Try.prog md ops Q S (fuel + 1) listed a w :=
  anyH_op hr ho hg (storeO_mid ty x y hop hB hx hy hi ho' hn h1 h)
end
theorem noPanic_out {Q : Exit → Act → World → Prop} {a : Act} {w : World} (h : Q .normal a w) : NoPanic Q .normal a w := h
theorem but_drew {F : Nat → Prop} {a w : World} (h : But F a w) : But F a w.drew := ⟨h.os, h.tape, h.output, h.size, h.block⟩
theorem but_alloc (F : Nat → Prop) (w : World) (o : Obj) : But F w (w.alloc o) := but_of (below1 w o) F
end Go.Proofs.Ytdbefnghljjieaa
