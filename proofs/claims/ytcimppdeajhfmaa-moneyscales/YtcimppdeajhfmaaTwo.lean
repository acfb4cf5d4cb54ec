/- Two rows of numbers that a call builds side by side, by append; and the arithmetic of weights so many times as great. -/
import Derived.Test.YtcimppdeajhfmaaOpen
import Derived.Deep.AppendLies
namespace Go.Proofs.Ytcimppdeajhfmaa
open Go.RowKit
/-- Since the world w, below its end nothing has turned; v and u own the numbers zs and ys, in two rows of their own, in blocks below F. -/
structure Two (w W : World) (F : Nat) (v u : Value) (zs ys : List Int) : Prop where
  below : Below w.heap.size w W
  own1 : W.ownsRow w.heap.size 2 1 v zs.length (zs.map (Value.int .i64))
  own2 : W.ownsRow w.heap.size 2 1 u ys.length (ys.map (Value.int .i64))
  apart : ∀ k, v.ownBlock = some k → u.ownBlock = some k → False
  low1 : ∀ k, v.ownBlock = some k → k < F
  low2 : ∀ k, u.ownBlock = some k → k < F
  high : F ≤ W.heap.size
  small1 : ∀ z ∈ zs, In64 z
  small2 : ∀ z ∈ ys, In64 z
theorem Two.swap {w W : World} {F : Nat} {v u : Value} {zs ys : List Int} (h : Two w W F v u zs ys) : Two w W F u v ys zs :=
  ⟨h.below, h.own2, h.own1, fun k a b => h.apart k b a, h.low2, h.low1, h.high, h.small2, h.small1⟩
theorem Two.alloc {w W : World} {F : Nat} {v u : Value} {zs ys : List Int} (h : Two w W F v u zs ys) (o : Obj) : Two w (W.alloc o) F v u zs ys :=
  ⟨h.below.alloc h.below.size o, h.own1.alloc o, h.own2.alloc o, h.apart, h.low1, h.low2, by have := h.high; simp; omega, h.small1, h.small2⟩
theorem Two.drew {w W : World} {F : Nat} {v u : Value} {zs ys : List Int} (h : Two w W F v u zs ys) : Two w W.drew F v u zs ys :=
  ⟨h.below.drew, h.own1, h.own2, h.apart, h.low1, h.low2, h.high, h.small1, h.small2⟩
theorem Two.top {w W : World} {F : Nat} {v u : Value} {zs ys : List Int} (h : Two w W F v u zs ys) : Two w W W.heap.size v u zs ys :=
  ⟨h.below, h.own1, h.own2, h.apart, fun k hk => (h.own1.lt k hk).2, fun k hk => (h.own2.lt k hk).2, Nat.le_refl _, h.small1, h.small2⟩
theorem Two.nil (w : World) : Two w w w.heap.size (.slice none 0 0) (.slice none 0 0) [] [] :=
  ⟨Below.refl _ _, World.ownsRow_nil _ _ _ _, World.ownsRow_nil _ _ _ _, fun k h => by simp [Value.ownBlock] at h, fun k h => by simp [Value.ownBlock] at h, fun k h => by simp [Value.ownBlock] at h, Nat.le_refl _, fun z hz => (by cases hz), fun z hz => (by cases hz)⟩
theorem Two.row1 {w W : World} {F : Nat} {v u : Value} {zs ys : List Int} (h : Two w W F v u zs ys) (hm : zs.length ≤ maxLen) : Row W v zs := by
  obtain ⟨h1, h2⟩ := h.own1
  rcases h2 with ⟨rfl, h0⟩ | ⟨g, cap, cur, rfl, _⟩
  · exact Or.inl ⟨none, 0, rfl, List.eq_nil_of_length_eq_zero h0⟩
  · by_cases h0 : zs.length = 0
    · rw [h0]; exact Or.inl ⟨_, cap, rfl, List.eq_nil_of_length_eq_zero h0⟩
    · refine Or.inr ⟨g, 0, cap, rfl, by omega, hm, fun j hj => ?_, h.small1⟩
      rw [Nat.zero_add, h.own1.cellAt j (by omega)]
      simp [List.getD, hj]
/-- One number more at the first of two rows, at a step of a statement that leaves its order open. -/
theorem step_two {ops : Array Oper} {o : Oper} {a : Act} {K : Act → World → Prop} {Q : Exit → Act → World → Prop} {E : Prop} (hgd : o.guard = none) (s x : Operand)
    (ho : o.op = .call { callee := .builtin .append, args := #[s, x], argTypes := #[29, 29] })
    (w W : World) (F : Nat) (v u : Value) (zs ys : List Int) (z : Int) (X : Nat) (hs : a.eval s = v) (hx : a.eval x = .slice (some ⟨X, 0, none⟩) 1 1)
    (hT : Two w W F v u zs ys) (hc : W.cell? ⟨X, 0, none⟩ = some (.int .i64 z)) (hlen : zs.length ≤ 1000000) (hz : In64 z)
    (h : ∀ v' W', Two w W' W'.heap.size v' u (zs ++ [z]) ys → (∀ b i, F ≤ b → b < W.heap.size → W'.cell? ⟨b, i, none⟩ = W.cell? ⟨b, i, none⟩) → K (a.put o.dst v') W') :
    if Region.wanted o (yielded ops a.tmps) = true then Oper.wp Try.prog o a W K Q else E := by
  obtain ⟨i0, hi, hz0, hz1, hz2⟩ := info_parts Try.info2
  refine step_append_lies _ hgd s x 29 ho w.heap.size 2 i0 (.int .i64 0) 1 8 Try.underlying29 hi hz0 hz1 hz2 rfl (by decide) v zs.length _ hs hT.own1 ⟨X, 0, none⟩ 1 1 [.int .i64 z] hx rfl ?_ ?_ (by decide) (by unfold maxLen; omega) (by omega) hT.below.size W.heap.size rfl ?_
  · intro j y hj
    match j, hj with
    | 0, hj => simp at hj; subst hj; simpa [Addr.add] using hc
  · intro y hy; simp at hy; subst hy; rfl
  · intro g cap W' hown hgrow hat hlt
    have hb : Below w.heap.size w W' := hT.below.grown hgrow hT.below.size (fun k hk => (hT.own1.lt k hk).1)
    have hne : u.ownBlock = none ∨ u.ownBlock ≠ v.ownBlock := by
      cases hu : u.ownBlock with
      | none => exact Or.inl rfl
      | some k => exact Or.inr (fun e => hT.apart k e.symm hu)
    refine h _ W' ⟨hb, by simpa using hown, hT.own2.kept hgrow hne, ?_, ?_, ?_, Nat.le_refl _, ?_, hT.small2⟩ ?_
    · intro k h1 h2
      simp [Value.ownBlock] at h1
      subst h1
      rcases hat with hat | hat
      · exact hT.apart g hat h2
      · have := (hT.own2.lt g h2).2; omega
    · intro k h1
      simp [Value.ownBlock] at h1
      omega
    · intro k h2
      have := (hT.own2.lt k h2).2
      have := hgrow.size
      omega
    · intro y hy
      rcases List.mem_append.1 hy with hy | hy
      · exact hT.small1 y hy
      · simp at hy; subst hy; exact hz
    · intro b i hF hbW
      refine hgrow.cell_far ⟨b, i, none⟩ hbW (fun e => ?_)
      have := hT.low1 b e.symm
      omega
theorem cell_new (W : World) (z : Int) : (W.alloc (.cells #[.int .i64 z] 2)).cell? ⟨W.heap.size, 0, none⟩ = some (.int .i64 z) := by
  rw [World.cell?_alloc_at _ _ _ _ rfl]; rfl
theorem cell_new_past (W : World) (z : Int) (o : Obj) : ((W.alloc (.cells #[.int .i64 z] 2)).alloc o).cell? ⟨W.heap.size, 0, none⟩ = some (.int .i64 z) := by
  rw [World.cell?_alloc_past _ _ _ (by simp), cell_new]
theorem cell_new_next (W : World) (z : Int) (o : Obj) : ((W.alloc o).alloc (.cells #[.int .i64 z] 2)).cell? ⟨W.heap.size + 1, 0, none⟩ = some (.int .i64 z) := by
  rw [World.cell?_alloc_at _ _ _ _ (by simp)]; rfl
/-- A negative is parted into the negatives. -/
theorem part_neg (n : Int) (ws : List Int) (j : Nat) : part (-n) ws j = -part n ws j := by
  unfold part giveAt
  rw [leftOf_neg, Int.natAbs_neg, sh_neg]
  by_cases h0 : leftOf n ws = 0
  · rw [h0, if_neg (by simp)]; omega
  · have hs : sgn (-leftOf n ws) = -sgn (leftOf n ws) := by
      unfold sgn
      by_cases h1 : leftOf n ws < 0
      · rw [if_pos h1, if_neg (by omega)]; omega
      · rw [if_neg h1, if_pos (by omega)]
    rw [hs]
    split <;> omega
/-- Weights c times as great. -/
def times (c : Int) (ws : List Int) : List Int := ws.map fun v => v * c
theorem times_len (c : Int) (ws : List Int) : (times c ws).length = ws.length := by simp [times]
theorem times_at (c : Int) (ws : List Int) (j : Nat) : (times c ws).getD j 0 = ws.getD j 0 * c := by
  unfold times
  simp only [List.getD_eq_getElem?_getD, List.getElem?_map]
  cases ws[j]? <;> simp
theorem times_total (c : Int) (ws : List Int) : total (times c ws) = total ws * c := by
  induction ws with
  | nil => simp [times, total]
  | cons v r ih =>
    have e : total (times c (v :: r)) = v * c + total (times c r) := rfl
    rw [e, ih]
    show _ = (v + total r) * c
    rw [Int.add_mul]
theorem times_nz {c : Int} (hc : c ≠ 0) (ws : List Int) (k : Nat) : nz (times c ws) k = nz ws k := by
  unfold nz times
  rw [← List.map_take, List.filter_map, List.length_map]
  congr 1
  refine List.filter_congr (fun v _ => ?_)
  show (v * c != 0) = (v != 0)
  by_cases hv : v = 0
  · rw [hv, Int.zero_mul]
  · rw [bne_iff_ne.2 hv, bne_iff_ne.2 (Int.mul_ne_zero hv hc)]
theorem times_sh {c : Int} (hc : 0 < c) (n : Int) (ws : List Int) (j : Nat) : sh n (times c ws) j = sh n ws j := by
  unfold sh
  rw [times_at, times_total, ← Int.mul_assoc, Int.mul_tdiv_mul_of_pos_left _ _ hc]
theorem times_left {c : Int} (hc : 0 < c) (n : Int) (ws : List Int) : leftOf n (times c ws) = leftOf n ws := by
  unfold leftOf
  rw [times_len, sumTo_congr _ (fun j _ => times_sh hc n ws j)]
theorem times_part {c : Int} (hc : 0 < c) (n : Int) (ws : List Int) (j : Nat) : part n (times c ws) j = part n ws j := by
  have h0 : ws.getD j 0 * c ≠ 0 ↔ ws.getD j 0 ≠ 0 := by
    constructor
    · intro h e; exact h (by rw [e, Int.zero_mul])
    · intro h; exact Int.mul_ne_zero h (by omega)
  unfold part giveAt
  rw [times_left hc, times_len, times_sh hc, times_nz (by omega), times_at]
  simp only [h0]
theorem times_partL {c : Int} (hc : 0 < c) (n : Int) (ws : List Int) : partL n (times c ws) = partL n ws := by
  unfold partL
  rw [times_len]
  exact List.map_congr_left (fun j _ => times_part hc n ws j)
end Go.Proofs.Ytcimppdeajhfmaa
