/- What all loans had and have; three numbers in a block (AllowCloses, plain). -/
import Derived.Test.YtkccladbcehdbaaRa
import Derived.Test.YtkccladbcehdbaaTo
namespace Go.Proofs.Ytkccladbcehdbaa
open Go.RowKit
set_option linter.unusedVariables false
set_option linter.unusedSimpArgs false
/-- What all loans had, and have, in the stage s. -/
def hadN (c : Ch) (s : Int) : Int := if c.fr = s then c.was else 0
def hasN (c : Ch) (s : Int) : Int := if c.to = s then c.now else 0
def hadS : List Ch → Int → Int
  | [], _ => 0
  | c :: l, s => hadN c s + hadS l s
def hasS : List Ch → Int → Int
  | [], _ => 0
  | c :: l, s => hasN c s + hasS l s
theorem hadS_append (l m : List Ch) (s : Int) : hadS (l ++ m) s = hadS l s + hadS m s := by
  induction l with
  | nil => simp [hadS]
  | cons c r ih => simp only [List.cons_append, hadS, ih]; omega
theorem hasS_append (l m : List Ch) (s : Int) : hasS (l ++ m) s = hasS l s + hasS m s := by
  induction l with
  | nil => simp [hasS]
  | cons c r ih => simp only [List.cons_append, hasS, ih]; omega
theorem hadS_take (l : List Ch) {j : Nat} (h : j < l.length) (s : Int) : hadS (l.take (j + 1)) s = hadS (l.take j) s + hadN (chA l j) s := by
  rw [← take_getD (d := ⟨0, 0, 0, 0, 0⟩) h, hadS_append]
  simp [hadS]
theorem hasS_take (l : List Ch) {j : Nat} (h : j < l.length) (s : Int) : hasS (l.take (j + 1)) s = hasS (l.take j) s + hasN (chA l j) s := by
  rw [← take_getD (d := ⟨0, 0, 0, 0, 0⟩) h, hasS_append]
  simp [hasS]
theorem hadS_bd {l : List Ch} (h : AllOk l) (s : Int) : 0 ≤ hadS l s ∧ hadS l s ≤ 562949953421312 * (l.length : Int) := by
  induction l with
  | nil => simp [hadS]
  | cons c r ih =>
    have h1 := (h c List.mem_cons_self).was
    have h2 := ih (fun x hx => h x (List.mem_cons_of_mem _ hx))
    simp only [hadS, hadN, List.length_cons, Int.natCast_add]
    split <;> omega
theorem hasS_bd {l : List Ch} (h : AllOk l) (s : Int) : 0 ≤ hasS l s ∧ hasS l s ≤ 562949953421312 * (l.length : Int) := by
  induction l with
  | nil => simp [hasS]
  | cons c r ih =>
    have h1 := (h c List.mem_cons_self).now
    have h2 := ih (fun x hx => h x (List.mem_cons_of_mem _ hx))
    simp only [hasS, hasN, List.length_cons, Int.natCast_add]
    split <;> omega
/-- A change of nothing. -/
def stillC (c : Ch) : Ch := ⟨c.fr, c.fr, c.was, c.was, 0⟩
theorem close_all (l : List Ch) (s : Int) : hadS l s + putS l s 0 + putS l s 2 - putS l s 1 - putS l s 3 = hasS l s := by
  induction l with
  | nil => simp [hadS, hasS, putS]
  | cons c r ih =>
    simp only [hadS, hasS, putS]
    have e : hadN c s + putN c s 0 + putN c s 2 - putN c s 1 - putN c s 3 = hasN c s := by
      unfold hadN hasN putN
      simp only [if_true, show ((1 : Int) = 0) = False by simp, show ((2 : Int) = 0) = False by simp, show ((2 : Int) = 1) = False by simp, show ((3 : Int) = 0) = False by simp, show ((3 : Int) = 1) = False by simp, show ((3 : Int) = 2) = False by simp, if_false]
      by_cases h1 : c.fr = s
      · by_cases h2 : c.to = s
        · have : ¬ c.fr ≠ c.to := fun h => h (h1.trans h2.symm)
          simp [h1, h2]
          try omega
        · have : c.fr ≠ c.to := fun h => h2 (h.symm.trans h1)
          have h3 : ¬ s = c.to := fun e => h2 e.symm
          simp [h1, h2, h3]
      · by_cases h2 : c.to = s
        · have : c.fr ≠ c.to := fun h => h1 (h.trans h2)
          simp [h1, h2]
          try omega
        · simp [h1, h2]
    omega
theorem putS_still (l : List Ch) (s k : Int) : putS (l.map stillC) s k = 0 := by
  induction l with
  | nil => rfl
  | cons c r ih =>
    simp only [List.map_cons, putS, ih]
    unfold putN stillC
    simp
theorem still_ok {l : List Ch} (h : AllOk l) : AllOk (l.map stillC) := fun c hc => by
  obtain ⟨x, hx, rfl⟩ := List.mem_map.1 hc
  have k := h x hx
  exact ⟨k.fr, k.fr, k.was, k.was, by simp [stillC]⟩
/-- What both rolls come to. -/
theorem closes_ok {l : List Ch} (h : AllOk l) (hl : l.length ≤ 300) {r s t r' s' t' : Rw} {e e' : Int} (h1 : RollR (hadS l 1) (hadS l 2) (hadS l 3) l r s t e) (h2 : RollR (hadS l 1) (hadS l 2) (hadS l 3) (l.map stillC) r' s' t' e') :
    e = 0 ∧ e' = 0 ∧ r.z = hasS l 1 ∧ s.z = hasS l 2 ∧ t.z = hasS l 3 ∧ r' = ⟨hadS l 1, 0, 0, 0, 0, hadS l 1⟩ ∧ s' = ⟨hadS l 2, 0, 0, 0, 0, hadS l 2⟩ ∧ t' = ⟨hadS l 3, 0, 0, 0, 0, hadS l 3⟩ := by
  have b := fun s => hadS_bd h s
  have b1 := b 1
  have b2 := b 2
  have b3 := b 3
  have m1 : mayB (hadS l 1) (hadS l 2) (hadS l 3) l = true := mayB_iff.2 ⟨by omega, by omega, by omega, h⟩
  have m2 : mayB (hadS l 1) (hadS l 2) (hadS l 3) (l.map stillC) = true := mayB_iff.2 ⟨by omega, by omega, by omega, still_ok h⟩
  obtain ⟨rfl, rfl, rfl, rfl⟩ := h1.only (.inr (.inr ⟨by omega, m1, rfl, rfl, rfl, rfl⟩))
  obtain ⟨rfl, rfl, rfl, rfl⟩ := h2.only (.inr (.inr ⟨by rw [List.length_map]; omega, m2, rfl, rfl, rfl, rfl⟩))
  refine ⟨rfl, rfl, close_all l 1, close_all l 2, close_all l 3, ?_, ?_, ?_⟩ <;> simp [rwS, putS_still]
/-- Three numbers in a block. -/
def O3 (W : World) (b : Nat) (g : Nat → Int) : Prop := Blk W b #[.int .i64 (g 0), .int .i64 (g 1), .int .i64 (g 2)] 22
def set3 (g : Nat → Int) (j : Nat) (v : Int) : Nat → Int := fun i => if i = j then v else g i
theorem O3.c {W : World} {b j : Nat} {g : Nat → Int} (h : O3 W b g) (hj : j < 3) : W.cell? ⟨b, j, none⟩ = some (.int .i64 (g j)) := by
  rcases lt3 hj with rfl | rfl | rfl
  · exact Blk.at h 0 _ rfl
  · exact Blk.at h 1 _ rfl
  · exact Blk.at h 2 _ rfl
theorem O3.set {W : World} {b j : Nat} {g : Nat → Int} (h : O3 W b g) (hj : j < 3) (v : Int) : O3 (W.setCell ⟨b, j, none⟩ (.int .i64 v)) b (set3 g j v) := by
  rcases lt3 hj with rfl | rfl | rfl
  · exact Blk.set h 0 (.int .i64 v)
  · exact Blk.set h 1 (.int .i64 v)
  · exact Blk.set h 2 (.int .i64 v)
theorem O3.fz {W : World} {b : Nat} {g : Nat → Int} (h : O3 W b g) (j : Nat) : W.frozen? ⟨b, j, none⟩ = false := Blk.fz h j
def hadG (l : List Ch) (k : Nat) : Nat → Int := fun j => hadS (l.take k) ((j : Int) + 1)
def hasG (l : List Ch) (k : Nat) : Nat → Int := fun j => hasS (l.take k) ((j : Int) + 1)
theorem hadG_next {l : List Ch} {k j : Nat} (hk : k < l.length) (h : (chA l k).fr = (j : Int) + 1) : set3 (hadG l k) j (hadG l k j + (chA l k).was) = hadG l (k + 1) := by
  funext i
  unfold set3 hadG
  rw [hadS_take l hk]
  unfold hadN
  by_cases e : i = j
  · subst e; rw [if_pos rfl, if_pos h]
  · rw [if_neg e, if_neg (by rw [h]; omega)]; omega
theorem hasG_next {l : List Ch} {k j : Nat} (hk : k < l.length) (h : (chA l k).to = (j : Int) + 1) : set3 (hasG l k) j (hasG l k j + (chA l k).now) = hasG l (k + 1) := by
  funext i
  unfold set3 hasG
  rw [hasS_take l hk]
  unfold hasN
  by_cases e : i = j
  · subst e; rw [if_pos rfl, if_pos h]
  · rw [if_neg e, if_neg (by rw [h]; omega)]; omega
/-- A row of elements owned, beside blocks that are written. -/
structure OwnG (B : Nat) (wr : World) (v : Value) (l : List (List Value)) : Prop where
  owns : wr.ownsRow B 47 5 v l.length l.flatten
  fit : Fit 5 l
theorem OwnG.keep {B : Nat} {wr w' : World} {v : Value} {l : List (List Value)} (h : OwnG B wr v l) (hb : ∀ g, g < wr.heap.size → B ≤ g → w'.heap[g]? = wr.heap[g]?) : OwnG B w' v l := by
  obtain ⟨⟨h2, h3⟩, h4⟩ := h
  refine ⟨⟨h2, ?_⟩, h4⟩
  rcases h3 with h3 | ⟨g, cap, cur, e1, e2, e3, e4⟩
  · exact Or.inl h3
  · exact Or.inr ⟨g, cap, cur, e1, e2, (hb g (Array.getElem?_eq_some_iff.1 e3).1 e2).trans e3, e4⟩
theorem OwnG.below {B : Nat} {wr w' : World} {v : Value} {l : List (List Value)} (h : OwnG B wr v l) (hb : Below wr.heap.size wr w') : OwnG B w' v l := h.keep (fun g hg _ => hb.block g hg)
theorem OwnG.set {B : Nat} {wr : World} {v u : Value} {l : List (List Value)} {b j : Nat} (h : OwnG B wr v l) (hb : b < B) : OwnG B (wr.setCell ⟨b, j, none⟩ u) v l := h.keep (fun g _ hB => Go.heap_setCell_other wr ⟨b, j, none⟩ g u (by show g ≠ b; omega))
theorem OwnG.row {B : Nat} {wr : World} {v : Value} {l : List (List Value)} (h : OwnG B wr v l) : RowG 5 wr v l := by
  obtain ⟨h1, h2⟩ := h.owns
  rcases h2 with ⟨rfl, h0⟩ | ⟨g, cap, cur, rfl, _, _, h5, h6, _⟩
  · exact Or.inl ⟨none, 0, rfl, List.eq_nil_of_length_eq_zero h0, fun _ => rfl⟩
  · by_cases h0 : l.length = 0
    · rw [h0]; exact Or.inl ⟨_, cap, rfl, List.eq_nil_of_length_eq_zero h0, fun c => (by cases c)⟩
    · refine Or.inr ⟨g, 0, cap, rfl, by omega, h5, h6, fun j hj t ht => ?_, h.fit⟩
      have hlt : j * 5 + t < l.length * 5 := by omega
      rw [Nat.zero_add, h.owns.cellAt (j * 5 + t) (by omega)]
      exact flat_at h.fit j t hj ht
theorem info47 : (Try.prog.info? 47).map (fun i => (i.zero, i.size, i.bytes)) = some (some (.agg #[.int .i64 0, .int .i64 0, .int .i64 0, .int .i64 0, .int .i64 0]), 5, 40) := by kernel_rfl
theorem pushO {ops : Array Oper} {rest : List Oper} {o : Oper} {a : Act} {Q : Exit → Act → World → Prop}
    (hgd : o.guard = none) (s x : Operand) (ho : o.op = .call { callee := .builtin .append, args := #[s, x], argTypes := #[23, 23] })
    (B : Nat) (wr : World) (v : Value) (l k : List (List Value)) {ad : Addr} {c n : Nat} (hG : OwnG B wr v l) (hB : B ≤ wr.heap.size) (hs : a.eval s = v) (hn : n = k.length) (hk : 0 < k.length) (hx : a.eval x = .slice (some ad) n c)
    (hc : ∀ j u, k.flatten[j]? = some u → wr.cell? (ad.add j) = some u) (hf : Fit 5 k) (hlen : l.length + k.length ≤ 1000000)
    (h : ∀ v' w', OwnG B w' v' (l ++ k) → wr.grownBy w' v.ownBlock → wpList Try.prog ops Q rest (a.put o.dst v') w') : wpList Try.prog ops Q (o :: rest) a wr := by
  obtain ⟨i0, hi, hz0, hz1, hz2⟩ := info_parts info47
  have hb2 : (l.length + k.length) * 40 ≤ 140737488355328 := Nat.le_trans (Nat.mul_le_mul hlen (Nat.le_refl _)) (by decide)
  subst hn
  refine wpList_append_lies _ hgd s x 23 ho B 47 i0 _ 5 40 Try.underlying23 hi hz0 hz1 hz2 rfl (by decide) v l.length _ hs hG.owns ad k.length c k.flatten hx (flat_len hf) hc (flat_one hf) hk (by unfold maxLen; omega) hb2 hB wr.heap.size rfl ?_
  intro g cap w' hown hgrow hg _
  refine h _ w' ⟨?_, hG.fit.append hf⟩ hgrow
  rw [List.flatten_append, List.length_append]
  exact hown
end Go.Proofs.Ytkccladbcehdbaa
