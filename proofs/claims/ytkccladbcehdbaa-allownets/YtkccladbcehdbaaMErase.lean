/- A row of a call's own from which one number is taken out, the later ones moved down; and why sums by turns of sign never go round on the way. -/
import Derived.Test.YtkccladbcehdbaaMCopy
import Derived.Deep.MidRow
namespace Go.Proofs.Ytkccladbcehdbaa.Mn
open Go.RowKit
structure Cells (w wr : World) (g cap : Nat) (ys : List Int) : Prop where
  below : Below w.heap.size w wr
  base : w.heap.size ≤ g
  room : ys.length ≤ cap
  cell : ∀ j, j < ys.length → wr.cell? ⟨g, j, none⟩ = some (.int .i64 (ys.getD j 0))
  there : ∀ j, j < cap → (wr.cell? ⟨g, j, none⟩).isSome = true
  free : ∀ j, wr.frozen? ⟨g, j, none⟩ = false
  small : ∀ y ∈ ys, In64 y
theorem Cells.drew {w wr : World} {g cap : Nat} {ys : List Int} (h : Cells w wr g cap ys) : Cells w wr.drew g cap ys :=
  ⟨h.below.drew, h.base, h.room, h.cell, h.there, h.free, h.small⟩
theorem Grow.cells {w wr : World} {v : Value} {zs : List Int} (h : Grow 2 w wr v zs) (h0 : 0 < zs.length) : ∃ g cap, v = .slice (some ⟨g, 0, none⟩) zs.length cap ∧ Cells w wr g cap zs := by
  have ho := h.owns
  rcases ho.2 with ⟨_, h1⟩ | ⟨g, cap, cur, rfl, hb, hg, hnc, _, hcs, _⟩
  · omega
  · refine ⟨g, cap, rfl, h.below, hb, hnc, fun j hj => ?_, fun j hj => ?_, fun j => ho.frozenAt j, h.small⟩
    · rw [ho.cellAt j (by omega)]
      simp [List.getD, hj]
    · have hlt : j < cur.size := by omega
      simp [World.cell?, hg, hlt]
theorem below_setCells {B : Nat} {a : World} {b : Nat} (hb : B ≤ b) : ∀ (vs : List Value) (o : Nat) (w : World), Below B a w → Below B a (w.setCells b o vs)
  | [], _, _, h => h
  | v :: vs, o, w, h => below_setCells hb vs (o + 1) (w.setCell ⟨b, o, none⟩ v) (h.setCell hb v)
theorem eraseIdx_getD (ys : List Int) (A j : Nat) : (ys.eraseIdx A).getD j 0 = if j < A then ys.getD j 0 else ys.getD (j + 1) 0 := by
  simp only [List.getD_eq_getElem?_getD, List.getElem?_eraseIdx]
  split <;> rfl
/-- The numbers behind the A-th one, laid from its place on. -/
theorem Cells.erase {w wr : World} {g cap : Nat} {ys : List Int} (h : Cells w wr g cap ys) (A : Nat) (hA : A < ys.length) :
    Cells w (wr.setCells g A ((ys.drop (A + 1)).map (Value.int .i64))) g cap (ys.eraseIdx A) := by
  have hl : (ys.eraseIdx A).length = ys.length - 1 := by rw [List.length_eraseIdx, if_pos hA]
  have hroom := h.room
  have hth : ∀ j, j < ((ys.drop (A + 1)).map (Value.int .i64)).length → (wr.cell? ⟨g, A + j, none⟩).isSome = true := fun j hj => h.there _ (by simp at hj; omega)
  refine ⟨below_setCells h.base _ _ _ h.below, h.base, by omega, fun j hj => ?_, fun j hj => ?_, fun j => ?_, fun y hy => ?_⟩
  · rw [eraseIdx_getD]
    by_cases hjA : j < A
    · rw [if_pos hjA, World.cell?_setCells_out g _ _ _ ⟨g, j, none⟩ (fun _ _ => Or.inl hjA)]
      exact h.cell j (by omega)
    · rw [if_neg hjA]
      have hj2 : j - A < ((ys.drop (A + 1)).map (Value.int .i64)).length := by simp; omega
      have e := World.cell?_setCells_in g _ A wr hth (j - A) hj2
      rw [show A + (j - A) = j from by omega] at e
      rw [e]
      have h3 : A + 1 + (j - A) = j + 1 := by omega
      simp only [List.getElem_map, List.getElem_drop, h3]
      have hjl : j + 1 < ys.length := by omega
      simp [List.getD, hjl]
  · exact World.isSome_setCells g _ _ _ _ (h.there j hj)
  · rw [World.frozen?_setCells]; exact h.free j
  · exact h.small y (List.mem_of_mem_eraseIdx hy)
/-- 'append' of what stands behind the A-th number to what stands ahead of it, at a step of a statement that leaves its order open. -/
theorem step_erase {ops : Array Oper} {o : Oper} {a : Act} {K : Act → World → Prop} {Q : Exit → Act → World → Prop} {E : Prop} (hgd : o.guard = none) (s x : Operand)
    (ho : o.op = .call { callee := .builtin .append, args := #[s, x], argTypes := #[64, 64] })
    (w W : World) (g cp A m c : Nat) (ys : List Int) (ad : Addr) (hC : Cells w W g cp ys) (hA : A < ys.length)
    (hs : a.eval s = .slice (some ⟨g, 0, none⟩) A cp) (hx : a.eval x = .slice (some ad) m c) (hm : m + (A + 1) = ys.length) (had : 0 < m → ad = ⟨g, A + 1, none⟩)
    (h : ∀ W', Cells w W' g cp (ys.eraseIdx A) → K (a.put o.dst (.slice (some ⟨g, 0, none⟩) (ys.eraseIdx A).length cp)) W') :
    if Region.wanted o (yielded ops a.tmps) = true then Oper.wp Try.prog o a W K Q else E := by
  obtain ⟨i0, hi, hz0, hz1, hz2⟩ := info_parts info2
  have hl : (ys.eraseIdx A).length = ys.length - 1 := by rw [List.length_eraseIdx, if_pos hA]
  have hroom := hC.room
  have hnl : ((ys.drop (A + 1)).map (Value.int .i64)).length = m := by simp; omega
  refine step_append_room hgd s x 64 ho 2 i0 1 Try.underlying64 hi hz1 g 0 A cp hs ad m c ((ys.drop (A + 1)).map (Value.int .i64)) hx (by omega) ?_ (ints_oneCell _ _) (by omega) ?_ ?_
  · intro j u hj
    have hjl : j < m := by
      have := (List.getElem?_eq_some_iff.1 hj).1
      omega
    rw [had (by omega), Addr.add_lit, hC.cell (A + 1 + j) (by omega)]
    rw [List.getElem?_map, List.getElem?_drop] at hj
    have hlt : A + 1 + j < ys.length := by omega
    simpa [List.getD, hlt] using hj
  · intro j hj
    rw [hnl] at hj
    refine ⟨?_, ?_⟩
    · rw [show 0 + A * 1 + j = A + j from by omega]
      exact hC.there _ (by omega)
    · exact hC.free _
  · have h2 := h _ (hC.erase A hA)
    rw [hl] at h2
    rw [show 0 + A * 1 = A from by omega, show A + m = ys.length - 1 from by omega]
    exact h2
theorem total_erase (ys : List Int) (A : Nat) (hA : A < ys.length) : ys.getD A 0 + total (ys.eraseIdx A) = total ys := by
  induction ys generalizing A with
  | nil => simp at hA
  | cons y r ih =>
    cases A with
    | zero => rfl
    | succ A =>
      have := ih A (by simpa using hA)
      show r.getD A 0 + (y + total (r.eraseIdx A)) = y + total r
      omega
theorem total_nonneg {ws : List Int} (h : ∀ v ∈ ws, 0 ≤ v) : 0 ≤ total ws := by
  induction ws with
  | nil => exact Int.le_refl _
  | cons v r ih =>
    have h1 := h v List.mem_cons_self
    have h2 := ih (fun u hu => h u (List.mem_cons_of_mem _ hu))
    show 0 ≤ v + total r
    omega
theorem total_up {ys : List Int} (h : ∀ y ∈ ys, 0 ≤ y) : 0 ≤ total ys := total_nonneg h
theorem total_down {ys : List Int} (h : ∀ y ∈ ys, y ≤ 0) : total ys ≤ 0 := by
  induction ys with
  | nil => exact Int.le_refl _
  | cons v r ih =>
    have h1 := h v List.mem_cons_self
    have h2 := ih (fun u hu => h u (List.mem_cons_of_mem _ hu))
    show v + total r ≤ 0
    omega
theorem mem_getD {ys : List Int} {y : Int} (h : y ∈ ys) : ∃ j, j < ys.length ∧ ys.getD j 0 = y := by
  obtain ⟨j, hj, rfl⟩ := List.getElem_of_mem h
  exact ⟨j, hj, by simp [List.getD, hj]⟩
/-- The number that is taken next: one of the other sign, or, if there is none, the first. -/
def Chosen (t : Int) (ys : List Int) (k A : Nat) : Prop :=
  (A = 0 ∧ ∀ j, j < k → (ys.getD j 0 < 0 ↔ t < 0)) ∨ (A < k ∧ ¬ (ys.getD A 0 < 0 ↔ t < 0))
theorem chosen_yes {t : Int} {ys : List Int} {k A : Nat} (hd : ¬ (ys.getD k 0 < 0 ↔ t < 0)) (_h : Chosen t ys k A) : Chosen t ys (k + 1) k := Or.inr ⟨by omega, hd⟩
theorem chosen_no {t : Int} {ys : List Int} {k A : Nat} (hd : ys.getD k 0 < 0 ↔ t < 0) (h : Chosen t ys k A) : Chosen t ys (k + 1) A := by
  rcases h with ⟨h1, h2⟩ | ⟨h1, h2⟩
  · refine Or.inl ⟨h1, fun j hj => ?_⟩
    by_cases e : j = k
    · rw [e]; exact hd
    · exact h2 j (by omega)
  · exact Or.inr ⟨by omega, h2⟩
theorem chosen_lt {t : Int} {ys : List Int} {A : Nat} (h : Chosen t ys ys.length A) (h0 : 0 < ys.length) : A < ys.length := by
  rcases h with ⟨h1, _⟩ | ⟨h1, _⟩
  · omega
  · exact h1
/-- If the next sum goes round, the whole one does. -/
theorem chosen_over {t : Int} {ys : List Int} {A : Nat} (h : Chosen t ys ys.length A) (h0 : 0 < ys.length) (ht : In64 t) (hy : ∀ y ∈ ys, In64 y) (ho : ¬ turn (t + ys.getD A 0) = 0) : ¬ turn (t + total ys) = 0 := by
  have hA := chosen_lt h h0
  have hin := getD_in hy A
  have h1 := hin.lo; have h2 := hin.hi; have h3 := ht.lo; have h4 := ht.hi
  have hbad : 9223372036854775807 < t + ys.getD A 0 ∨ t + ys.getD A 0 < -9223372036854775808 := by
    by_cases c1 : 9223372036854775807 < t + ys.getD A 0
    · exact Or.inl c1
    · by_cases c2 : t + ys.getD A 0 < -9223372036854775808
      · exact Or.inr c2
      · exact absurd (turn_in ⟨by omega, by omega⟩) ho
  have e := total_erase ys A hA
  rcases h with ⟨hA0, hall⟩ | ⟨_, hd⟩
  · intro c
    have hc := in_of_turn c
    have c1 := hc.lo; have c2 := hc.hi
    have hmem : ∀ y ∈ ys.eraseIdx A, (y < 0 ↔ t < 0) := fun y hy' => by
      obtain ⟨j, hj, rfl⟩ := mem_getD (List.mem_of_mem_eraseIdx hy')
      exact hall j hj
    have hAs := hall A hA
    rcases hbad with hb | hb
    · have : ¬ t < 0 := by
        intro ht0
        have := hAs.2 ht0
        omega
      have := total_up (ys := ys.eraseIdx A) (fun y hy' => by have := hmem y hy'; omega)
      omega
    · have htn : t < 0 := by
        by_cases c3 : t < 0
        · exact c3
        · have : ¬ ys.getD A 0 < 0 := fun c4 => c3 (hAs.1 c4)
          omega
      have := total_down (ys := ys.eraseIdx A) (fun y hy' => by have := (hmem y hy').2 htn; omega)
      omega
  · exfalso
    by_cases c1 : ys.getD A 0 < 0
    · by_cases c2 : t < 0
      · exact hd ⟨fun _ => c2, fun _ => c1⟩
      · omega
    · by_cases c2 : t < 0
      · omega
      · exact hd ⟨fun c3 => absurd c3 c1, fun c3 => absurd c3 c2⟩
def lenOf : Value → Nat
  | .slice _ n _ => n
  | _ => 0
end Go.Proofs.Ytkccladbcehdbaa.Mn
