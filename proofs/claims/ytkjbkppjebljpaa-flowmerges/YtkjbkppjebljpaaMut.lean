/- Amounts turned in two rows of a call's own: the other rows stay. -/
import Derived.Test.YtkjbkppjebljpaaLaws
namespace Go.Proofs.Ytkjbkppjebljpaa
open Go.RowKit
set_option linter.unusedSimpArgs false
def inc (f : Int × Int) : Int × Int := (f.1, wrap64 (f.2 + 1))
theorem GrowF.block {E : TypeId} {w wr : World} {v : Value} {l : List (Int × Int)} (h : GrowF E w wr v l) (h0 : 0 < l.length) : ∃ g cap f, v = .slice (some ⟨g, 0, none⟩) l.length cap ∧ l.length ≤ cap ∧ cap ≤ maxLen ∧ w.heap.size ≤ g ∧ wr.rowIs g E (cap * 2) f ∧ ∀ j, j < l.length → Holds2 f j (getF l j) := by
  have ho := h.owns
  rcases ho.2 with ⟨_, h1⟩ | ⟨g, cap, cur, rfl, hb, hg, hnc, hm, hcs, ht⟩
  · omega
  · refine ⟨g, cap, fun j => cur[j]?.getD undef, rfl, hnc, hm, hb, ⟨cur, hg, hcs, fun i hi => ?_⟩, fun j hj => ?_⟩
    · have : i < cur.size := by omega
      simp [this]
    · have e := flat_at l j hj
      rw [← ht, List.getElem?_take, List.getElem?_take, if_pos (by omega), if_pos (by omega)] at e
      simp only [Array.getElem?_toList] at e
      exact ⟨by show cur[j * 2]?.getD undef = _; rw [e.1]; rfl, by show cur[j * 2 + 1]?.getD undef = _; rw [e.2]; rfl⟩
theorem rowF_of_block {E : TypeId} {wr : World} {g cap : Nat} {f : Nat → Value} {l : List (Int × Int)} (h : wr.rowIs g E (cap * 2) f) (h1 : l.length ≤ cap) (hm : cap ≤ maxLen) (hl : ∀ j, j < l.length → Holds2 f j (getF l j)) (hs : ∀ x ∈ l, In64 x.1 ∧ In64 x.2) : RowF wr (.slice (some ⟨g, 0, none⟩) l.length cap) l := by
  by_cases h0 : l.length = 0
  · rw [h0]; exact Or.inl ⟨_, cap, rfl, List.eq_nil_of_length_eq_zero h0, fun c => (by cases c)⟩
  · refine Or.inr ⟨g, 0, cap, rfl, by omega, h1, hm, fun j hj => ?_, hs⟩
    have q := hl j hj
    rw [Nat.zero_add, h.cell (show j * 2 < cap * 2 by omega), h.cell (show j * 2 + 1 < cap * 2 by omega), q.1, q.2]
    exact ⟨rfl, rfl⟩
theorem RowF.far {w1 W0 wr : World} {v : Value} {l : List (Int × Int)} {g1 g2 : Nat} (h1 : RowF w1 v l) (h : RowF W0 v l) (hg1 : w1.heap.size ≤ g1) (hg2 : w1.heap.size ≤ g2) (hf : ∀ j, j ≠ g1 → j ≠ g2 → wr.heap[j]? = W0.heap[j]?) : RowF wr v l := by
  rcases h1 with h1 | ⟨b, off, cap, rfl, h0, _, _, hc, _⟩
  · exact Or.inl h1
  · have hb := lt_of_cell (hc 0 h0).1
    refine h.blk (fun k hk _ => ?_)
    have : b = k := by simpa [Value.ownBlock] using hk
    exact hf k (by omega) (by omega)
/-- k amounts of both rows are one more. -/
structure Mut (W0 wr : World) (gp cp gr cr : Nat) (U : List (Int × Int)) (k : Nat) : Prop where
  far : ∀ j, j ≠ gp → j ≠ gr → wr.heap[j]? = W0.heap[j]?
  bel : ∀ B, B ≤ gp → B ≤ gr → Below B W0 wr
  ne : gp ≠ gr
  p : ∃ f, wr.rowIs gp 39 (cp * 2) f ∧ ∀ j, j < U.length → Holds2 f j (if j < k then inc (getF U j) else getF U j)
  r : ∃ f, wr.rowIs gr 40 (cr * 2) f ∧ ∀ j, j < U.length → Holds2 f j (if j < k then inc (getF U j) else getF U j)
theorem holds2_one {f : Nat → Value} {k j : Nat} {U : List (Int × Int)} {d x : Int} (he : getF U k = (d, x)) (h : Holds2 f j (if j < k then inc (getF U j) else getF U j)) : Holds2 (fun i => if i = k * 2 + 1 then .int .i64 (wrap64 (x + 1)) else f i) j (if j < k + 1 then inc (getF U j) else getF U j) := by
  by_cases e : j = k
  · subst e
    rw [if_neg (Nat.lt_irrefl j)] at h
    rw [if_pos (Nat.lt_succ_self j)]
    refine ⟨?_, ?_⟩
    · show (if j * 2 = j * 2 + 1 then _ else _) = _
      rw [if_neg (by omega)]
      exact h.1
    · show (if j * 2 + 1 = j * 2 + 1 then _ else _) = _
      rw [if_pos rfl, he]
      rfl
  · have e2 : (if j < k + 1 then inc (getF U j) else getF U j) = if j < k then inc (getF U j) else getF U j := by
      by_cases c : j < k
      · rw [if_pos c, if_pos (by omega)]
      · rw [if_neg c, if_neg (by omega)]
    rw [e2]
    refine ⟨?_, ?_⟩
    · show (if j * 2 = k * 2 + 1 then _ else _) = _
      rw [if_neg (by omega)]
      exact h.1
    · show (if j * 2 + 1 = k * 2 + 1 then _ else _) = _
      rw [if_neg (by omega)]
      exact h.2
theorem Mut.step {W0 wr : World} {gp cp gr cr : Nat} {U : List (Int × Int)} {k : Nat} {d x : Int} (h : Mut W0 wr gp cp gr cr U k) (he : getF U k = (d, x)) :
    Mut W0 ((wr.setCell ⟨gp, k * 2 + 1, none⟩ (.int .i64 (wrap64 (x + 1)))).setCell ⟨gr, k * 2 + 1, none⟩ (.int .i64 (wrap64 (x + 1)))) gp cp gr cr U (k + 1) := by
  obtain ⟨f, p1, p2⟩ := h.p
  obtain ⟨f2, r1, r2⟩ := h.r
  have hne := h.ne
  refine ⟨fun j h1 h2 => ?_, fun B hB hB2 => ((h.bel B hB hB2).setCell hB _).setCell hB2 _, hne, ⟨_, (p1.set _ _).setOther (a := ⟨gr, k * 2 + 1, none⟩) hne _, fun j hj => holds2_one he (p2 j hj)⟩, ⟨_, (r1.setOther (a := ⟨gp, k * 2 + 1, none⟩) hne.symm _).set _ _, fun j hj => holds2_one he (r2 j hj)⟩⟩
  rw [heap_setCell_other _ ⟨gr, k * 2 + 1, none⟩ j _ h2, heap_setCell_other _ ⟨gp, k * 2 + 1, none⟩ j _ h1]
  exact h.far j h1 h2
theorem Mut.cells {W0 wr : World} {gp cp gr cr : Nat} {U : List (Int × Int)} {k : Nat} {d x : Int} (h : Mut W0 wr gp cp gr cr U k) (hk : k < U.length) (h1 : U.length ≤ cp) (h2 : U.length ≤ cr) (he : getF U k = (d, x)) (u : Value) :
    wr.cell? ⟨gp, k * 2 + 1, none⟩ = some (.int .i64 x) ∧ wr.frozen? ⟨gp, k * 2 + 1, none⟩ = false ∧ (wr.setCell ⟨gp, k * 2 + 1, none⟩ u).cell? ⟨gr, k * 2 + 1, none⟩ = some (.int .i64 x) ∧ (wr.setCell ⟨gp, k * 2 + 1, none⟩ u).frozen? ⟨gr, k * 2 + 1, none⟩ = false ∧ wr.cell? ⟨gr, k * 2 + 1, none⟩ = some (.int .i64 x) ∧ wr.frozen? ⟨gr, k * 2 + 1, none⟩ = false := by
  obtain ⟨f, p1, p2⟩ := h.p
  obtain ⟨f2, r1, r2⟩ := h.r
  have q1 := (p2 k hk).2
  have q2 := (r2 k hk).2
  rw [if_neg (Nat.lt_irrefl k), he] at q1 q2
  have r3 := r1.setOther (a := ⟨gp, k * 2 + 1, none⟩) h.ne.symm u
  refine ⟨by rw [p1.cell (by omega), q1], p1.frozen _, by rw [r3.cell (by omega), q2], r3.frozen _, by rw [r1.cell (by omega), q2], r1.frozen _⟩
theorem getF_map (l : List (Int × Int)) (j : Nat) (hj : j < l.length) : getF (l.map inc) j = inc (getF l j) := by
  simp [getF, List.getD, hj]
theorem inc_64 {l : List (Int × Int)} (h : ∀ x ∈ l, In64 x.1 ∧ In64 x.2) : ∀ x ∈ l.map inc, In64 x.1 ∧ In64 x.2 := by
  intro x hx
  obtain ⟨y, hy, rfl⟩ := List.mem_map.1 hx
  exact ⟨(h y hy).1, in64_wrap _⟩
theorem Mut.rows {W0 wr : World} {gp cp gr cr : Nat} {U : List (Int × Int)} (h : Mut W0 wr gp cp gr cr U U.length) (h1 : U.length ≤ cp) (h2 : U.length ≤ cr) (m1 : cp ≤ maxLen) (m2 : cr ≤ maxLen) (hs : ∀ x ∈ U, In64 x.1 ∧ In64 x.2) :
    RowF wr (.slice (some ⟨gp, 0, none⟩) U.length cp) (U.map inc) ∧ RowF wr (.slice (some ⟨gr, 0, none⟩) U.length cr) (U.map inc) := by
  obtain ⟨f, p1, p2⟩ := h.p
  obtain ⟨f2, r1, r2⟩ := h.r
  have hl : (U.map inc).length = U.length := List.length_map _
  have a1 := rowF_of_block (l := U.map inc) p1 (by omega) m1 (fun j hj => by rw [hl] at hj; have := p2 j hj; rw [if_pos hj] at this; rw [getF_map U j hj]; exact this) (inc_64 hs)
  have a2 := rowF_of_block (l := U.map inc) r1 (by omega) m2 (fun j hj => by rw [hl] at hj; have := r2 j hj; rw [if_pos hj] at this; rw [getF_map U j hj]; exact this) (inc_64 hs)
  rw [hl] at a1 a2
  exact ⟨a1, a2⟩
/-- What stands ahead of the loop. -/
theorem mut_start {W0 : World} {gp cp gr cr : Nat} {U : List (Int × Int)} {f f2 : Nat → Value} (hne : gp ≠ gr) (h1 : W0.rowIs gp 39 (cp * 2) f) (h2 : ∀ j, j < U.length → Holds2 f j (getF U j)) (h3 : W0.rowIs gr 40 (cr * 2) f2) (h4 : ∀ j, j < U.length → Holds2 f2 j (getF U j)) : Mut W0 W0 gp cp gr cr U 0 :=
  ⟨fun _ _ _ => rfl, fun B _ _ => Below.refl B W0, hne, ⟨f, h1, fun j hj => by rw [if_neg (Nat.not_lt_zero j)]; exact h2 j hj⟩, ⟨f2, h3, fun j hj => by rw [if_neg (Nat.not_lt_zero j)]; exact h4 j hj⟩⟩
end Go.Proofs.Ytkjbkppjebljpaa
