/- Rows of bytes, and what append to them spares. -/
import Derived.Test.YtfahgphkceilkaaFn
import Derived.Maps.AppendAt
namespace Go.Proofs.Ytfahgphkceilkaa
open Go.RowKit
set_option linter.unusedVariables false
set_option linter.unusedSimpArgs false
abbrev byL (n : Nat) : List Value := [.int .u8 (n : Int)]
def bys (xs : List Nat) : List (List Value) := xs.map byL
theorem fit_by (xs : List Nat) : Fit 1 (bys xs) := fun f hf => by
  obtain ⟨x, _, rfl⟩ := List.mem_map.1 hf
  exact ⟨rfl, fun u hu => by simp at hu; subst hu; rfl⟩
theorem getG_by (xs : List Nat) {k : Nat} (hk : k < xs.length) : getG (bys xs) k 0 = .int .u8 (xs.getD k 0 : Nat) := by simp [getG, List.getD, hk, bys]
theorem RowG.by {w : World} {b off n cap : Nat} {xs : List Nat} (h : RowG 1 w (.slice (some ⟨b, off, none⟩) n cap) (bys xs)) {k : Nat} (hk : k < xs.length) : w.cell? ⟨b, off + k, none⟩ = some (.int .u8 (xs.getD k 0 : Nat)) := by
  have hk' : k < (bys xs).length := Nat.lt_of_lt_of_eq hk (List.length_map ..).symm
  have := h.cells hk' (t := 0) (by decide)
  rw [getG_by xs hk, Nat.mul_one, Nat.add_zero] at this
  exact this
theorem info5 : (Try.prog.info? 5).map (fun i => (i.zero, i.size, i.bytes)) = some (some (.int .u8 0), 1, 1) := by kernel_rfl
theorem bys_app (xs ys : List Nat) : bys xs ++ bys ys = bys (xs ++ ys) := (List.map_append ..).symm
theorem bys_len (xs : List Nat) : (bys xs).length = xs.length := List.length_map ..
theorem row_new (wr : World) (cs : List Nat) (h0 : 0 < cs.length) (hm : cs.length ≤ maxLen) (vs : Array Value) (hv : vs.toList = cs.map (fun n : Nat => Value.int .u8 (n : Int))) : RowG 1 (wr.alloc (.cells vs 5)) (.slice (some ⟨wr.heap.size, 0, none⟩) cs.length cs.length) (bys cs) := by
  refine Or.inr ⟨_, _, _, by rw [bys_len], by rw [bys_len]; exact h0, by rw [bys_len]; exact Nat.le_refl _, hm, fun j hj t ht => ?_, fit_by cs⟩
  rw [bys_len] at hj
  obtain rfl : t = 0 := by omega
  rw [getG_by cs hj]
  have e := (Blk.new wr vs 5).at j (.int .u8 (cs.getD j 0 : Nat)) (by
    rw [← Array.getElem?_toList, hv, List.getElem?_map]
    simp [List.getD, hj])
  simpa using e
/-- From one world and row to a later one: memory that isn't the row's is as it was, and no later row's. -/
structure Spare (w : World) (v : Value) (w' : World) (u : Value) : Prop where
  size : w.heap.size ≤ w'.heap.size
  blk : ∀ g, g < w.heap.size → some g ≠ v.ownBlock → w'.heap[g]? = w.heap[g]? ∧ some g ≠ u.ownBlock
theorem Spare.refl (w : World) (v : Value) : Spare w v w v := ⟨Nat.le_refl _, fun _ _ h => ⟨rfl, h⟩⟩
theorem Spare.trans {w w' w2 : World} {v u t : Value} (h : Spare w v w' u) (h' : Spare w' u w2 t) : Spare w v w2 t :=
  ⟨Nat.le_trans h.size h'.size, fun g hg hv => ⟨((h'.blk g (Nat.lt_of_lt_of_le hg h.size) (h.blk g hg hv).2).1).trans (h.blk g hg hv).1, (h'.blk g (Nat.lt_of_lt_of_le hg h.size) (h.blk g hg hv).2).2⟩⟩
theorem Spare.below {w w' : World} (v : Value) (h : Below w.heap.size w w') : Spare w v w' v := ⟨h.size, fun g hg hv => ⟨h.block g hg, hv⟩⟩
theorem Spare.alloc (w : World) (v : Value) (o : Obj) : Spare w v (w.alloc o) v := Spare.below v (below1 w o)
theorem Spare.keep {w w' : World} {v u : Value} (h : Spare w v w' u) {b : Nat} {cs : Array Value} {T : TypeId} (hB : Blk w b cs T) (hb : some b ≠ v.ownBlock) : Blk w' b cs T ∧ some b ≠ u.ownBlock := ⟨((h.blk b hB.lt hb).1).trans hB, (h.blk b hB.lt hb).2⟩
theorem GrowG.from {E : TypeId} {m : Nat} {w0 w wr : World} {v : Value} {l : List (List Value)} (h : GrowG E m w wr v l) (hb : Below w0.heap.size w0 w) : GrowG E m w0 wr v l := by
  obtain ⟨h1, ⟨h2, h3⟩, h4⟩ := h
  refine ⟨below_via hb h1, ⟨h2, ?_⟩, h4⟩
  rcases h3 with h3 | ⟨g, cap, cur, e1, e2, e3, e4⟩
  · exact Or.inl h3
  · exact Or.inr ⟨g, cap, cur, e1, Nat.le_trans hb.size e2, e3, e4⟩
theorem GrowG.own {E : TypeId} {m : Nat} {w wr : World} {v : Value} {l : List (List Value)} (h : GrowG E m w wr v l) {b : Nat} (hb : b < w.heap.size) : some b ≠ v.ownBlock := by
  obtain ⟨_, ⟨_, h3⟩, _⟩ := h
  rcases h3 with ⟨rfl, _⟩ | ⟨g, cap, cur, rfl, e2, _⟩
  · intro e; cases e
  · intro e
    simp [Value.ownBlock] at e
    omega
theorem GrowG.late {E : TypeId} {m : Nat} {w wr : World} {v : Value} {l : List (List Value)} (h : GrowG E m w wr v l) {b : Nat} (hb : wr.heap.size ≤ b) : some b ≠ v.ownBlock := by
  obtain ⟨_, ⟨_, h3⟩, _⟩ := h
  rcases h3 with ⟨rfl, _⟩ | ⟨g, cap, cur, rfl, e2, e3, _⟩
  · intro e; cases e
  · intro e
    have := (Array.getElem?_eq_some_iff.1 e3).1
    simp [Value.ownBlock] at e
    omega
theorem run_append_zero (w : World) (E T ty m : Nat) (v : Value) (n : Nat) (xs : List Value) (c : Nat) {i : TypeInfo} (hi : Try.prog.info? E = some i) (hu : Try.prog.underlying T = some (.slice E)) {B : Nat} (h : w.ownsRow B E m v n xs) : (Builtin.append_ #[T, T] ty #[v, .slice none 0 c]).run Try.prog w = .ok v w := by
  rcases h.2 with ⟨rfl, _⟩ | ⟨g, cap, cur, rfl, _, _, hc, _⟩
  · simp [Builtin.append_, run_underlying hu, sizeOf, typeInfo, hi, Builtin.lenOf, Builtin.firstCells, loadCells, loadCellsFrom]
  · simp [Builtin.append_, run_underlying hu, sizeOf, typeInfo, hi, Builtin.lenOf, Builtin.firstCells, loadCells, loadCellsFrom, hc, storeCells]
/-- Append of any row, at the operation. -/
theorem wp_pushA {o : Oper} {a : Act} {K : Act → World → Prop} {Q : Exit → Act → World → Prop} (E T : TypeId) (m bytes : Nat) (z : Value) (hm : 0 < m) (hb : bytes ≤ 1000) (hz : z.cells.size = m) (hu : Try.prog.underlying T = some (.slice E)) (hinfo : (Try.prog.info? E).map (fun i => (i.zero, i.size, i.bytes)) = some (some z, m, bytes))
    (s x : Operand) (ho : o.op = .call { callee := .builtin .append, args := #[s, x], argTypes := #[T, T] })
    (w wr : World) (v u : Value) (l k : List (List Value)) (hG : GrowG E m w wr v l) (hs : a.eval s = v) (hx : a.eval x = u) (hR : RowG m wr u k) (hlen : l.length + k.length ≤ 1000000)
    (h : ∀ v' w', GrowG E m w w' v' (l ++ k) → Spare wr v w' v' → K (a.put o.dst v') w') : o.wp Try.prog a wr K Q := by
  obtain ⟨i0, hi, hz0, hz1, hz2⟩ := info_parts hinfo
  have hsize := hG.below.size
  have hb2 : (l.length + k.length) * bytes ≤ 140737488355328 := Nat.le_trans (Nat.mul_le_mul hlen hb) (by decide)
  have fin : ∀ (ad : Addr) (n c : Nat), u = .slice (some ad) n c → n = k.length → (∀ j y, k.flatten[j]? = some y → wr.cell? (ad.add j) = some y) → o.wp Try.prog a wr K Q := fun ad n c hu' hn hc => by
    subst hn
    obtain ⟨v', w', hr, h2, h3, h4, h5⟩ := run_append_own_at (P := Try.prog) wr w.heap.size T o.type E i0 z m bytes hu hi hz0 hz1 hz2 hz hm v l.length _ hG.owns ad k.length c k.flatten (flat_len hR.fit) hc (flat_one hR.fit) (by unfold maxLen; omega) hb2 (by omega)
    unfold Oper.wp execOp
    simp only [ho, resolve, invoke, builtin, Sem.run_bind, Sem.run_pure, Result.andThen_ok, List.map_toArray, List.map_cons, List.map_nil, hs, hx, hu', hr]
    refine h v' w' ⟨hG.below.grown h3 hG.below.size (fun k hk => (hG.owns.lt k hk).1), ?_, hG.fit.append hR.fit⟩ ⟨h3.size, fun g hg hv => ⟨h3.block g hg hv, fun e => ?_⟩⟩
    · rw [List.flatten_append, List.length_append]
      exact h2
    · rcases h5 with h5 | h5
      · exact hv (e.trans h5)
      · rw [h5] at e
        injection e with e
        omega
  have hR' := hR
  rcases hR with ⟨a', cap, rfl, rfl, _⟩ | ⟨b, off, cap, rfl, _⟩
  · cases a' with
    | none =>
      unfold Oper.wp execOp
      simp only [ho, resolve, invoke, builtin, Sem.run_bind, Sem.run_pure, Result.andThen_ok, List.map_toArray, List.map_cons, List.map_nil, hs, hx, run_append_zero wr E T o.type m v l.length _ cap hi hu hG.owns]
      exact h v wr (by rw [List.append_nil]; exact hG) (Spare.refl _ _)
    | some ad => exact fin ad 0 cap rfl rfl (fun j y hy => by simp at hy)
  · exact fin _ _ cap rfl rfl (row_cells hR' hm)
/-- Append of bytes to bytes. -/
theorem pushB {ops : Array Oper} {rest : List Oper} {o : Oper} {a : Act} {Q : Exit → Act → World → Prop}
    (hgd : o.guard = none) (s x : Operand) (ho : o.op = .call { callee := .builtin .append, args := #[s, x], argTypes := #[25, 25] })
    (w wr : World) (v u : Value) (xs ys : List Nat) (hG : GrowG 5 1 w wr v (bys xs)) (hs : a.eval s = v) (hx : a.eval x = u) (hR : RowG 1 wr u (bys ys)) (hlen : xs.length + ys.length ≤ 1000000)
    (h : ∀ v' w', GrowG 5 1 w w' v' (bys (xs ++ ys)) → Spare wr v w' v' → wpList Try.prog ops Q rest (a.put o.dst v') w') : wpList Try.prog ops Q (o :: rest) a wr :=
  wpList_plain hgd fun _ hK => wp_pushA 5 25 1 1 (.int .u8 0) (by decide) (by decide) rfl Try.underlying25 info5 s x ho w wr v u _ _ hG hs hx hR (by rw [bys_len, bys_len]; exact hlen) fun v' w' h2 h3 => hK _ _ (h v' w' (by rw [← bys_app]; exact h2) h3)
end Go.Proofs.Ytfahgphkceilkaa
