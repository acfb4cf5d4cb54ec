/- Slices of lines; append of any row. -/
import Derived.Test.YtalbdkihlcbhbaaFs
namespace Go.Proofs.Ytalbdkihlcbhbaa
open Go.RowKit
set_option linter.unusedVariables false
set_option linter.unusedSimpArgs false
theorem run_append_zero (w : World) (E T ty m : Nat) (v : Value) (n : Nat) (xs : List Value) (c : Nat) {i : TypeInfo} (hi : Try.prog.info? E = some i) (hu : Try.prog.underlying T = some (.slice E)) {B : Nat} (h : w.ownsRow B E m v n xs) : (Builtin.append_ #[T, T] ty #[v, .slice none 0 c]).run Try.prog w = .ok v w := by
  rcases h.2 with ⟨rfl, _⟩ | ⟨g, cap, cur, rfl, _, _, hc, _⟩
  · simp [Builtin.append_, run_underlying hu, sizeOf, typeInfo, hi, Builtin.lenOf, Builtin.firstCells, loadCells, loadCellsFrom]
  · simp [Builtin.append_, run_underlying hu, sizeOf, typeInfo, hi, Builtin.lenOf, Builtin.firstCells, loadCells, loadCellsFrom, hc, storeCells]
/-- Append of any row, at the operation. -/
theorem wp_pushA {o : Oper} {a : Act} {K : Act → World → Prop} {Q : Exit → Act → World → Prop} (E T : TypeId) (m bytes : Nat) (z : Value) (hm : 0 < m) (hb : bytes ≤ 1000) (hz : z.cells.size = m) (hu : Try.prog.underlying T = some (.slice E)) (hinfo : (Try.prog.info? E).map (fun i => (i.zero, i.size, i.bytes)) = some (some z, m, bytes))
    (s x : Operand) (ho : o.op = .call { callee := .builtin .append, args := #[s, x], argTypes := #[T, T] })
    (w wr : World) (v u : Value) (l k : List (List Value)) (hG : GrowG E m w wr v l) (hs : a.eval s = v) (hx : a.eval x = u) (hR : RowG m wr u k) (hlen : l.length + k.length ≤ 1000000)
    (h : ∀ v' w', GrowG E m w w' v' (l ++ k) → wr.grownBy w' v.ownBlock → K (a.put o.dst v') w') : o.wp Try.prog a wr K Q := by
  obtain ⟨i0, hi, hz0, hz1, hz2⟩ := info_parts hinfo
  have hsize := hG.below.size
  have hb2 : (l.length + k.length) * bytes ≤ 140737488355328 := Nat.le_trans (Nat.mul_le_mul hlen hb) (by decide)
  have fin : ∀ (ad : Addr) (n c : Nat), u = .slice (some ad) n c → n = k.length → (∀ j y, k.flatten[j]? = some y → wr.cell? (ad.add j) = some y) → o.wp Try.prog a wr K Q := fun ad n c hu' hn hc => by
    subst hn
    obtain ⟨v', w', hr, h2, h3, h4, h5⟩ := run_append_own_at (P := Try.prog) wr w.heap.size T o.type E i0 z m bytes hu hi hz0 hz1 hz2 hz hm v l.length _ hG.owns ad k.length c k.flatten (flat_len hR.fit) hc (flat_one hR.fit) (by unfold maxLen; omega) hb2 (by omega)
    unfold Oper.wp execOp
    simp only [ho, resolve, invoke, builtin, Sem.run_bind, Sem.run_pure, Result.andThen_ok, List.map_toArray, List.map_cons, List.map_nil, hs, hx, hu', hr]
    refine h v' w' ⟨hG.below.grown h3 hG.below.size (fun k hk => (hG.owns.lt k hk).1), ?_, hG.fit.append hR.fit⟩ h3
    rw [List.flatten_append, List.length_append]
    exact h2
  have hR' := hR
  rcases hR with ⟨a', cap, rfl, rfl, _⟩ | ⟨b, off, cap, rfl, _⟩
  · cases a' with
    | none =>
      unfold Oper.wp execOp
      simp only [ho, resolve, invoke, builtin, Sem.run_bind, Sem.run_pure, Result.andThen_ok, List.map_toArray, List.map_cons, List.map_nil, hs, hx, run_append_zero wr E T o.type m v l.length _ cap hi hu hG.owns]
      exact h v wr (by rw [List.append_nil]; exact hG) ⟨rfl, rfl, rfl, Nat.le_refl _, fun _ _ _ => rfl⟩
    | some ad => exact fin ad 0 cap rfl rfl (fun j y hy => by simp at hy)
  · exact fin _ _ cap rfl rfl (row_cells hR' hm)
theorem pushL {ops : Array Oper} {rest : List Oper} {o : Oper} {a : Act} {Q : Exit → Act → World → Prop} (E T : TypeId) (m bytes : Nat) (z : Value) (hm : 0 < m) (hb : bytes ≤ 1000) (hz : z.cells.size = m) (hu : Try.prog.underlying T = some (.slice E)) (hinfo : (Try.prog.info? E).map (fun i => (i.zero, i.size, i.bytes)) = some (some z, m, bytes))
    (hgd : o.guard = none) (s x : Operand) (ho : o.op = .call { callee := .builtin .append, args := #[s, x], argTypes := #[T, T] })
    (w wr : World) (v u : Value) (l k : List (List Value)) (hG : GrowG E m w wr v l) (hs : a.eval s = v) (hx : a.eval x = u) (hR : RowG m wr u k) (hlen : l.length + k.length ≤ 1000000)
    (h : ∀ v' w', GrowG E m w w' v' (l ++ k) → wr.grownBy w' v.ownBlock → wpList Try.prog ops Q rest (a.put o.dst v') w') : wpList Try.prog ops Q (o :: rest) a wr :=
  wpList_plain hgd fun _ hK => wp_pushA E T m bytes z hm hb hz hu hinfo s x ho w wr v u l k hG hs hx hR hlen fun v' w' h2 h3 => hK _ _ (h v' w' h2 h3)
theorem sl_hi (x : Option Addr) (n cap k : Nat) (h1 : (k : Int) ≤ cap) (w : World) : (Instr.slice 29 (.slice x n cap) none (some (.int .i64 k)) none).run Try.prog w = .ok (.slice x k cap) w := by
  have hs : (sizeOf 48).run Try.prog w = .ok 2 w := by kernel_rfl
  have h0 : (0 : Int) ≤ k := by omega
  simp [Instr.slice, Instr.sliceBounds, run_underlying Try.underlying29, hs, Result.andThen, h0, h1, go_sem]
def loA (x : Option Addr) (k cap : Nat) : Option Addr := if cap = k then x else x.map (·.add (k * 2))
theorem sl_lo (x : Option Addr) (n cap k : Nat) (h1 : (k : Int) ≤ n) (w : World) : (Instr.slice 29 (.slice x n cap) (some (.int .i64 k)) none none).run Try.prog w = .ok (.slice (loA x k cap) (n - k) (cap - k)) w := by
  have hs : (sizeOf 48).run Try.prog w = .ok 2 w := by kernel_rfl
  have h0 : (0 : Int) ≤ k := by omega
  simp [Instr.slice, Instr.sliceBounds, run_underlying Try.underlying29, hs, Result.andThen, h0, h1, go_sem, loA]
theorem rowG_le {m : Nat} {w : World} {x : Option Addr} {n cap : Nat} {L : List (List Value)} (h : RowG m w (.slice x n cap) L) : n ≤ cap := by
  rcases h with ⟨a, c, h1, _⟩ | ⟨b, off, c, h1, _, h2, _⟩
  · injection h1 with _ e _
    omega
  · injection h1 with _ e1 e2
    omega
theorem RowG.hi {w : World} {x : Option Addr} {n cap k : Nat} {L : List (List Value)} (h : RowG 2 w (.slice x n cap) L) (hk : k ≤ n) : RowG 2 w (.slice x k cap) (L.take k) := by
  have hn := rowG_len h
  rcases h with ⟨a, c, h1, h2, h3⟩ | ⟨b, off, c, h1, h2, h3, h4, h5, h6⟩
  · injection h1 with e0 e1 e2
    subst e0 e1 e2 h2
    obtain rfl : k = 0 := by omega
    exact Or.inl ⟨_, _, rfl, rfl, h3⟩
  · injection h1 with e0 e1 e2
    subst e0 e2
    by_cases h0 : k = 0
    · subst h0
      exact Or.inl ⟨_, _, rfl, rfl, fun c => by cases c⟩
    · have hl : (L.take k).length = k := by rw [List.length_take]; omega
      refine Or.inr ⟨b, off, _, by rw [hl], by omega, by omega, h4, fun j hj t ht => ?_, fun f hf => h6 f (List.mem_of_mem_take hf)⟩
      rw [hl] at hj
      rw [h5 j (by omega) t ht]
      unfold getG
      congr 2
      simp [List.getD, List.getElem?_take, hj]
theorem RowG.lo {w : World} {x : Option Addr} {n cap k : Nat} {L : List (List Value)} (h : RowG 2 w (.slice x n cap) L) (hk : k ≤ n) : RowG 2 w (.slice (loA x k cap) (n - k) (cap - k)) (L.drop k) := by
  have hn := rowG_len h
  have hle := rowG_le h
  rcases h with ⟨a, c, h1, h2, h3⟩ | ⟨b, off, c, h1, h2, h3, h4, h5, h6⟩
  · injection h1 with e0 e1 e2
    subst e0 e1 e2 h2
    obtain rfl : k = 0 := by omega
    refine Or.inl ⟨_, _, rfl, by simp, fun e => ?_⟩
    unfold loA at e
    split at e
    · exact h3 e
    · cases hx : x with
      | none => rw [h3 hx]
      | some y => rw [hx] at e; cases e
  · injection h1 with e0 e1 e2
    subst e0 e2
    by_cases h0 : n - k = 0
    · rw [h0]
      refine Or.inl ⟨_, _, rfl, by rw [List.drop_eq_nil_iff]; omega, fun e => ?_⟩
      unfold loA at e
      split at e <;> cases e
    · have hl : (L.drop k).length = n - k := by rw [List.length_drop]; omega
      have hne : ¬ cap = k := by omega
      refine Or.inr ⟨b, off + k * 2, cap - k, by rw [hl, loA, if_neg hne]; simp [Addr.add], by omega, by omega, by omega, fun j hj t ht => ?_, fun f hf => h6 f (List.mem_of_mem_drop hf)⟩
      rw [hl] at hj
      have := h5 (k + j) (by omega) t ht
      rw [show off + k * 2 + j * 2 + t = off + (k + j) * 2 + t by omega, this]
      unfold getG
      congr 2
      simp [List.getD]
/-- The place at which changes are parted. -/
theorem part_at {n A : Nat} (hn : n ≤ 200) : Int.tmod (A : Int) ((n : Int) + 1) = ((A % (n + 1) : Nat) : Int) ∧ A % (n + 1) ≤ n := by
  have h1 : A % (n + 1) < n + 1 := Nat.mod_lt _ (by omega)
  refine ⟨?_, by omega⟩
  rw [Int.tmod_eq_emod_of_nonneg (by omega)]
  norm_cast
end Go.Proofs.Ytalbdkihlcbhbaa
