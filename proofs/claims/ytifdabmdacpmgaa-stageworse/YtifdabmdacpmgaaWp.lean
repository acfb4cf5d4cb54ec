/- A worse mark leads to no better a stage; marks ahead of one that tells 3 say nothing (plain). -/
import Derived.Test.YtifdabmdacpmgaaOp
namespace Go.Proofs.Ytifdabmdacpmgaa
open Go.RowKit
set_option linter.unusedVariables false
set_option linter.unusedSimpArgs false
theorem wst_mono {p d p' d' : Int} {b b' : Bool} (h1 : p ≤ p') (h2 : d ≤ d') (h3 : b = true → b' = true) : wst p d b ≤ wst p' d' b' := by
  have k := wst_bd p d b
  have k' := wst_bd p' d' b'
  unfold wst at *
  by_cases a : b = true ∨ 90 ≤ p
  · rw [if_pos a, if_pos (by rcases a with a | a; exact .inl (h3 a); exact .inr (by omega))]
    exact Int.le_refl _
  · rw [if_neg a] at k ⊢
    by_cases c : 30 ≤ p ∨ 3 ≤ d
    · rw [if_pos c]
      split
      · omega
      · rw [if_pos (by omega)]; omega
    · rw [if_neg c]
      omega
theorem nxt_mono {s g p d p' d' : Int} {b b' : Bool} (h1 : p ≤ p') (h2 : d ≤ d') (h3 : b = true → b' = true) (e : (nxt s g p d b).2.2 = 0) (f : (nxt s g p' d' b').2.2 = 0) : (nxt s g p d b).1 ≤ (nxt s g p' d' b').1 := by
  have m := wst_mono h1 h2 h3
  unfold nxt at *
  split at e
  · next c =>
    rw [if_pos c]
    split at f
    · next c' =>
      rw [if_pos c']
      repeat' split
      all_goals (simp; try omega)
    · exact absurd f (by decide)
  · exact absurd e (by decide)
theorem nxt_okM {s g p d : Int} {b : Bool} (e : (nxt s g p d b).2.2 = 0) : okM p d := by
  unfold nxt at e
  split at e
  · next c => exact c.2
  · exact absurd e (by decide)
theorem worse_ok {s g p d : Int} {b b' : Bool} {P D : Nat} (hP : P ≤ 255) (hD : D ≤ 255) (h3 : b = true → b' = true) (e : (nxt s g p d b).2.2 = 0) (f : (nxt s g (IntKind.i64.wrap (p + P)) (IntKind.i64.wrap (d + D)) b').2.2 = 0) : ¬ (nxt s g (IntKind.i64.wrap (p + P)) (IntKind.i64.wrap (d + D)) b').1 < (nxt s g p d b).1 := by
  obtain ⟨a1, a2, a3, a4⟩ := nxt_okM e
  rw [wrap_in ⟨by omega, by omega⟩, wrap_in ⟨by omega, by omega⟩] at f ⊢
  have := nxt_mono (p' := p + P) (d' := d + D) (by omega) (by omega) h3 e f
  omega
theorem worse_ok' {s g p d : Int} {b b' : Bool} {P D : Nat} (hP : P ≤ 255) (hD : D ≤ 255) (h3 : b = true → b' = true) (e : (nxt s g p d b).2.2 = 0) (f : (nxt s g (wrap64 (p + P)) (wrap64 (d + D)) b').2.2 = 0) : ¬ (nxt s g (wrap64 (p + P)) (wrap64 (d + D)) b').1 < (nxt s g p d b).1 := by
  rw [← IntWalk.i64_left, ← IntWalk.i64_left] at f ⊢
  exact worse_ok hP hD h3 e f
abbrev badM : Mk := (0, 0, true)
theorem nxt_bad {s g : Int} (h : (nxt s g 0 0 true).2.2 = 0) : nxt s g 0 0 true = (3, 0, 0) := by
  have e : wst 0 0 true = 3 := rfl
  unfold nxt at *
  split at h
  · next c =>
    rw [if_pos c, e, if_pos c.1.2.1]
  · exact absurd h (by decide)
theorem mkA_mid (l k : List Mk) (j : Nat) : mkA (l ++ badM :: k) (l.length + j) = mkA (badM :: k) j := by
  unfold mkA
  simp [List.getD, List.getElem?_append_right]
theorem stt_mid {l k : List Mk} (h : ert (l ++ badM :: k) l.length = 0) : ∀ j, stt (l ++ badM :: k) (l.length + (j + 1)) = stt (badM :: k) (j + 1)
  | 0 => by
    have e : mkA (l ++ badM :: k) l.length = badM := by have := mkA_mid l k 0; exact this
    unfold ert at h
    rw [e] at h
    have n := nxt_bad h
    show ((nxt _ _ _ _ _).1, (nxt _ _ _ _ _).2.1) = _
    rw [e, n]
    rfl
  | j + 1 => by
    have ih := stt_mid h j
    have e := mkA_mid l k (j + 1)
    have a1 : stt (l ++ badM :: k) (l.length + (j + 1) + 1) = _ := rfl
    rw [show l.length + (j + 1 + 1) = l.length + (j + 1) + 1 from rfl]
    unfold stt
    rw [ih, e]
theorem fine_mid {l k : List Mk} (h : fine (l ++ badM :: k) (l ++ badM :: k).length) : fine (badM :: k) (badM :: k).length ∧ (stg (l ++ badM :: k) (l ++ badM :: k).length).drop l.length = stg (badM :: k) (badM :: k).length := by
  have h0 := h l.length (by simp)
  have hs := stt_mid h0
  refine ⟨fun j hj => ?_, ?_⟩
  · cases j with
    | zero => rfl
    | succ j =>
      have e := h (l.length + (j + 1)) (by simp at hj ⊢; omega)
      unfold ert at e ⊢
      rw [hs j, mkA_mid] at e
      exact e
  · apply List.ext_getElem
    · simp [stg_len]
    · intro j h1 h2
      rw [stg_len] at h2
      simp only [stg, List.getElem_drop, List.getElem_map, List.getElem_range]
      rw [Nat.add_assoc, hs j]
theorem run_append_zero (w : World) (E T ty m : Nat) (v : Value) (n : Nat) (xs : List Value) (c : Nat) {i : TypeInfo} (hi : Try.prog.info? E = some i) (hu : Try.prog.underlying T = some (.slice E)) {B : Nat} (h : w.ownsRow B E m v n xs) : (Builtin.append_ #[T, T] ty #[v, .slice none 0 c]).run Try.prog w = .ok v w := by
  rcases h.2 with ⟨rfl, _⟩ | ⟨g, cap, cur, rfl, _, _, hc, _⟩
  · simp [Builtin.append_, run_underlying hu, sizeOf, typeInfo, hi, Builtin.lenOf, Builtin.firstCells, loadCells, loadCellsFrom]
  · simp [Builtin.append_, run_underlying hu, sizeOf, typeInfo, hi, Builtin.lenOf, Builtin.firstCells, loadCells, loadCellsFrom, hc, storeCells]
/-- Append of any row, at the operation. -/
theorem wp_pushG {o : Oper} {a : Act} {K : Act → World → Prop} {Q : Exit → Act → World → Prop} (E T : TypeId) (m bytes : Nat) (z : Value) (hm : 0 < m) (hb : bytes ≤ 1000) (hz : z.cells.size = m) (hu : Try.prog.underlying T = some (.slice E)) (hinfo : (Try.prog.info? E).map (fun i => (i.zero, i.size, i.bytes)) = some (some z, m, bytes))
    (s x : Operand) (ho : o.op = .call { callee := .builtin .append, args := #[s, x], argTypes := #[T, T] })
    (w wr : World) (v u : Value) (l k : List (List Value)) (hG : GrowG E m w wr v l) (hs : a.eval s = v) (hx : a.eval x = u) (hR : RowG m wr u k) (hlen : l.length + k.length ≤ 1000000)
    (h : ∀ v' w', GrowG E m w w' v' (l ++ k) → wr.grownBy w' v.ownBlock → K (a.put o.dst v') w') : o.wp Try.prog a wr K Q := by
  obtain ⟨i0, hi, hz0, hz1, hz2⟩ := info_parts hinfo
  have hsize := hG.below.size
  have hb2 : (l.length + k.length) * bytes ≤ 140737488355328 := Nat.le_trans (Nat.mul_le_mul hlen hb) (by decide)
  have fin : ∀ (ad : Addr) (n c : Nat), u = .slice (some ad) n c → n = k.length → (∀ j y, k.flatten[j]? = some y → wr.cell? (ad.add j) = some y) → o.wp Try.prog a wr K Q := fun ad n c hu' hn hc => by
    subst hn
    obtain ⟨v', w', hr, h2, h3, h4, h5⟩ := run_append_own_at (P := Try.prog) wr w.heap.size T o.type E i0 z m bytes hu hi hz0 hz1 hz2 hz hm v l.length _ hG.owns ad k.length c k.flatten (flat_len hR.fit) hc (flat_one hR.fit) (by unfold maxLen; omega) hb2 (by omega)
    unfold Oper.wp execOp
    simp only [ho, resolve, invoke, builtin, Sem.run_bind, Sem.run_pure, Result.andThen_ok, List.map_toArray, List.map_cons, List.map_nil, hs, hx, hu', hr]
    refine h v' w' ⟨hG.below.grown h3 hG.below.size (fun k hk => (hG.owns.lt k hk).1), ?_, hG.fit.append hR.fit⟩ h3
    rw [List.flatten_append, List.length_append]
    exact h2
  have hR' := hR
  rcases hR with ⟨a', cap, rfl, rfl, _⟩ | ⟨b, off, cap, rfl, _⟩
  · cases a' with
    | none =>
      unfold Oper.wp execOp
      simp only [ho, resolve, invoke, builtin, Sem.run_bind, Sem.run_pure, Result.andThen_ok, List.map_toArray, List.map_cons, List.map_nil, hs, hx, run_append_zero wr E T o.type m v l.length _ cap hi hu hG.owns]
      exact h v wr (by rw [List.append_nil]; exact hG) ⟨rfl, rfl, rfl, Nat.le_refl _, fun _ _ _ => rfl⟩
    | some ad => exact fin ad 0 cap rfl rfl (fun j y hy => by simp at hy)
  · exact fin _ _ cap rfl rfl (row_cells hR' hm)
theorem storeO_blk {op : Oper} {a : Act} {w : World} {K : Act → World → Prop} {Q : Exit → Act → World → Prop} (ty : TypeId) (x y : Operand) (ho : op.op = .store ty x y) {b : Nat} {T : TypeId} {old cells : Array Value} (hB : Blk w b old T) (hx : a.eval x = .pointer (some ⟨b, 0, none⟩)) (hy : a.eval y = .agg cells) {n : Nat} (hi : (Try.prog.info? ty).map (·.size) = some n) (ho' : old.size = n) (hn : cells.size = n) (h1 : cells.toList.all Value.oneCell' = true)
    (h : ∀ W, Blk W b cells T → Past w W b → K (a.put op.dst undef) W) : op.wp Try.prog a w K Q :=
  wp_store_mid ty x y ho b 0 cells hx hy (hB.there (ho'.trans hn.symm)) (hi.trans (by rw [hn])) (all_oneCell_toArray (cs := cells.toList) (fun v hv => List.all_eq_true.1 h1 v hv)) (h _ (by have k := blk_setCells cells.toList 0 hB; rw [sets_all (ho'.trans hn.symm)] at k; exact k) (past_setCells _ _ _))
theorem size25 : (Try.prog.info? 25).map (·.size) = some 3 := by kernel_rfl
theorem info25 : (Try.prog.info? 25).map (fun i => (i.zero, i.size, i.bytes)) = some (some (.agg #[.int .i64 0, .int .i64 0, .bool false]), 3, 24) := by kernel_rfl
theorem row_one {w : World} {b : Nat} (h : Blk w b #[.int .i64 0, .int .i64 0, .bool true] 25) : RowG 3 w (.slice (some ⟨b, 0, none⟩) 1 1) [mkL badM] := by
  refine Or.inr ⟨b, 0, 1, rfl, by decide, by decide, by decide, fun j hj t ht => ?_, fit_marks [badM]⟩
  have hj' : j < 1 := hj
  match j, hj', t, ht with
  | 0, _, 0, _ => exact h.at 0 _ rfl
  | 0, _, 1, _ => exact h.at 1 _ rfl
  | 0, _, 2, _ => exact h.at 2 _ rfl
def RunC : Prop := ∀ (w : World) (v : Value) (ms : List Mk), RowG 3 w v (ms.map mkL) → Calls Try.prog 13 #[v] w fun r w' => ∃ u zs e, r = .returned (.tuple #[u, .int .i64 e]) ∧ Below w.heap.size w w' ∧ Row w' u zs ∧ RunR ms zs e ∧ Cap u
theorem run_anyC : RunC := by
  intro w v ms h
  have h' := h
  rcases h with ⟨a, cap, rfl, h0, _⟩ | ⟨b, off, cap, rfl, h0, _⟩
  · have hm : ms = [] := List.map_eq_nil_iff.1 h0
    subst hm
    refine (run_empty a cap w).mono ?_
    rintro e w' ⟨⟨x, c, rfl⟩, hb⟩
    exact ⟨_, [], 0, rfl, hb, Or.inl ⟨_, _, rfl, rfl⟩, .inr (.inl ⟨by simp, fun j hj => absurd hj (Nat.not_lt_zero j), rfl, rfl⟩), ⟨_, _, _, rfl, Nat.zero_le _⟩⟩
  · rw [List.length_map] at h' ⊢
    by_cases hm : ms.length ≤ 600
    · exact run_rowC b off cap ms w hm h'
    · refine (run_long _ ms.length cap (decide_eq_true (by omega)) w).mono ?_
      rintro e w' ⟨rfl, hb⟩
      exact ⟨_, [], 10, rfl, hb, Or.inl ⟨_, _, rfl, rfl⟩, .inl ⟨by omega, rfl, rfl⟩, ⟨_, _, _, rfl, Nat.le_refl _⟩⟩
theorem pushL {ops : Array Oper} {rest : List Oper} {o : Oper} {a : Act} {Q : Exit → Act → World → Prop} (E T : TypeId) (m bytes : Nat) (z : Value) (hm : 0 < m) (hb : bytes ≤ 1000) (hz : z.cells.size = m) (hu : Try.prog.underlying T = some (.slice E)) (hinfo : (Try.prog.info? E).map (fun i => (i.zero, i.size, i.bytes)) = some (some z, m, bytes))
    (hgd : o.guard = none) (s x : Operand) (ho : o.op = .call { callee := .builtin .append, args := #[s, x], argTypes := #[T, T] })
    (w wr : World) (v u : Value) (l k : List (List Value)) (hG : GrowG E m w wr v l) (hs : a.eval s = v) (hx : a.eval x = u) (hR : RowG m wr u k) (hlen : l.length + k.length ≤ 1000000)
    (h : ∀ v' w', GrowG E m w w' v' (l ++ k) → wr.grownBy w' v.ownBlock → wpList Try.prog ops Q rest (a.put o.dst v') w') : wpList Try.prog ops Q (o :: rest) a wr :=
  wpList_plain hgd fun _ hK => wp_pushG E T m bytes z hm hb hz hu hinfo s x ho w wr v u l k hG hs hx hR hlen fun v' w' h2 h3 => hK _ _ (h v' w' h2 h3)
theorem Row.dropped {w : World} {b off n c m : Nat} {zs : List Int} (h : Row w (.slice (some ⟨b, off, none⟩) n c) zs) (hm : m ≤ zs.length) (c' : Nat) : Row w (.slice (some ⟨b, off + m, none⟩) (n - m) c') (zs.drop m) := by
  rcases h with ⟨a, c2, h1, rfl⟩ | ⟨b', off', c2, h1, h2, h3, h4, h5⟩
  · cases h1
    exact Or.inl ⟨some ⟨b, off + m, none⟩, c', by simp, by simp⟩
  · cases h1
    by_cases h0 : m = zs.length
    · subst h0
      exact Or.inl ⟨_, _, by rw [Nat.sub_self], by simp⟩
    · refine Or.inr ⟨b, off + m, _, by rw [List.length_drop], by simp; omega, by simp; omega, fun j hj => ?_, fun z hz => h5 z (List.mem_of_mem_drop hz)⟩
      simp at hj
      have := h4 (m + j) (by omega)
      rw [Nat.add_assoc, this]
      congr 2
      simp [List.getD]
theorem GrowG.kept {E : TypeId} {m : Nat} {w wr w' : World} {v : Value} {l : List (List Value)} {b : Nat} {cs : Array Value} {T : TypeId} (hg : wr.grownBy w' v.ownBlock) (hB : Blk wr b cs T) (hne : v.ownBlock ≠ some b) : Blk w' b cs T := (hg.block b hB.lt (fun c => hne c.symm)).trans hB
end Go.Proofs.Ytifdabmdacpmgaa
