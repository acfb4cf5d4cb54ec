/- Rows of numbers appended to rows, and zeros appended to them. -/
import Derived.Test.YtpncdjejngkpgaaMGrow
import Derived.Laws.IdiomCopy
namespace Go.Proofs.Ytpncdjejngkpgaa.Mn
open Go.RowKit
set_option linter.unusedSimpArgs false
/-- The value x, in the world W, is a slice whose elements are the numbers ys. -/
def From (W : World) (x : Value) (ys : List Int) : Prop :=
  (x = .slice none 0 0 ∧ ys = []) ∨ ∃ ad c, x = .slice (some ad) ys.length c ∧ ∀ j, j < ys.length → W.cell? (ad.add j) = some (.int .i64 (ys.getD j 0))
theorem wp_from {o : Oper} {a : Act} {K : Act → World → Prop} {Q : Exit → Act → World → Prop} (s x : Operand)
    (ho : o.op = .call { callee := .builtin .append, args := #[s, x], argTypes := #[22, 22] })
    (w W : World) (v u : Value) (zs ys : List Int) (hG : Grow 2 w W v zs) (hF : From W u ys) (hs : a.eval s = v) (hx : a.eval x = u)
    (hlen : zs.length + ys.length ≤ 1000000) (hy : ∀ y ∈ ys, In64 y)
    (h : ∀ v' W', Grow 2 w W' v' (zs ++ ys) → K (a.put o.dst v') W') : o.wp Try.prog a W K Q := by
  obtain ⟨i0, hi, hz0, hz1, hz2⟩ := info_parts info2
  have hsize := hG.below.size
  rcases hF with ⟨rfl, rfl⟩ | ⟨ad, c, rfl, hc⟩
  · have hrun := run_append_owned_none (P := Try.prog) W w.heap.size 22 o.type 2 i0 1 Try.underlying22 hi v zs.length _ hG.owns
    unfold Oper.wp
    simp [execOp, ho, resolve, invoke, builtin, hs, hx, hrun, Result.andThen]
    have := h v W (by simpa using hG)
    exact this
  · refine wp_append_own W s x 22 ho w.heap.size 2 i0 (.int .i64 0) 1 8 Try.underlying22 hi hz0 hz1 hz2 rfl (by decide) v zs.length _ hs hG.owns ad ys.length c (ys.map (Value.int .i64)) hx (by simp) ?_ (ints_oneCell _ _) (by unfold maxLen; omega) (by omega) hsize ?_
    · intro j y hj
      have hjl : j < ys.length := by
        have := (List.getElem?_eq_some_iff.1 hj).1
        simpa using this
      rw [hc j hjl]
      rw [List.getElem?_map] at hj
      simpa [List.getD, hjl] using hj
    · intro v' W' hown hgrow _
      refine h v' W' ⟨?_, ?_, ?_⟩
      · exact hG.below.grown hgrow hsize (fun k hk => (hG.owns.lt k hk).1)
      · simpa using hown
      · intro y hy'
        rcases List.mem_append.1 hy' with h1 | h1
        · exact hG.small y h1
        · exact hy y h1
theorem list_from {ops : Array Oper} {rest : List Oper} {o : Oper} {a : Act} {Q : Exit → Act → World → Prop} (hgd : o.guard = none) (s x : Operand)
    (ho : o.op = .call { callee := .builtin .append, args := #[s, x], argTypes := #[22, 22] })
    (w W : World) (v u : Value) (zs ys : List Int) (hG : Grow 2 w W v zs) (hF : From W u ys) (hs : a.eval s = v) (hx : a.eval x = u)
    (hlen : zs.length + ys.length ≤ 1000000) (hy : ∀ y ∈ ys, In64 y)
    (h : ∀ v' W', Grow 2 w W' v' (zs ++ ys) → wpList Try.prog ops Q rest (a.put o.dst v') W') : wpList Try.prog ops Q (o :: rest) a W :=
  wpList_plain hgd fun _ hK => wp_from s x ho w W v u zs ys hG hF hs hx hlen hy fun v' W' h2 => hK _ _ (h v' W' h2)
/-- The empty slice that is written out. -/
theorem Grow.empty (w W : World) (h : Below w.heap.size w W) : Grow 2 w (W.alloc (.cells #[] 2)) (.slice (some ⟨W.heap.size, 0, none⟩) 0 0) [] :=
  ⟨h.alloc h.size _, W.ownsRow_lit #[] 0 h.size (by decide) rfl, fun z hz => (by cases hz)⟩
theorem From.later {W W' : World} {x : Value} {ys : List Int} (h : From W x ys) (hc : ∀ a y, W.cell? a = some y → W'.cell? a = some y) : From W' x ys := by
  rcases h with h | ⟨ad, c, h1, h2⟩
  · exact Or.inl h
  · exact Or.inr ⟨ad, c, h1, fun j hj => hc _ _ (h2 j hj)⟩
theorem from_row {W : World} {a : Option Addr} {n c : Nat} {zs : List Int} (h : Row W (.slice a n c) zs) (hn : a = none → c = 0) : From W (.slice a n c) zs := by
  have hl := row_len h
  rcases h with ⟨a', c', e, rfl⟩ | ⟨b, off, c', e, _, _, hc, _⟩
  · injection e with e1 e2 e3
    subst e1 e2 e3
    cases a with
    | none =>
      rw [hn rfl]
      exact Or.inl ⟨rfl, rfl⟩
    | some x => exact Or.inr ⟨x, c, rfl, fun j hj => absurd hj (Nat.not_lt_zero j)⟩
  · injection e with e1 e2 e3
    subst e1 e2 e3
    refine Or.inr ⟨_, _, rfl, fun j hj => ?_⟩
    rw [← hc j hj, Addr.add_lit]
theorem wrap_small (n : Nat) (h : n ≤ 255) : IntKind.i64.wrap (n : Int) = (n : Int) := by rw [IntKind.wrap_i64]; omega
/-- n zeros, as cells. -/
def zs0 (n : Nat) : List Value := (List.replicate n (0 : Int)).map (Value.int .i64)
theorem zeros_cells (n : Nat) : Builtin.zeroCells #[Value.int .i64 0] n = (zs0 n).toArray := by
  apply Array.ext'
  simp [Builtin.zeroCells, zs0]
  apply List.ext_getElem (by simp)
  intro i h1 h2
  simp [Nat.mod_one]
theorem run_zeros_nil (ty : TypeId) (n : Nat) (h0 : 0 < n) (h : n ≤ 255) (w : World) : (Builtin.append_ #[22, 5] ty #[.slice none 0 0, .int .u8 (n : Int)]).run Try.prog w =
    .ok (.slice (some ⟨w.heap.size, 0, none⟩) n (grownCap w n 0 2)) (w.drew.alloc (.cells (Builtin.zeroCells #[.int .i64 0] n ++ Builtin.zeroCells #[.int .i64 0] (grownCap w n 0 2 - n)) 2)) := by
  obtain ⟨i, hi, hz, hs, hb⟩ := info_parts info2
  have hw := wrap_small n h
  have h1 : ¬ (n : Int) < 0 := by omega
  have h2 : ¬ (281474976710656 : Int) < (n : Int) * 8 := by omega
  have h3 : n ≠ 0 := by omega
  have h4 : ¬ (9223372036854775807 < (n : Int)) := by omega
  have h5 : ¬ (281474976710656 < Builtin.nextslicecap n 0 * 8) := by rw [nextslicecap_zero h0]; omega
  simp [Builtin.append_, run_underlying Try.underlying22, run_underlying Try.underlying5, sizeOf, typeInfo, zeroValue, hi, hz, hs, hb, asInt, asIntOf, hw, h1, h2, h3, h4, h5, Question.forced, run_firstCells_none, newRow, grownCap, Value.cells]
theorem run_zeros_none (ty : TypeId) (len cap : Nat) (a : Option Addr) (hl : len ≤ cap) (w : World) : (Builtin.append_ #[22, 5] ty #[.slice a len cap, .int .u8 0]).run Try.prog w = .ok (.slice a len cap) w := by
  obtain ⟨i, hi, hz, hs, hb⟩ := info_parts info2
  have hw : IntKind.i64.wrap 0 = 0 := rfl
  cases a with
  | none => simp [Builtin.append_, run_underlying Try.underlying22, run_underlying Try.underlying5, sizeOf, typeInfo, zeroValue, hi, hz, hs, hb, asInt, asIntOf, hw, hl]
  | some x => simp [Builtin.append_, run_underlying Try.underlying22, run_underlying Try.underlying5, sizeOf, typeInfo, zeroValue, hi, hz, hs, hb, asInt, asIntOf, hw, hl, storeCells]
theorem run_zeros_room (ty : TypeId) (n : Nat) (h0 : 0 < n) (h : n ≤ 255) (g len cap : Nat) (cur : Array Value) (w : World) (hg : w.heap[g]? = some (.cells cur 2 (0, 0))) (hroom : len + n ≤ cap) (hfit : len + n ≤ cur.size) :
    (Builtin.append_ #[22, 5] ty #[.slice (some ⟨g, 0, none⟩) len cap, .int .u8 (n : Int)]).run Try.prog w =
      .ok (.slice (some ⟨g, 0, none⟩) (len + n) cap) (w.setRow g (cur.toList.take len ++ zs0 n ++ cur.toList.drop (len + n)).toArray) := by
  obtain ⟨i, hi, hz, hs, hb⟩ := info_parts info2
  have hw := wrap_small n h
  have h1 : ¬ (n : Int) < 0 := by omega
  have h2 : ¬ (281474976710656 : Int) < (n : Int) * 8 := by omega
  have h3 : n ≠ 0 := by omega
  have hn : (zs0 n).length = n := by simp [zs0]
  have hst := run_storeCells_at Try.prog g len 2 (zs0 n) 0 cur w hg (by simpa [hn] using hfit) (by intro u hu; simp [zs0] at hu; rw [hu.2]; rfl)
  simp only [Nat.add_zero, hn] at hst
  have hz' := zeros_cells n
  simp [Builtin.append_, run_underlying Try.underlying22, run_underlying Try.underlying5, sizeOf, typeInfo, zeroValue, hi, hz, hs, hb, asInt, asIntOf, hw, h1, h2, h3, hroom, Value.cells, hz', Addr.add_lit, hst]
theorem run_zeros_grow (ty : TypeId) (n : Nat) (h0 : 0 < n) (h : n ≤ 255) (b : Addr) (len cap : Nat) (olds : List Value) (w : World) (hlo : olds.length = len) (holds : ∀ j v, olds[j]? = some v → w.cell? (b.add j) = some v) (hg : cap < len + n) (h6 : len ≤ 1000000) :
    (Builtin.append_ #[22, 5] ty #[.slice (some b) len cap, .int .u8 (n : Int)]).run Try.prog w =
      .ok (.slice (some ⟨w.heap.size, 0, none⟩) (len + n) (grownCap w (len + n) cap 2)) (w.drew.alloc (.cells (olds.toArray ++ (zs0 n).toArray ++ Builtin.zeroCells #[.int .i64 0] (grownCap w (len + n) cap 2 - (len + n))) 2)) := by
  obtain ⟨i, hi, hz, hs, hb⟩ := info_parts info2
  have hw := wrap_small n h
  have h1 : ¬ (n : Int) < 0 := by omega
  have h2 : ¬ (281474976710656 : Int) < (n : Int) * 8 := by omega
  have h3 : n ≠ 0 := by omega
  have h4 : ¬ (9223372036854775807 < ((len : Int) + (n : Int))) := by omega
  have h5 : ¬ (281474976710656 < Builtin.nextslicecap (len + n) cap * 8) := by have := growslice_fits (bytes := 8) hg (by omega); omega
  have h7 : ¬ (len + n ≤ cap) := by omega
  have hfo := run_firstCells_some (P := Try.prog) w.drew 1 len b len cap olds (by simpa using hlo) (by simpa using holds)
  have hz' := zeros_cells n
  simp [Builtin.append_, run_underlying Try.underlying22, run_underlying Try.underlying5, sizeOf, typeInfo, zeroValue, hi, hz, hs, hb, asInt, asIntOf, hw, h1, h2, h3, h4, h5, h7, Question.forced, hfo, newRow, grownCap, Value.cells, hz']
  congr 2
  apply Array.ext'
  simp [List.append_assoc]
theorem grow_new {w W : World} {zs : List Int} (hB : Below w.heap.size w W) (n old : Nat) (hm : zs.length + n ≤ 1000255) (hin2 : ∀ z ∈ zs ++ List.replicate n 0, In64 z) :
    Grow 2 w (W.drew.alloc (.cells ((zs.map (Value.int .i64)).toArray ++ (zs0 n).toArray ++ Builtin.zeroCells #[.int .i64 0] (grownCap W (zs.length + n) old 2 - (zs.length + n))) 2)) (.slice (some ⟨W.heap.size, 0, none⟩) (zs.length + n) (grownCap W (zs.length + n) old 2)) (zs ++ List.replicate n 0) := by
  have hsize := hB.size
  have hge := grownCap_ge W (zs.length + n) old 2
  have hcm := grownCap_le_maxLen W (zs.length + n) old 2 (by unfold maxLen; omega)
  have hlen : (zs ++ List.replicate n (0 : Int)).length = zs.length + n := by simp
  refine ⟨(below_drew hB).alloc hsize _, ⟨by simp, .inr ⟨W.heap.size, _, _, by rw [hlen], hsize, heap_alloc_new W.drew _, by rw [hlen]; exact hge, hcm, ?_, ?_⟩⟩, hin2⟩
  · simp only [Array.size_append, List.size_toArray, size_zeroCells, zs0, List.length_map, List.length_replicate, Nat.mul_one, List.size_toArray, List.length_cons, List.length_nil]
    omega
  · simp only [Array.toList_append, zs0, Nat.mul_one, hlen]
    rw [List.take_left' (by simp)]
    simp
theorem run_zeros_own (ty : TypeId) {w W : World} {v : Value} {zs : List Int} (n : Nat) (h : n ≤ 255) (hG : Grow 2 w W v zs) (hlen : zs.length ≤ 1000000) :
    ∃ v' W', (Builtin.append_ #[22, 5] ty #[v, .int .u8 (n : Int)]).run Try.prog W = .ok v' W' ∧ Grow 2 w W' v' (zs ++ List.replicate n 0) := by
  have hsize := hG.below.size
  have hin : ∀ z ∈ zs ++ List.replicate n (0 : Int), In64 z := fun z hz => by
    rcases List.mem_append.1 hz with hz | hz
    · exact hG.small z hz
    · rw [(List.mem_replicate.1 hz).2]; exact ⟨by omega, by omega⟩
  by_cases h0 : n = 0
  · subst h0
    simp only [List.replicate_zero, List.append_nil]
    rcases hG.owns.2 with ⟨hv, hz⟩ | ⟨g, cap, cur, hv, _, _, hc, _⟩
    · exact ⟨v, W, by rw [hv]; exact run_zeros_none ty 0 0 none (Nat.le_refl _) W, hG⟩
    · exact ⟨v, W, by rw [hv]; exact run_zeros_none ty _ cap _ hc W, hG⟩
  · have hp : 0 < n := by omega
    rcases hG.owns.2 with ⟨hv, hz⟩ | ⟨g, cap, cur, hv, hbg, hg, hnc, hcm, hcs, htake⟩
    · obtain rfl : zs = [] := List.eq_nil_of_length_eq_zero hz
      subst hv
      have hg := grow_new hG.below n 0 (by simp; omega) hin
      have hr := run_zeros_nil ty n hp h W
      rw [zeros_cells] at hr
      simp only [List.length_nil, Nat.zero_add, List.map_nil, Array.empty_append] at hg
      exact ⟨_, _, hr, hg⟩
    · subst hv
      by_cases hroom : zs.length + n ≤ cap
      · have hr := run_zeros_room ty n hp h g zs.length cap cur W hg hroom (by omega)
        refine ⟨_, _, hr, ⟨hG.below.grown (row := some g) ⟨rfl, rfl, rfl, by simp, fun k _ hk => setRow_other W g k _ (fun e => hk (by rw [e]))⟩ hsize (fun k hk => by cases hk; exact hbg), ⟨by simp, .inr ⟨g, cap, _, by simp, hbg, setRow_heap W g cur _ 2 _ hg, by simpa using hroom, hcm, ?_, ?_⟩⟩, hin⟩⟩
        · simp only [List.size_toArray, List.length_append, List.length_take, List.length_drop, Array.length_toList, zs0, List.length_map, List.length_replicate]
          omega
        · simp only [Nat.mul_one] at htake
          simp only [List.length_append, List.length_replicate, Nat.mul_one, htake]
          rw [List.take_left' (by simp [zs0])]
          simp [zs0]
      · have holds := hG.owns.cells (g := g) rfl
        have hr := run_zeros_grow ty n hp h ⟨g, 0, none⟩ zs.length cap (zs.map (Value.int .i64)) W (by simp) holds (by omega) hlen
        exact ⟨_, _, hr, grow_new hG.below n cap (by omega) hin⟩
theorem list_zeros {ops : Array Oper} {rest : List Oper} {o : Oper} {a : Act} {Q : Exit → Act → World → Prop} (hgd : o.guard = none) (s x : Operand)
    (ho : o.op = .call { callee := .builtin .append, args := #[s, x], argTypes := #[22, 5] })
    (w W : World) (v : Value) (zs : List Int) (n : Nat) (hG : Grow 2 w W v zs) (hs : a.eval s = v) (hx : a.eval x = .int .u8 (n : Int)) (hn : n ≤ 255) (hlen : zs.length ≤ 1000000)
    (h : ∀ v' W', Grow 2 w W' v' (zs ++ List.replicate n 0) → wpList Try.prog ops Q rest (a.put o.dst v') W') : wpList Try.prog ops Q (o :: rest) a W :=
  wpList_plain hgd fun K hK => by
    obtain ⟨v', W', hr, h2⟩ := run_zeros_own o.type n hn hG hlen
    unfold Oper.wp execOp
    simp only [ho, resolve, invoke, builtin, Sem.run_bind, Sem.run_pure, Result.andThen_ok, List.map_toArray, List.map_cons, List.map_nil, hs, hx, hr]
    exact hK _ _ (h v' W' h2)
/-- What make lays is a row of zeros. -/
theorem grow_made {w W : World} (hB : Below w.heap.size w W) (n : Nat) (hn : n ≤ 1000) : Grow 2 w (W.alloc (.cells (madeCells #[.int .i64 0] n) 2)) (.slice (some ⟨W.heap.size, 0, none⟩) n n) (List.replicate n 0) := by
  have hsize := hB.size
  refine ⟨hB.alloc hsize _, ⟨by simp, .inr ⟨W.heap.size, n, _, by simp, hsize, heap_alloc_new W _, by simp, by unfold maxLen; omega, by rw [size_madeCells]; omega, ?_⟩⟩, fun z hz => by rw [(List.mem_replicate.1 hz).2]; exact ⟨by omega, by omega⟩⟩
  simp only [List.length_replicate, Nat.mul_one]
  rw [List.take_of_length_le (by simp [madeCells])]
  apply List.ext_getElem (by simp [madeCells])
  intro i h1 h2
  simp [madeCells, Nat.mod_one]
theorem make_u8 (n : Nat) (h : n ≤ 255) (w : World) : (Instr.makeSlice 22 (.int .u8 (n : Int)) (.int .u8 (n : Int))).run Try.prog w = .ok (.slice (some ⟨w.heap.size, 0, none⟩) n n) (w.alloc (.cells (madeCells #[.int .i64 0] n) 2)) :=
  run_make_row' (P := Try.prog) 22 2 (.int .i64 0) 8 Try.underlying22 info2 rfl .u8 .u8 n (by omega) (by omega) w
end Go.Proofs.Ytpncdjejngkpgaa.Mn
