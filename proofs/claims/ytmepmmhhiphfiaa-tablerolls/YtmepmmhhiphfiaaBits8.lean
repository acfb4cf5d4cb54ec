/- The reference's Of; a Big's bits, loaded and stored whole. -/
import Derived.Test.YtmepmmhhiphfiaaBits7
namespace Go.Proofs.Ytmepmmhhiphfiaa
open Go.RowKit
set_option linter.unusedSimpArgs false
theorem rof_any (n : Int) (h : In64 n) (w : World) : Calls Try.prog 55 #[.int .i64 n] w fun e w' => e = .returned (.agg #[.int .i64 (hi n), .int .u64 (lo n)]) ∧ Below w.heap.size w w' := by
  have h1 := h.lo; have h2 := h.hi
  by_cases hn : n < 0
  · have t := decide_eq_true hn
    have e1 := hide (show hi n = -1 by unfold hi wrap64; omega)
    go_enter Try.func55, Try.ntmps55
    go_wp2_with fail
    refine bodyPost_ret (v := .agg #[.int .i64 (-1), .int .u64 (IntKind.u64.wrap n)]) (by simp [results, Try.results55, go_sem]) rfl ⟨?_, (Below.refl _ _).alloc (Nat.le_refl _) _⟩
    rw [unhide e1, IntKind.wrap_u64]
    rfl
  · have t := decide_eq_false hn
    have e1 := hide (show hi n = 0 by unfold hi wrap64; omega)
    have e2 := hide (show lo n = n by unfold lo; omega)
    go_enter Try.func55, Try.ntmps55
    go_wp2_with fail
    refine bodyPost_ret (v := .agg #[.int .i64 0, .int .u64 n]) (by simp [results, Try.results55, go_sem]) rfl ⟨?_, (Below.refl _ _).alloc (Nat.le_refl _) _⟩
    rw [unhide e1, unhide e2]
theorem cells_block {b : Nat} {t : TypeId} : ∀ (vs : List Value) (o : Nat) (w : World) (c : Array Value), w.heap[b]? = some (.cells c t (0, 0)) → ∃ c' : Array Value, (w.setCells b o vs).heap[b]? = some (.cells c' t (0, 0)) ∧ c'.size = c.size
  | [], _, _, c, h => ⟨c, h, rfl⟩
  | v :: r, o, w, c, h => by
    obtain ⟨c', h', e⟩ := cells_block r (o + 1) (w.setCell ⟨b, o, none⟩ v) _ (Go.heap_setCell_same w b o _ _ v h)
    exact ⟨c', h', by rw [e, Array.size_setIfInBounds]⟩
theorem cells_other {b c : Nat} (hc : c ≠ b) : ∀ (vs : List Value) (o : Nat) (w : World), (w.setCells b o vs).heap[c]? = w.heap[c]?
  | [], _, _ => rfl
  | v :: r, o, w => (cells_other hc r (o + 1) _).trans (heap_setCell_other w _ c v hc)
theorem GRow.range {w : World} {b : Nat} {l : Bool} {f : Nat → Nat} (h : GRow w b l f) : w.rangeAt b 1 (bv f).toList := by
  intro j v hv
  have hj : j < 260 := by
    have := (List.getElem?_eq_some_iff.1 hv).1
    simpa [bv_size] using this
  rw [h.cell hj, ← hv]
  rw [Array.getElem?_toList, bv_get hj]
theorem GRow.there {w : World} {b : Nat} {l : Bool} {f : Nat → Nat} (h : GRow w b l f) : w.there b 1 260 := by
  intro j hj
  exact ⟨by rw [h.cell hj]; rfl, h.frozen _⟩
theorem GRow.setB {w : World} {b : Nat} {l : Bool} {f : Nat → Nat} (h : GRow w b l f) (g : Nat → Nat) : GRow (w.setCells b 1 (bv g).toList) b l g := by
  obtain ⟨c, hc, hs⟩ := cells_block (bv g).toList 1 w _ h
  have hl : (bv g).toList.length = 260 := by simp [bv_size]
  unfold GRow
  rw [hc, gv_ext (l := l) (f := g) (c := c) (by rw [hs, gv_size]) ?_ ?_]
  · rw [← cell_of_row _ b 0 c _ _ hc, World.cell?_setCells_out b _ _ _ _ (fun _ _ => Or.inl (by show 0 < 1; omega))]
    exact h.less
  · intro i hi
    rw [← cell_of_row _ b (1 + i) c _ _ hc, World.cell?_setCells_in b _ _ _ (fun j hj => (h.there j (by omega)).1) i (by omega)]
    have := bv_get (f := g) hi
    rw [← Array.getElem?_toList, List.getElem?_eq_getElem (by omega)] at this
    exact this
theorem GRow.setBOther {w : World} {b c : Nat} {l : Bool} {f : Nat → Nat} (h : GRow w b l f) (hc : b ≠ c) (vs : List Value) (o : Nat) : GRow (w.setCells c o vs) b l f := (cells_other hc vs o w).trans h
theorem storeB {w : World} {b : Nat} {l : Bool} {f : Nat → Nat} (g : Nat → Nat) (h : GRow w b l f) : (storeCells ⟨b, 1, none⟩ (bv g).toList).run Try.prog w = .ok () (w.setCells b 1 (bv g).toList) := by
  have hl : (bv g).toList.length = 260 := by simp [bv_size]
  have := run_storeCells_cells (P := Try.prog) b 1 (bv g).toList 0 w (fun j hj => by simpa using (h.there j (by omega)).1) (fun j hj => by simpa using (h.there j (by omega)).2)
    (fun v hv => (Array.all_eq_true_iff_forall_mem.1 (bv_all g)) v (by simpa using hv))
  simpa using this
theorem wp_loadB {o : Oper} {a : Act} {w : World} {K : Act → World → Prop} {Q : Exit → Act → World → Prop} {x : Operand} {b : Nat} {l : Bool} {f : Nat → Nat} (hr : GRow w b l f) (ho : o.op = .load 82 x) (hx : a.eval x = .pointer (some ⟨b, 1, none⟩))
    (h : K (a.put o.dst (.agg (bv f))) w) : o.wp Try.prog a w K Q :=
  wp_load_mid 82 x ho b 1 hx (bv f).toList _ hr.range Try.underlying82 rfl (by rw [show (bv f).toList.length = (bv f).size by simp]; exact size54 f) (by simpa using h)
/-- x's lowest 64 bits, moved up by i. -/
def mv (f : Nat → Nat) (i k : Nat) : Nat → Nat := fun j => if i ≤ j ∧ j < i + k then f (j - i) else 0
theorem mv_zero (f : Nat → Nat) (i : Nat) : mv f i 0 = zb := by
  funext j
  unfold mv zb
  rw [if_neg (by omega)]
theorem mv_step (f : Nat → Nat) (i k : Nat) : upd (mv f i k) (k + i) (f k) = mv f i (k + 1) := by
  funext j
  unfold upd mv
  by_cases e : j = k + i
  · subst e
    rw [if_pos rfl, if_pos (by omega), show k + i - i = k by omega]
  · rw [if_neg e]
    by_cases c : i ≤ j ∧ j < i + k
    · rw [if_pos c, if_pos (by omega)]
    · rw [if_neg c, if_neg (by omega)]
theorem mv_bit {f : Nat → Nat} (hf : Bit f) (i k : Nat) : Bit (mv f i k) := by
  intro j
  unfold mv
  split
  · exact hf _
  · omega
theorem val_lo0 {f : Nat → Nat} : ∀ {i : Nat}, (∀ j, j < i → f j = 0) → val f i = 0
  | 0, _ => rfl
  | i + 1, h => by show val f i + f i * P2 i = 0; rw [val_lo0 (fun j hj => h j (by omega)), h i (by omega)]; omega
theorem val_mv (f : Nat → Nat) {i : Nat} (hi : i < 64) : val (mv f i 64) 260 = P2 i * val f 64 := by
  have h1 : val (mv f i 64) 260 = val (mv f i 64) (i + 64) := by
    have := val_top0 (f := mv f i 64) (k := i + 64) (fun j hj => by unfold mv; rw [if_neg (by omega)]) (260 - (i + 64))
    rwa [show i + 64 + (260 - (i + 64)) = 260 by omega] at this
  rw [h1, val_split, val_lo0 (fun j hj => by unfold mv; rw [if_neg (by omega)]), Nat.zero_add,
    val_congr (f := fun j => mv f i 64 (i + j)) (g := f) (n := 64) (fun j hj => by show mv f i 64 (i + j) = f j; unfold mv; rw [if_pos (by omega), Nat.add_sub_cancel_left])]
end Go.Proofs.Ytmepmmhhiphfiaa
