/- What the document's Split answers, at any amount and any row of weights: the same parts as money's. -/
import Derived.Test.YtcimppdeajhfmaaPart
import Derived.Test.YtcimppdeajhfmaaGrow
namespace Go.Proofs.Ytcimppdeajhfmaa
open Go.RowKit
/-- Since the world w, below its end nothing has turned; block g is a row of the call's own that begins with the numbers f 0 to f (len - 1). -/
structure OwnG (w wr : World) (g cap len : Nat) (f : Nat → Int) : Prop where
  below : Below w.heap.size w wr
  base : w.heap.size ≤ g
  owns : wr.ownsRow w.heap.size 2 1 (.slice (some ⟨g, 0, none⟩) len cap) len (((List.range len).map f).map (Value.int .i64))
theorem OwnG.cell {w wr : World} {g cap len : Nat} {f : Nat → Int} (h : OwnG w wr g cap len f) {k : Nat} (hk : k < len) : wr.cell? ⟨g, k, none⟩ = some (.int .i64 (f k)) := by
  rw [h.owns.cellAt k (by omega)]
  simp [hk]
theorem OwnG.frozen {w wr : World} {g cap len : Nat} {f : Nat → Int} (h : OwnG w wr g cap len f) (k : Nat) : wr.frozen? ⟨g, k, none⟩ = false := h.owns.frozenAt k
theorem OwnG.put {w wr : World} {g cap len : Nat} {f f' : Nat → Int} (h : OwnG w wr g cap len f) (k : Nat) (v : Int) (hf : ∀ j, (if j = k then v else f j) = f' j) : OwnG w (wr.setCell ⟨g, k, none⟩ (.int .i64 v)) g cap len f' := by
  refine ⟨h.below.setCell h.base _, h.base, ?_⟩
  have hs := (h.owns.stored k (.int .i64 v)).1
  have e : (((List.range len).map f).map (Value.int .i64)).set k (.int .i64 v) = ((List.range len).map f').map (Value.int .i64) := by
    refine List.ext_getElem (by simp) (fun j h1 h2 => ?_)
    have hj : j < len := by simpa using h2
    rw [List.getElem_set]
    simp only [List.getElem_map, List.getElem_range]
    rw [← hf j]
    by_cases e : k = j
    · rw [if_pos e, if_pos e.symm]
    · rw [if_neg e, if_neg (fun c => e c.symm)]
  rw [e] at hs
  exact hs
theorem OwnG.as {w wr : World} {g cap len : Nat} {f f' : Nat → Int} (h : OwnG w wr g cap len f) (hf : ∀ j, f j = f' j) : OwnG w wr g cap len f' := by
  have e : f = f' := funext hf
  rw [← e]; exact h
theorem OwnG.row {w wr : World} {g cap len : Nat} {f : Nat → Int} (h : OwnG w wr g cap len f) (hm : len ≤ maxLen) (hf : ∀ j, In64 (f j)) : Row wr (.slice (some ⟨g, 0, none⟩) len cap) ((List.range len).map f) := by
  by_cases h0 : len = 0
  · subst h0; exact Or.inl ⟨_, cap, rfl, rfl⟩
  · refine Or.inr ⟨g, 0, cap, by simp, by simp; omega, by simpa using hm, fun j hj => ?_, fun z hz => ?_⟩
    · have hj' : j < len := by simpa using hj
      rw [Nat.zero_add, h.cell hj']
      simp [List.getD, hj']
    · obtain ⟨j, _, rfl⟩ := List.mem_map.1 hz
      exact hf j
/-- A row that was built by append, with something in it, has a block of its own. -/
theorem Grow.own {w wr : World} {v : Value} {len : Nat} {f : Nat → Int} (h : Grow w wr v ((List.range len).map f)) (h0 : 0 < len) : ∃ g cap, v = .slice (some ⟨g, 0, none⟩) len cap ∧ OwnG w wr g cap len f := by
  have ho := h.owns
  rw [List.length_map, List.length_range] at ho
  rcases ho.2 with ⟨_, h1⟩ | ⟨g, cap, cur, rfl, hb, _⟩
  · omega
  · exact ⟨g, cap, rfl, h.below, hb, ho⟩
theorem may_nonneg {v : Int} (h : 0 ≤ v) : may v = decide (v ≤ 10000000000000) := by
  unfold may
  rw [decide_eq_true (show -10000000000000 ≤ v by omega), Bool.true_and]
theorem rsplit_empty (n : Int) (a : Option Addr) (cap : Nat) (w : World) :
    Calls Try.prog 24 #[.int .i64 n, .slice a 0 cap] w fun e w' => e = .returned (.tuple #[.slice none 0 0, .int .i64 2]) ∧ w = w' := by
  go_enter Try.func24, Try.ntmps24
  go_wp2_with fail
  refine wp_loop_rounds 1 ?_
  rw [rounds_succ]
  go_wp2_with fail
  go_ret2
  exact ⟨rfl, rfl⟩
set_option maxHeartbeats 1000000 in
theorem rsplit_long (n z : Int) (b off len cap : Nat) (w : World) (h : 600 < len) (hc : w.cell? ⟨b, off, none⟩ = some (.int .i64 z)) :
    Calls Try.prog 24 #[.int .i64 n, .slice (some ⟨b, off, none⟩) len cap] w fun e w' => e = .returned (.tuple #[.slice none 0 0, .int .i64 2]) ∧ w = w' := by
  have h2 : (600 : Int) < (len : Int) := by omega
  have h3 : 0 < len := by omega
  by_cases hz : z < 0
  · go_enter Try.func24, Try.ntmps24
    go_wp2_with fail
    refine wp_loop_rounds 1 ?_
    rw [rounds_succ]
    go_wp2_with fail
    go_ret2
    exact ⟨rfl, rfl⟩
  · cases hm : may z with
    | false =>
      go_enter Try.func24, Try.ntmps24
      go_wp2_with fail
      refine wp_loop_rounds 1 ?_
      rw [rounds_succ]
      go_wp2_with fail
      refine (rmay_any z _).mono ?_
      rintro e w' ⟨rfl, rfl⟩
      go_wp2_with fail
      go_ret2
      exact ⟨rfl, rfl⟩
    | true =>
      go_enter Try.func24, Try.ntmps24
      go_wp2_with fail
      refine wp_loop_rounds 1 ?_
      rw [rounds_succ]
      go_wp2_with fail
      refine (rmay_any z _).mono ?_
      rintro e w' ⟨rfl, rfl⟩
      go_wp2_with fail
      go_ret2
      exact ⟨rfl, rfl⟩
end Go.Proofs.Ytcimppdeajhfmaa
