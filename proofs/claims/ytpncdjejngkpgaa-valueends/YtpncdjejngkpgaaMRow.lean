/- Rows of numbers: such as come in, such as are made, such as are appended to; what Ints answers. -/
import Derived.Test.YtpncdjejngkpgaaWide3
import Derived.WalkKit
import Derived.WalkSpells
import Derived.ProofKit
import Derived.OpenShut
import Derived.ShutString
import Derived.ChangeOld
import Derived.Deep.Draws
import Derived.Deep.OwnRows
import Derived.Below
namespace Go.Proofs.Ytpncdjejngkpgaa.Mn
open Go.RowKit
set_option linter.unusedSimpArgs false
/-- The slice value v leads, in the world w, to the numbers zs (a nil or empty one to none). -/
def Row (w : World) (v : Value) (zs : List Int) : Prop :=
  (∃ a cap, v = .slice a 0 cap ∧ zs = []) ∨
  ∃ b off cap, v = .slice (some ⟨b, off, none⟩) zs.length cap ∧ 0 < zs.length ∧ zs.length ≤ maxLen ∧ (∀ j, j < zs.length → w.cell? ⟨b, off + j, none⟩ = some (.int .i64 (zs.getD j 0))) ∧ ∀ z ∈ zs, In64 z
theorem getD_in {zs : List Int} (h : ∀ z ∈ zs, In64 z) (k : Nat) : In64 (zs.getD k 0) := by
  by_cases hk : k < zs.length
  · have : zs.getD k 0 = zs[k] := by simp [List.getD, hk]
    rw [this]; exact h _ (List.getElem_mem hk)
  · have : zs.getD k 0 = 0 := by simp [List.getD, List.getElem?_eq_none (Nat.le_of_not_lt hk)]
    rw [this]; exact ⟨by omega, by omega⟩
theorem lt_of_cell {w : World} {b o : Nat} {v : Value} (h : w.cell? ⟨b, o, none⟩ = some v) : b < w.heap.size := by
  by_cases hb : b < w.heap.size
  · exact hb
  · exfalso
    have e : w.heap[b]? = none := Array.getElem?_eq_none (Nat.le_of_not_lt hb)
    simp [World.cell?, e] at h
def sameB (xs ys : List Int) : Bool := decide (xs = ys)
theorem sameB_refl (xs : List Int) : sameB xs xs = true := by simp [sameB]
theorem sameB_no {xs ys : List Int} (h : xs ≠ ys) : sameB xs ys = false := by simp [sameB, h]
theorem row_slice {w : World} {v : Value} {zs : List Int} (h : Row w v zs) : ∃ a cap, v = .slice a zs.length cap := by
  rcases h with ⟨a, cap, rfl, rfl⟩ | ⟨b, off, cap, rfl, _⟩
  · exact ⟨a, cap, rfl⟩
  · exact ⟨_, cap, rfl⟩
theorem ret_bool {a b : Bool} (h : a = b) : Ending.returned (.bool a) = .returned (.bool b) := by rw [h]
theorem same_diff (a a' : Option Addr) (l l' c c' : Nat) (h : l ≠ l') (w : World) :
    Calls Try.prog 13 #[.slice a l c, .slice a' l' c'] w fun e w' => e = .returned (.bool false) ∧ w = w' := by
  have h1 : ((l : Int) != (l' : Int)) = true := by rw [bne_iff_ne]; omega
  go_enter Try.func13, Try.ntmps13
  go_wp2
  go_ret
  exact ⟨rfl, rfl⟩
theorem same_empty (a a' : Option Addr) (c c' : Nat) (w : World) :
    Calls Try.prog 13 #[.slice a 0 c, .slice a' 0 c'] w fun e w' => e = .returned (.bool true) ∧ w = w' := by
  go_enter Try.func13, Try.ntmps13
  go_wp2
  refine wp_loop_rounds 1 ?_
  rw [rounds_succ]
  go_wp2
  go_ret
  exact ⟨rfl, rfl⟩
set_option maxHeartbeats 800000 in
theorem same_row (b off c b' off' c' : Nat) (xs ys : List Int) (w : World) (hl : xs.length = ys.length) (hm : xs.length ≤ maxLen)
    (hx : ∀ j, j < xs.length → w.cell? ⟨b, off + j, none⟩ = some (.int .i64 (xs.getD j 0)))
    (hy : ∀ j, j < xs.length → w.cell? ⟨b', off' + j, none⟩ = some (.int .i64 (ys.getD j 0))) :
    Calls Try.prog 13 #[.slice (some ⟨b, off, none⟩) xs.length c, .slice (some ⟨b', off', none⟩) xs.length c'] w fun e w' => e = .returned (.bool (sameB xs ys)) ∧ ∃ n, w' = w.drewN n := by
  unfold maxLen at hm
  have HX := hide hx
  have HY := hide hy
  have Hyes : Hid ((∀ j, j < xs.length → xs.getD j 0 = ys.getD j 0) → sameB xs ys = true) := hide (fun h => by
    rw [show xs = ys from List.ext_getElem hl (fun j h1 h2 => by
      have := h j h1
      simpa [List.getD, h1, h2] using this)]
    exact sameB_refl _)
  have Hno : Hid (∀ j, xs.getD j 0 ≠ ys.getD j 0 → sameB xs ys = false) := hide (fun j h => sameB_no (fun e => h (by rw [e])))
  clear hx hy
  generalize hlen : xs.length = len at *
  clear hlen hl
  have d1 : ((len : Int) != (len : Int)) = false := by simp
  go_enter Try.func13, Try.ntmps13
  go_wp2
  go_loopw [13] (fun i wr => ∃ k n : Nat, k ≤ len ∧ i = .int .i64 k ∧ wr = w.drewN n ∧ Hid (∀ j, j < k → xs.getD j 0 = ys.getD j 0)) (fun i _ => len - (intOf i).toNat)
  case atStart => exact ⟨0, 0, by omega, rfl, rfl, hide (fun j hj => by omega)⟩
  case round =>
    obtain ⟨k, n, hk, rfl, rfl, HK⟩ := hrel
    by_cases hlt : k < len
    · have h1 := unhide HX k hlt
      have h2 := unhide HY k hlt
      have HN := hide (unhide Hno k)
      have HK' : Hid (xs.getD k 0 = ys.getD k 0 → ∀ j, j < k + 1 → xs.getD j 0 = ys.getD j 0) := hide (fun h j hj => by
        by_cases e : j = k
        · rw [e]; exact h
        · exact unhide HK j (by omega))
      generalize xs.getD k 0 = x at *
      generalize ys.getD k 0 = y at *
      by_cases he : x = y
      · subst he
        have hb : (x != x) = false := by simp
        have HK2 := hide (unhide HK' rfl)
        clear HK' HN
        go_wp2
        go_region
        all_goals (try go_wp2)
        go_roundw
        case rel => exact ⟨k + 1, n + 1, by omega, by go_num, rfl, HK2⟩
        case measure => simp [intOf]; omega
      · have hb : (x != y) = true := by simp [he]
        have HF := hide (unhide HN he)
        go_wp2
        go_region
        all_goals (try go_wp2)
        all_goals go_ret
        all_goals exact ⟨ret_bool (unhide HF).symm, n + 1, rfl⟩
    · have hk2 : k = len := by omega
      subst hk2
      have HF := hide (unhide Hyes (unhide HK))
      go_wp2
      go_ret
      exact ⟨ret_bool (unhide HF).symm, n, rfl⟩
theorem same_any (v u : Value) (xs ys : List Int) (w : World) (h : Row w v xs) (h' : Row w u ys) :
    Calls Try.prog 13 #[v, u] w fun e w' => e = .returned (.bool (sameB xs ys)) ∧ ∃ n, w' = w.drewN n := by
  by_cases hl : xs.length = ys.length
  · rcases h with ⟨a, c, rfl, rfl⟩ | ⟨b, off, c, rfl, h0, hm, hc, hin⟩
    · rcases h' with ⟨a', c', rfl, rfl⟩ | ⟨b', off', c', rfl, h0', hm', hc', hin'⟩
      · rw [sameB_refl]
        exact (same_empty a a' c c' w).mono fun e w' h => ⟨h.1, 0, h.2.symm⟩
      · rw [← hl] at h0'; exact absurd h0' (by decide)
    · rcases h' with ⟨a', c', rfl, rfl⟩ | ⟨b', off', c', rfl, h0', hm', hc', hin'⟩
      · rw [hl] at h0; exact absurd h0 (by decide)
      · rw [← hl]
        exact same_row b off c b' off' c' xs ys w hl hm hc (by rw [hl]; exact hc')
  · obtain ⟨a, c, rfl⟩ := row_slice h
    obtain ⟨a', c', rfl⟩ := row_slice h'
    rw [sameB_no (fun e => hl (by rw [e]))]
    exact (same_diff a a' _ _ c c' hl w).mono fun e w' h => ⟨h.1, 0, h.2.symm⟩
/-- Any part of the program that reads a row may do so in a later world. -/
theorem Row.later {w w' : World} {v : Value} {zs : List Int} (h : Row w v zs) (hc : ∀ a x, w.cell? a = some x → w'.cell? a = some x) : Row w' v zs := by
  rcases h with h | ⟨b, off, cap, h1, h2, h3, h4, h5⟩
  · exact Or.inl h
  · exact Or.inr ⟨b, off, cap, h1, h2, h3, fun j hj => hc _ _ (h4 j hj), h5⟩
theorem Row.below {B : Nat} {w w' : World} {v : Value} {zs : List Int} (h : Row w v zs) (hb : Below B w w') (hB : w.heap.size ≤ B) : Row w' v zs := by
  rcases h with h | ⟨b, off, cap, h1, h2, h3, h4, h5⟩
  · exact Or.inl h
  · exact Or.inr ⟨b, off, cap, h1, h2, h3, fun j hj => (hb.cell (p := ⟨b, off + j, none⟩) (Nat.lt_of_lt_of_le (lt_of_cell (h4 j hj)) hB)).trans (h4 j hj), h5⟩
theorem Row.alloc {w : World} {v : Value} {zs : List Int} (h : Row w v zs) (o : Obj) : Row (w.alloc o) v zs := h.below ((Below.refl w.heap.size w).alloc (Nat.le_refl _) o) (Nat.le_refl _)
/-- Since the world w, below its end nothing has turned; the slice value v owns the numbers zs, in memory that is new since. -/
structure Grow (E : TypeId) (w wr : World) (v : Value) (zs : List Int) : Prop where
  below : Below w.heap.size w wr
  owns : wr.ownsRow w.heap.size E 1 v zs.length (zs.map (Value.int .i64))
  small : ∀ z ∈ zs, In64 z
theorem Grow.nil (E : TypeId) (w wr : World) (h : Below w.heap.size w wr) : Grow E w wr (.slice none 0 0) [] :=
  ⟨h, World.ownsRow_nil _ _ _ _, fun z hz => by cases hz⟩
theorem Grow.row {E : TypeId} {w wr : World} {v : Value} {zs : List Int} (h : Grow E w wr v zs) (hm : zs.length ≤ maxLen) : Row wr v zs := by
  obtain ⟨h1, h2⟩ := h.owns
  rcases h2 with ⟨rfl, h0⟩ | ⟨g, cap, cur, rfl, _⟩
  · exact Or.inl ⟨none, 0, rfl, List.eq_nil_of_length_eq_zero h0⟩
  · by_cases h0 : zs.length = 0
    · rw [h0]; exact Or.inl ⟨_, cap, rfl, List.eq_nil_of_length_eq_zero h0⟩
    · refine Or.inr ⟨g, 0, cap, rfl, by omega, hm, fun j hj => ?_, h.small⟩
      rw [Nat.zero_add, h.owns.cellAt j (by omega)]
      simp [List.getD, hj]
theorem push_law {ops : Array Oper} {rest : List Oper} {o : Oper} {a : Act} {Q : Exit → Act → World → Prop} (E T : TypeId) (hu : Try.prog.underlying T = some (.slice E)) (hinfo : (Try.prog.info? E).map (fun i => (i.zero, i.size, i.bytes)) = some (some (.int .i64 0), 1, 8)) (hgd : o.guard = none) (s x : Operand)
    (ho : o.op = .call { callee := .builtin .append, args := #[s, x], argTypes := #[T, T] })
    (w wr : World) (v : Value) (zs : List Int) (z : Int) (hG : Grow E w wr v zs) (hs : a.eval s = v) (hx : a.eval x = .slice (some ⟨wr.heap.size, 0, none⟩) 1 1)
    (hlen : zs.length ≤ 1000000) (hz : In64 z)
    (h : ∀ v' w', Grow E w w' v' (zs ++ [z]) → wpList Try.prog ops Q rest (a.put o.dst v') w') : wpList Try.prog ops Q (o :: rest) a (wr.alloc (.cells #[.int .i64 z] E)) := by
  obtain ⟨i0, hi, hz0, hz1, hz2⟩ := info_parts hinfo
  have hsize := hG.below.size
  refine wpList_append_own _ hgd s x T ho w.heap.size E i0 (.int .i64 0) 1 8 hu hi hz0 hz1 hz2 rfl (by decide) v zs.length _ hs (hG.owns.alloc _) ⟨wr.heap.size, 0, none⟩ 1 1 [.int .i64 z] hx rfl ?_ ?_ (by unfold maxLen; omega) (by omega) (by simp; omega) ?_
  · intro j u hj
    match j, hj with
    | 0, hj => simp at hj; subst hj; simp [Addr.add]
  · intro u hu; simp at hu; subst hu; rfl
  · intro v' w' hown hgrow _
    refine h v' w' ⟨?_, ?_, ?_⟩
    · exact (hG.below.alloc hsize _).grown hgrow (by simp; omega) (fun k hk => (hG.owns.lt k hk).1)
    · simpa using hown
    · intro u hu
      rcases List.mem_append.1 hu with hu | hu
      · exact hG.small u hu
      · simp at hu; subst hu; exact hz
theorem row_open {W : World} {x : Addr} {len cap : Nat} {zs : List Int} (hl : len ≤ cap) (hm : cap ≤ maxLen) (hz : zs.length = cap)
    (hcell : ∀ i, i < zs.length → W.cell? (x.add i) = some (.int .i64 (zs.getD i 0))) (hwz : ∀ n ∈ zs, (Lit.int .i64 n).wf = true) : ∃ ys : List Int, Row W (.slice (some x) len cap) ys := by
  by_cases h0 : len = 0
  · subst h0; exact ⟨[], Or.inl ⟨_, cap, rfl, rfl⟩⟩
  · obtain ⟨b, off, rfl, hc⟩ := ints_at hcell (by omega)
    have hlen : (zs.take len).length = len := by simp; omega
    refine ⟨zs.take len, Or.inr ⟨b, off, cap, by rw [hlen], by omega, by omega, fun j hj => ?_, fun z hz => in64_of (hwz z (List.mem_of_mem_take hz))⟩⟩
    rw [hlen] at hj
    rw [hc j (by omega)]
    congr 2
    simp [List.getD, hj]
theorem Grow.keep {E : TypeId} {w wr wr' : World} {v : Value} {zs : List Int} (h : Grow E w wr v zs) (hb : Below wr.heap.size wr wr') : Grow E w wr' v zs := by
  obtain ⟨h1, ⟨h2, h3⟩, h4⟩ := h
  refine ⟨below_via h1 hb, ⟨h2, ?_⟩, h4⟩
  rcases h3 with h3 | ⟨g, cap, cur, e1, e2, e3, e4⟩
  · exact Or.inl h3
  · exact Or.inr ⟨g, cap, cur, e1, e2, (hb.block g (Array.getElem?_eq_some_iff.1 e3).1).trans e3, e4⟩
theorem info2 : (Try.prog.info? 2).map (fun i => (i.zero, i.size, i.bytes)) = some (some (.int .i64 0), 1, 8) := by kernel_rfl
end Go.Proofs.Ytpncdjejngkpgaa.Mn
