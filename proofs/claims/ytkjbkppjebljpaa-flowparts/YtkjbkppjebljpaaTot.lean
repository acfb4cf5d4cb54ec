/- What Total answers, the program's and the document's. -/
import Derived.Test.YtkjbkppjebljpaaConv
import Derived.Test.YtkjbkppjebljpaaRSum
namespace Go.Proofs.Ytkjbkppjebljpaa
open Go.RowKit
set_option linter.unusedSimpArgs false
/-- Below block P nothing has turned; block P is a row of len numbers, f. -/
structure Own (w wr : World) (P len : Nat) (f : Nat → Int) : Prop where
  below : Below P w wr
  row : wr.rowIs P 2 len (fun j => .int .i64 (f j))
theorem Own.put {w wr : World} {P len : Nat} {f g : Nat → Int} (h : Own w wr P len f) (k : Nat) (v : Int) (hg : ∀ j, (if j = k then v else f j) = g j) : Own w (wr.setCell ⟨P, k, none⟩ (.int .i64 v)) P len g :=
  ⟨h.below.setCell (Nat.le_refl _) _, (h.row.set k _).congr (fun j _ => by
    by_cases e : j = k
    · rw [if_pos e, ← hg j, if_pos e]
    · rw [if_neg e, ← hg j, if_neg e])⟩
theorem Own.as {w wr : World} {P len : Nat} {f g : Nat → Int} (h : Own w wr P len f) (hg : ∀ j, j < len → f j = g j) : Own w wr P len g :=
  ⟨h.below, h.row.congr (fun j hj => by rw [hg j hj])⟩
theorem Own.alloc {w wr : World} {P len : Nat} {f : Nat → Int} (h : Own w wr P len f) (o : Obj) : Own w (wr.alloc o) P len f :=
  ⟨h.below.alloc (Nat.le_of_lt h.row.lt) o, h.row.alloc o⟩
theorem Own.keep {w wr wr' : World} {P len : Nat} {f : Nat → Int} (h : Own w wr P len f) (hb : Below wr.heap.size wr wr') : Own w wr' P len f :=
  ⟨h.below.trans (hb.mono (Nat.le_of_lt h.row.lt)), h.row.of_block (hb.block P h.row.lt)⟩
theorem Own.drewN {w wr : World} {P len : Nat} {f : Nat → Int} (h : Own w wr P len f) (n : Nat) : Own w (wr.drewN n) P len f :=
  ⟨h.below.trans ⟨rfl, rfl, rfl, Nat.le_refl _, fun _ _ => rfl⟩, h.row⟩
theorem Own.asRow {w wr : World} {P len cap : Nat} {f : Nat → Int} (h : Own w wr P len f) (hm : len ≤ maxLen) (hf : ∀ j, In64 (f j)) : Row wr (.slice (some ⟨P, 0, none⟩) len cap) ((List.range len).map f) := by
  by_cases h0 : len = 0
  · subst h0; exact Or.inl ⟨_, cap, rfl, rfl⟩
  · refine Or.inr ⟨P, 0, cap, by simp, by simp; omega, by simpa using hm, fun j hj => ?_, fun z hz => ?_⟩
    · have hj' : j < len := by simpa using hj
      rw [Nat.zero_add, h.row.cell hj']
      simp [List.getD, hj']
    · obtain ⟨j, _, rfl⟩ := List.mem_map.1 hz
      exact hf j
theorem range_getF (l : List (Int × Int)) : (List.range l.length).map (fun j => (getF l j).2) = l.map Prod.snd := by
  refine List.ext_getElem (by simp) (fun j h1 h2 => ?_)
  have hj : j < l.length := by simpa using h1
  simp [getF, List.getD, hj]
theorem total_map (l : List (Int × Int)) : total (l.map Prod.snd) = tot l := by
  induction l with
  | nil => rfl
  | cons f r ih => show f.2 + total (r.map Prod.snd) = f.2 + tot r; rw [ih]
theorem sum_of {v : Value} {zs : List Int} {n : Int} (w : World) (h : Row w v zs) (hn : total zs = n) :
    Calls Try.prog 32 #[v] w fun e w' => e = .returned (.tuple #[.int .i64 (okN n), .int .i64 (okE n)]) ∧ w = w' := by
  subst hn
  exact sum_any v zs w h
set_option maxRecDepth 20000 in
set_option maxHeartbeats 2000000 in
theorem total_row (b off cap : Nat) (l : List (Int × Int)) (w : World) (hm : l.length ≤ 1000) (hc : CellsF w b off l) (h64 : ∀ f ∈ l, In64 f.1 ∧ In64 f.2) :
    Calls Try.prog 14 #[.slice (some ⟨b, off, none⟩) l.length cap] w fun e w' => e = .returned (.tuple #[.int .i64 (okN (tot l)), .int .i64 (okE (tot l))]) ∧ Below w.heap.size w w' := by
  have HC := hide hc
  have H64 := hide (fun j => (getF_64 h64 j).2)
  have HT := hide (total_map l)
  have HA := hide (range_getF l)
  clear hc h64
  generalize hl : l.length = len at *
  have hmk := run_make_row' (P := Try.prog) 47 2 (.int .i64 0) 8 Try.underlying47 Try.info2 rfl .i64 .i64 len (by omega) (by omega)
  go_enter Try.func14, Try.ntmps14
  go_wp2_with fail
  clear hmk
  go_loopw [12] (fun i wr => ∃ k : Nat, k ≤ len ∧ i = .int .i64 k ∧ Hid (Own w wr w.heap.size len (fun j => if j < k then (getF l j).2 else 0))) (fun i _ => len - (intOf i).toNat)
  case atStart => exact ⟨0, by omega, rfl, hide ⟨(Below.refl _ _).alloc (Nat.le_refl _) _, (World.rowIs_made w _ len 2).congr (fun j _ => by simp)⟩⟩
  case round =>
    obtain ⟨k, hk, rfl, how⟩ := hrel
    by_cases hlt : k < len
    · obtain ⟨c0, c1⟩ := (unhide HC).keep ((unhide how).below) k (by rw [hl]; exact hlt)
      have Hput : Hid (∀ j, (if j = k then (getF l k).2 else if j < k then (getF l j).2 else 0) = if j < k + 1 then (getF l j).2 else 0) := hide (fun j => by
        by_cases e : j = k
        · subst e; rw [if_pos rfl, if_pos (by omega)]
        · rw [if_neg e]
          by_cases c : j < k
          · rw [if_pos c, if_pos (by omega)]
          · rw [if_neg c, if_neg (by omega)])
      generalize getF l k = f at *
      obtain ⟨d, a⟩ := f
      replace c0 : wr.cell? ⟨b, off + k * 2, none⟩ = some (.int .i64 d) := c0
      replace c1 : wr.cell? ⟨b, off + k * 2 + 1, none⟩ = some (.int .i64 a) := c1
      have hPlt := (unhide how).row.lt
      have hPne : ¬ w.heap.size = wr.heap.size := by omega
      have hpk0 := (unhide how).row.cell (show k < len by omega)
      have hpf0 := (unhide how).row.frozen k
      rw [if_neg (Nat.lt_irrefl k)] at hpk0
      have hkT : (k : Int) < (len : Int) := by omega
      go_wp2_with fail
      go_roundw
      case rel => exact ⟨k + 1, by omega, by go_num, hide (((unhide how).put k a (unhide Hput)).alloc _)⟩
      case measure => simp [intOf]; omega
    · obtain rfl : k = len := by omega
      have how2 : Hid (Own w wr w.heap.size k (fun j => (getF l j).2)) := hide ((unhide how).as (fun j hj => if_pos hj))
      have HR := hide ((unhide how2).asRow (cap := k) (by unfold maxLen; omega) (unhide H64))
      rw [unhide HA] at HR
      go_wp2_with fail
      refine (sum_of _ (unhide HR) (unhide HT)).mono ?_
      rintro e w' ⟨rfl, rfl⟩
      go_wp2_with fail
      go_ret2
      exact ⟨rfl, (unhide how2).below⟩
theorem total_none (x : Option Addr) (n cap : Nat) (hn : Hid (n = 0)) (w : World) : Calls Try.prog 14 #[.slice x n cap] w fun e w' => e = .returned (.tuple #[.int .i64 0, .int .i64 0]) ∧ Below w.heap.size w w' := by
  have hmk := run_make_row' (P := Try.prog) 47 2 (.int .i64 0) 8 Try.underlying47 Try.info2 rfl .i64 .i64 n (by have := unhide hn; omega) (by have := unhide hn; omega)
  go_enter Try.func14, Try.ntmps14
  go_wp2_with fail
  clear hmk
  have hn2 := unhide hn
  subst hn2
  refine wp_loop_rounds 1 ?_
  rw [rounds_succ]
  go_wp2_with fail
  refine (sum_any _ [] _ (Or.inl ⟨_, _, rfl, rfl⟩)).mono ?_
  rintro e w' ⟨rfl, rfl⟩
  go_wp2_with fail
  go_ret2
  exact ⟨rfl, (Below.refl _ _).alloc (Nat.le_refl _) _⟩
theorem total_any (v : Value) (l : List (Int × Int)) (w : World) (h : RowF w v l) (hm : l.length ≤ 1000) : Calls Try.prog 14 #[v] w fun e w' => e = .returned (.tuple #[.int .i64 (okN (tot l)), .int .i64 (okE (tot l))]) ∧ Below w.heap.size w w' := by
  rcases h with ⟨a, cap, rfl, rfl, _⟩ | ⟨b, off, cap, rfl, h0, _, _, hc, hin⟩
  · exact total_none a 0 cap (hide rfl) w
  · exact total_row b off cap l w hm hc hin
theorem Grow.fine {E : TypeId} {w wr : World} {v : Value} {zs : List Int} (h : Grow E w wr v zs) : Fine v := by
  intro a l c e
  rcases h.owns.2 with ⟨h1, _⟩ | ⟨g, cap, cur, h1, _, _, h5, _⟩
  · rw [h1] at e; cases e; exact ⟨Nat.le_refl _, fun _ => rfl⟩
  · rw [h1] at e; cases e; exact ⟨h5, fun c => (by cases c)⟩
theorem rsum_of {v : Value} {zs : List Int} {n : Int} (w : World) (h : Row w v zs) (hf : Fine v) (hl : zs.length ≤ 1000) (hn : total zs = n) :
    Calls Try.prog 33 #[v] w fun e w' => e = .returned (.tuple #[.int .i64 (okN n), .int .i64 (okE n)]) ∧ Below w.heap.size w w' := by
  subst hn
  exact rsum_any v zs w h hf hl
set_option maxRecDepth 20000 in
set_option maxHeartbeats 2000000 in
theorem rtotal_row (b off cap : Nat) (l : List (Int × Int)) (w : World) (hm : l.length ≤ 1000) (hc : CellsF w b off l) (h64 : ∀ f ∈ l, In64 f.1 ∧ In64 f.2) :
    Calls Try.prog 15 #[.slice (some ⟨b, off, none⟩) l.length cap] w fun e w' => e = .returned (.tuple #[.int .i64 (okN (tot l)), .int .i64 (okE (tot l))]) ∧ Below w.heap.size w w' := by
  have HC := hide hc
  have H64 := hide h64
  have HL : Hid (∀ k, ((l.take k).map Prod.snd).length ≤ 1000000) := hide (fun k => by rw [List.length_map, List.length_take]; omega)
  have HT : Hid (∀ k, k < l.length → (l.take k).map Prod.snd ++ [(getF l k).2] = (l.take (k + 1)).map Prod.snd) := hide (fun k h => by rw [← take_getF h, List.map_append]; rfl)
  have HA : Hid ((l.take l.length).map Prod.snd = l.map Prod.snd) := hide (by rw [List.take_length])
  have HM := hide (total_map l)
  have HN : Hid ((l.map Prod.snd).length ≤ 1000) := hide (by rw [List.length_map]; exact hm)
  clear hc h64
  generalize hl : l.length = len at *
  go_enter Try.func15, Try.ntmps15
  go_wp2_with fail
  go_loopw [4, 9] (fun o i wr => ∃ k : Nat, k ≤ len ∧ i = .int .i64 k ∧ Hid (Grow 2 w wr o ((l.take k).map Prod.snd))) (fun _ i _ => len - (intOf i).toNat)
  case atStart => exact ⟨0, by omega, rfl, hide (Grow.nil _ _ _ (Below.refl _ _))⟩
  case round =>
    obtain ⟨k, hk, rfl, HG⟩ := hrel
    by_cases hlt : k < len
    · obtain ⟨c0, c1⟩ := (unhide HC).keep (unhide HG).below k (by rw [hl]; exact hlt)
      have hs := hide (getF_64 (unhide H64) k).2
      have ht := hide (unhide HT k hlt)
      have hl2 := hide (unhide HL k)
      generalize getF l k = f at *
      obtain ⟨d, a⟩ := f
      replace c0 : wr.cell? ⟨b, off + k * 2, none⟩ = some (.int .i64 d) := c0
      replace c1 : wr.cell? ⟨b, off + k * 2 + 1, none⟩ = some (.int .i64 a) := c1
      replace HG := hide ((unhide HG).keep ((Below.refl wr.heap.size wr).alloc (Nat.le_refl _) (.cells #[.int .i64 d, .int .i64 a] 40)))
      generalize (l.take k).map Prod.snd = zs at *
      go_wp2_with (at_builtin; refine push_law 2 47 Try.underlying47 Try.info2 rfl _ _ rfl w _ _ zs a (unhide HG) rfl (by simp [Act.eval, Act.put]) (unhide hl2) (unhide hs) ?_)
      intro v' w2 hG2
      replace hG2 := hide hG2
      go_wp2
      go_roundw
      case rel => exact ⟨k + 1, by omega, by go_num, by rw [← unhide ht]; exact hG2⟩
      case measure => simp [intOf]; omega
    · obtain rfl : k = len := by omega
      rw [unhide HA] at HG
      go_wp2_with fail
      refine (rsum_of _ ((unhide HG).row (Nat.le_trans (unhide HN) (by decide))) (unhide HG).fine (unhide HN) (unhide HM)).mono ?_
      rintro e w' ⟨rfl, hb⟩
      have HB := hide (below_via (unhide HG).below hb)
      clear hb HG
      go_wp2_with fail
      go_ret2
      exact ⟨rfl, unhide HB⟩
theorem rtotal_empty (x : Option Addr) (cap : Nat) (w : World) : Calls Try.prog 15 #[.slice x 0 cap] w fun e w' => e = .returned (.tuple #[.int .i64 0, .int .i64 0]) ∧ Below w.heap.size w w' := by
  go_enter Try.func15, Try.ntmps15
  go_wp2_with fail
  refine wp_loop_rounds 1 ?_
  rw [rounds_succ]
  go_wp2_with fail
  refine (rsum_any _ [] _ (Or.inl ⟨_, _, rfl, rfl⟩) (fun a l c e => by cases e; exact ⟨Nat.le_refl _, fun _ => rfl⟩) (by decide)).mono ?_
  rintro e w' ⟨rfl, hb⟩
  have HB := hide hb
  clear hb
  go_wp2_with fail
  go_ret2
  exact ⟨rfl, unhide HB⟩
theorem rtotal_any (v : Value) (l : List (Int × Int)) (w : World) (h : RowF w v l) (hm : l.length ≤ 1000) : Calls Try.prog 15 #[v] w fun e w' => e = .returned (.tuple #[.int .i64 (okN (tot l)), .int .i64 (okE (tot l))]) ∧ Below w.heap.size w w' := by
  rcases h with ⟨a, cap, rfl, rfl, _⟩ | ⟨b, off, cap, rfl, h0, _, _, hc, hin⟩
  · exact rtotal_empty a cap w
  · exact rtotal_row b off cap l w hm hc hin
end Go.Proofs.Ytkjbkppjebljpaa
