/- What DeleteFunc makes of a row of flows that a call owns: those of 0 are gone. -/
import Derived.Test.YtkjbkppjebljpaaFn
import Derived.Test.YtkjbkppjebljpaaConv
import Derived.Lib.SliceRun
import Derived.Lib.LazyBuf
namespace Go.Proofs.Ytkjbkppjebljpaa
open Go.RowKit
set_option linter.unusedSimpArgs false
/-- clear of a slice of n flows. -/
theorem run_clear2 (w : World) (ty : TypeId) (b o n c : Nat) (hn : 0 < n) (hc : ∀ j, j < n * 2 → (w.cell? ⟨b, o + j, none⟩).isSome = true) (hf : ∀ j, j < n * 2 → w.frozen? ⟨b, o + j, none⟩ = false) :
    (Builtin.clear_ #[24] ty #[.slice (some ⟨b, o, none⟩) n c]).run Try.prog w = .ok (.tuple #[]) (w.setCells b o (List.replicate (n * 2) (.int .i64 0))) := by
  have hv : ∀ w, (zeroValue 39).run Try.prog w = .ok (.agg #[.int .i64 0, .int .i64 0]) w := fun w => by kernel_rfl
  have hzc : (Builtin.zeroCells (Value.agg #[.int .i64 0, .int .i64 0]).cells n).toList = List.replicate (n * 2) (.int .i64 0) := by
    refine List.ext_getElem (by simp [Builtin.zeroCells, Value.cells]) (fun i h1 h2 => ?_)
    simp [Builtin.zeroCells, Value.cells]
    have : i % 2 = 0 ∨ i % 2 = 1 := by omega
    rcases this with e | e <;> simp [e]
  have hst := run_storeCells_cells (P := Try.prog) b o (List.replicate (n * 2) (.int .i64 0)) 0 w (by simpa using hc) (by simpa using hf) (by intro v hv'; rw [List.eq_of_mem_replicate hv']; rfl)
  simp only [Nat.add_zero] at hst
  obtain ⟨m, rfl⟩ : ∃ m, n = m + 1 := ⟨n - 1, by omega⟩
  simp [Builtin.clear_, run_underlying Try.underlying24, hv, hzc, hst]
/-- Since the world w, below its end nothing has turned; block g, new since, is a row of flows with room for cap. -/
structure DC (w wr : World) (g cap : Nat) (f : Nat → Value) : Prop where
  below : Below w.heap.size w wr
  base : w.heap.size ≤ g
  row : wr.rowIs g 39 (cap * 2) f
theorem DC.keep {w wr wr' : World} {g cap : Nat} {f : Nat → Value} (h : DC w wr g cap f) (hb : Below wr.heap.size wr wr') : DC w wr' g cap f :=
  ⟨below_via h.below hb, h.base, h.row.of_block (hb.block g h.row.lt)⟩
theorem DC.alloc {w wr : World} {g cap : Nat} {f : Nat → Value} (h : DC w wr g cap f) (o : Obj) : DC w (wr.alloc o) g cap f := h.keep ((Below.refl wr.heap.size wr).alloc (Nat.le_refl _) o)
theorem DC.put {w wr : World} {g cap : Nat} {f : Nat → Value} (h : DC w wr g cap f) (i : Nat) (v : Value) : DC w (wr.setCell ⟨g, i, none⟩ v) g cap (fun j => if j = i then v else f j) :=
  ⟨h.below.setCell h.base v, h.base, h.row.set i v⟩
theorem DC.sets {w wr : World} {g cap : Nat} {f : Nat → Value} (h : DC w wr g cap f) (o : Nat) (vs : List Value) : ∃ f', DC w (wr.setCells g o vs) g cap f' ∧ ∀ j, j < o → f' j = f j :=
  ⟨_, ⟨below_setCells h.base vs o wr h.below, h.base, Go.rowIs_setCells vs o wr f h.row⟩, fun j hj => if_neg (by omega)⟩
/-- The cells f hold the flow at place j. -/
def Holds2 (f : Nat → Value) (j : Nat) (x : Int × Int) : Prop := f (j * 2) = .int .i64 x.1 ∧ f (j * 2 + 1) = .int .i64 x.2
theorem DC.cells {w wr : World} {g cap : Nat} {f : Nat → Value} (h : DC w wr g cap f) {j : Nat} {x : Int × Int} (hj : j < cap) (hx : Holds2 f j x) : wr.cell? ⟨g, j * 2, none⟩ = some (.int .i64 x.1) ∧ wr.cell? ⟨g, j * 2 + 1, none⟩ = some (.int .i64 x.2) := by
  rw [h.row.cell (show j * 2 < cap * 2 by omega), h.row.cell (show j * 2 + 1 < cap * 2 by omega), hx.1, hx.2]
  exact ⟨rfl, rfl⟩
/-- Two stores: the flow at place i. -/
theorem holds2_put {f : Nat → Value} {i j : Nat} {x y : Int × Int} (h : if j = i then x = y else Holds2 f j x) : Holds2 (fun k => if k = i * 2 + 1 then .int .i64 y.2 else if k = i * 2 then .int .i64 y.1 else f k) j x := by
  by_cases e : j = i
  · rw [if_pos e] at h
    subst e h
    refine ⟨?_, ?_⟩
    · show (if j * 2 = j * 2 + 1 then _ else _) = _
      rw [if_neg (by omega), if_pos rfl]
    · exact if_pos rfl
  · rw [if_neg e] at h
    refine ⟨?_, ?_⟩
    · show (if j * 2 = i * 2 + 1 then _ else _) = _
      rw [if_neg (by omega), if_neg (by omega)]
      exact h.1
    · show (if j * 2 + 1 = i * 2 + 1 then _ else _) = _
      rw [if_neg (by omega), if_neg (by omega)]
      exact h.2
theorem GrowF.dc {w wr : World} {v : Value} {l : List (Int × Int)} (h : GrowF 39 w wr v l) (h0 : 0 < l.length) : ∃ g cap f, v = .slice (some ⟨g, 0, none⟩) l.length cap ∧ l.length ≤ cap ∧ cap ≤ maxLen ∧ DC w wr g cap f ∧ ∀ j, j < l.length → Holds2 f j (getF l j) := by
  have ho := h.owns
  rcases ho.2 with ⟨_, h1⟩ | ⟨g, cap, cur, rfl, hb, hg, hnc, hm, hcs, ht⟩
  · omega
  · refine ⟨g, cap, fun j => cur[j]?.getD undef, rfl, hnc, hm, ⟨h.below, hb, cur, hg, hcs, fun i hi => ?_⟩, fun j hj => ?_⟩
    · have : i < cur.size := by omega
      simp [this]
    · have e := flat_at l j hj
      rw [← ht, List.getElem?_take, List.getElem?_take, if_pos (by omega), if_pos (by omega)] at e
      simp only [Array.getElem?_toList] at e
      exact ⟨by show cur[j * 2]?.getD undef = _; rw [e.1]; rfl, by show cur[j * 2 + 1]?.getD undef = _; rw [e.2]; rfl⟩
theorem DC.grow {w wr : World} {g cap : Nat} {f : Nat → Value} {l : List (Int × Int)} (h : DC w wr g cap f) (hc : l.length ≤ cap) (hm : cap ≤ maxLen) (hl : ∀ j, j < l.length → Holds2 f j (getF l j)) (hs : ∀ x ∈ l, In64 x.1 ∧ In64 x.2) : GrowF 39 w wr (.slice (some ⟨g, 0, none⟩) l.length cap) l := by
  obtain ⟨cur, hg, hz, hcur⟩ := h.row
  refine ⟨h.below, ⟨flat_len l, Or.inr ⟨g, cap, cur, rfl, h.base, hg, hc, hm, hz, ?_⟩⟩, hs⟩
  refine List.ext_getElem? (fun i => ?_)
  rw [List.getElem?_take]
  by_cases hi : i < l.length * 2
  · rw [if_pos hi, Array.getElem?_toList, hcur i (by omega)]
    have e := flat_at l (i / 2) (by omega)
    have q := hl (i / 2) (by omega)
    have : i = i / 2 * 2 ∨ i = i / 2 * 2 + 1 := by omega
    rcases this with c | c
    · rw [c, e.1, q.1]; rfl
    · rw [c, e.2, q.2]; rfl
  · rw [if_neg hi, List.getElem?_eq_none (by rw [flat_len]; omega)]
theorem nz_snoc (l : List (Int × Int)) (f : Int × Int) : nz (l ++ [f]) = if zeroF f = true then nz l else nz l ++ [f] := by
  rw [nz_append]
  by_cases h : f.2 = 0
  · have : nz [f] = [] := by simp [nz, h]
    rw [this, List.append_nil, if_pos (by simp [zeroF, h])]
  · have : nz [f] = [f] := by simp [nz, h]
    rw [this, if_neg (by simp [zeroF, h])]
theorem nz_all {l : List (Int × Int)} (h : ∀ j, j < l.length → zeroF (getF l j) = false) : nz l = l := nz_id (fun f hf => by
  obtain ⟨j, hj, rfl⟩ := List.getElem_of_mem hf
  have := h j hj
  simpa [zeroF, getF, List.getD, hj] using this)
theorem getF_take {l : List (Int × Int)} {j k : Nat} (h : j < k) : getF (l.take k) j = getF l j := by
  simp [getF, List.getD, List.getElem?_take, h]
theorem getF_left {l m : List (Int × Int)} {j : Nat} (h : j < l.length) : getF (l ++ m) j = getF l j := by
  simp [getF, List.getD, List.getElem?_append_left h]
theorem getF_last {l : List (Int × Int)} {f : Int × Int} : getF (l ++ [f]) l.length = f := by
  simp [getF, List.getD]
/-- The row on the way: what is kept of the first j flows, then, from j on, the others. -/
structure Way (w wr : World) (g cap : Nat) (l ks : List (Int × Int)) (j : Nat) : Prop where
  short : ks.length < j
  small : ∀ x ∈ ks, In64 x.1 ∧ In64 x.2
  kept : nz (l.take j) = ks
  dc : ∃ f, DC w wr g cap f ∧ (∀ t, t < ks.length → Holds2 f t (getF ks t)) ∧ ∀ t, j ≤ t → t < l.length → Holds2 f t (getF l t)
theorem Way.keep {w wr wr' : World} {g cap : Nat} {l ks : List (Int × Int)} {j : Nat} (h : Way w wr g cap l ks j) (hb : Below wr.heap.size wr wr') : Way w wr' g cap l ks j := by
  obtain ⟨f, h1, h2, h3⟩ := h.dc
  exact ⟨h.short, h.small, h.kept, f, h1.keep hb, h2, h3⟩
theorem Way.skip {w wr : World} {g cap : Nat} {l ks : List (Int × Int)} {j : Nat} (h : Way w wr g cap l ks j) (hj : j < l.length) (hz : zeroF (getF l j) = true) : Way w wr g cap l ks (j + 1) := by
  obtain ⟨f, h1, h2, h3⟩ := h.dc
  refine ⟨by have := h.short; omega, h.small, ?_, f, h1, h2, fun t ht => h3 t (by omega)⟩
  rw [← take_getF hj, nz_snoc, if_pos hz, h.kept]
theorem Way.take {w wr : World} {g cap : Nat} {l ks : List (Int × Int)} {j : Nat} {d a : Int} (h : Way w wr g cap l ks j) (hj : j < l.length) (hz : zeroF (d, a) = false) (he : getF l j = (d, a)) (hs : In64 d ∧ In64 a) :
    Way w ((wr.setCell ⟨g, ks.length * 2, none⟩ (.int .i64 d)).setCell ⟨g, ks.length * 2 + 1, none⟩ (.int .i64 a)) g cap l (ks ++ [(d, a)]) (j + 1) := by
  obtain ⟨f, h1, h2, h3⟩ := h.dc
  have hsh := h.short
  refine ⟨by rw [List.length_append]; simp; omega, fun x hx => ?_, ?_, _, (h1.put _ _).put _ _, fun t ht => ?_, fun t h4 h5 => ?_⟩
  · rcases List.mem_append.1 hx with hx | hx
    · exact h.small x hx
    · simp at hx; subst hx; exact hs
  · rw [← take_getF hj, nz_snoc, he, if_neg (by rw [hz]; decide), h.kept]
  · refine holds2_put (y := (d, a)) ?_
    by_cases e : t = ks.length
    · rw [if_pos e, e]; exact getF_last
    · rw [if_neg e]
      have : t < ks.length := by simp at ht; omega
      rw [getF_left this]
      exact h2 t this
  · refine holds2_put (y := (d, a)) ?_
    rw [if_neg (by omega)]
    exact h3 t (by omega) h5
theorem Way.cell {w wr : World} {g cap : Nat} {l ks : List (Int × Int)} {j : Nat} (h : Way w wr g cap l ks j) (hc : l.length ≤ cap) (hj : j < l.length) : wr.cell? ⟨g, j * 2, none⟩ = some (.int .i64 (getF l j).1) ∧ wr.cell? ⟨g, j * 2 + 1, none⟩ = some (.int .i64 (getF l j).2) := by
  obtain ⟨f, h1, h2, h3⟩ := h.dc
  exact h1.cells (by omega) (h3 j (Nat.le_refl _) hj)
theorem Way.there {w wr : World} {g cap : Nat} {l ks : List (Int × Int)} {j : Nat} (h : Way w wr g cap l ks j) (i : Nat) (hi : i < cap * 2) : ∃ u, wr.cell? ⟨g, i, none⟩ = some u := by
  obtain ⟨f, h1, h2, h3⟩ := h.dc
  exact ⟨_, h1.row.cell hi⟩
theorem Way.free {w wr : World} {g cap : Nat} {l ks : List (Int × Int)} {j : Nat} (h : Way w wr g cap l ks j) (i : Nat) : wr.frozen? ⟨g, i, none⟩ = false := by
  obtain ⟨f, h1, h2, h3⟩ := h.dc
  exact h1.row.frozen i
theorem Way.done {w wr : World} {g cap : Nat} {l ks : List (Int × Int)} (h : Way w wr g cap l ks l.length) (hc : l.length ≤ cap) (hm : cap ≤ maxLen) (vs : List Value) : GrowF 39 w (wr.setCells g (ks.length * 2) vs) (.slice (some ⟨g, 0, none⟩) ks.length cap) (nz l) := by
  obtain ⟨f, h1, h2, h3⟩ := h.dc
  obtain ⟨f', h4, h5⟩ := h1.sets (ks.length * 2) vs
  have e := h.kept
  rw [List.take_length] at e
  rw [e]
  exact h4.grow (by have := h.short; omega) hm (fun j hj => ⟨(h5 _ (by omega)).trans (h2 j hj).1, (h5 _ (by omega)).trans (h2 j hj).2⟩) h.small
theorem way_start {w wr : World} {g cap : Nat} {l : List (Int × Int)} {f : Nat → Value} {k : Nat} (hk : k < l.length) (h : DC w wr g cap f) (hl : ∀ j, j < l.length → Holds2 f j (getF l j)) (hs : ∀ x ∈ l, In64 x.1 ∧ In64 x.2) (h1 : zeroF (getF l k) = true) (h2 : ∀ j, j < k → zeroF (getF l j) = false) : Way w wr g cap l (l.take k) (k + 1) := by
  have hl1 : (l.take k).length = k := by rw [List.length_take]; omega
  refine ⟨by omega, fun x hx => hs x (List.mem_of_mem_take hx), ?_, f, h, fun t ht => ?_, fun t _ h5 => hl t h5⟩
  · rw [← take_getF hk, nz_snoc, if_pos h1]
    exact nz_all (fun j hj => by rw [hl1] at hj; rw [getF_take hj]; exact h2 j hj)
  · rw [hl1] at ht
    rw [getF_take ht]
    exact hl t (by omega)
set_option maxRecDepth 20000 in
set_option maxHeartbeats 2000000 in
theorem del_row (g cap : Nat) (l : List (Int × Int)) (f : Nat → Value) (w w0 : World) (hm : l.length ≤ 10000) (hc : l.length ≤ cap) (hM : cap ≤ maxLen)
    (hI : Hid (Calls Try.prog 37 #[.slice (some ⟨g, 0, none⟩) l.length cap, .func (.func 28) #[] #[]] w0 fun e w' => ∃ r, e = .returned (.int .i64 r) ∧ PlaceF zeroF l r ∧ Below w0.heap.size w0 w'))
    (hD : Hid (DC w w0 g cap f)) (hH : Hid (∀ j, j < l.length → Holds2 f j (getF l j))) (hs : Hid (∀ x ∈ l, In64 x.1 ∧ In64 x.2)) :
    Calls Try.prog 24 #[.slice (some ⟨g, 0, none⟩) l.length cap, .func (.func 28) #[] #[]] w0 fun e w' => ∃ u, e = .returned u ∧ GrowF 39 w w' u (nz l) := by
  have HM := hide hM
  have hM2 : (cap : Int) ≤ 9223372036854775807 := by unfold maxLen at hM; omega
  clear hM
  have HE := hide (fun ks j => fun (wr : World) (h : Way w wr g cap l ks j) (hj : j = l.length) (vs : List Value) => (hj ▸ h : Way w wr g cap l ks l.length).done hc (unhide HM) vs)
  have HN : Hid ((∀ j, j < l.length → zeroF (getF l j) = false) → ∀ wr : World, DC w wr g cap f → GrowF 39 w wr (.slice (some ⟨g, 0, none⟩) l.length cap) (nz l)) := hide (fun h wr hd => by
    rw [nz_all h]
    exact hd.grow hc (unhide HM) (unhide hH) (unhide hs))
  generalize hl : l.length = len at *
  go_enter Try.func24, Try.ntmps24
  go_wp2_with fail
  refine (unhide hI).mono ?_
  rintro e w1 ⟨r, rfl, hp, hb⟩
  rcases hp with ⟨rfl, h1⟩ | ⟨k, rfl, hk, h1, h2⟩
  · rw [hl] at h1
    have HF := hide (unhide HN h1 w1 ((unhide hD).keep hb))
    clear hb hI hD hH h1 HN HE
    go_wp2_with fail
    go_ret
    exact ⟨_, rfl, unhide HF⟩
  rw [hl] at hk
  have hk1 : ((k : Int) == -1) = false := by rw [beq_eq_false_iff_ne]; omega
  have HW := hide (way_start (by rw [hl]; exact hk) ((unhide hD).keep hb) (by rw [hl]; exact unhide hH) (unhide hs) h1 h2)
  have Hl0 : Hid ((l.take k).length = k) := hide (by rw [List.length_take]; omega)
  clear hb hI hD hH h1 h2 HN
  go_wp2_with fail
  go_loopw [5, 6] (fun i j wr => ∃ (ks : List (Int × Int)) (J : Nat), J ≤ len ∧ i = .int .i64 ks.length ∧ j = .int .i64 J ∧ Hid (Way w wr g cap l ks J)) (fun _ j _ => len - (intOf j).toNat)
  case atStart => exact ⟨l.take k, k + 1, by omega, by rw [unhide Hl0], by go_num, HW⟩
  case round =>
    clear HW Hl0
    obtain ⟨ks, J, hJ, rfl, rfl, HW⟩ := hrel
    have hsh := (unhide HW).short
    have Hn : Hid (∀ x, (ks ++ [x]).length = ks.length + 1) := hide (fun x => by simp)
    by_cases hlt : J < len
    · obtain ⟨c0, c1⟩ := (unhide HW).cell (by rw [hl]; exact hc) (by rw [hl]; exact hlt)
      have HS := hide (getF_64 (unhide hs) J)
      have HJ : Hid (J < l.length) := hide (by rw [hl]; exact hlt)
      obtain ⟨f', he⟩ : ∃ f', getF l J = f' := ⟨_, rfl⟩
      have HGe := hide he
      rw [he] at c0 c1 HS
      clear he
      obtain ⟨d, a⟩ := f'
      replace c0 : wr.cell? ⟨g, J * 2, none⟩ = some (.int .i64 d) := c0
      replace c1 : wr.cell? ⟨g, J * 2 + 1, none⟩ = some (.int .i64 a) := c1
      have HB := hide ((Below.refl wr.heap.size wr).alloc (Nat.le_refl _) (.cells #[.int .i64 d, .int .i64 a] 39))
      by_cases hz : zeroF (d, a) = true
      · have HK : Hid (∀ wr' : World, Below wr.heap.size wr wr' → Way w wr' g cap l ks (J + 1)) := hide (fun wr' hb => ((unhide HW).keep hb).skip (unhide HJ) (by rw [unhide HGe]; exact hz))
        have HZ : Hid (∀ w : World, Calls Try.prog 28 #[.agg #[.int .i64 d, .int .i64 a]] w fun e w' => e = .returned (.bool true) ∧ Below w.heap.size w w') := hide (fun w => by have := isZero_any d a w; rwa [show (a == 0) = true from hz] at this)
        clear hz HW
        go_wp2_with fail
        refine (unhide HZ _).mono ?_
        rintro e w2 ⟨rfl, hb⟩
        replace HK := hide (unhide HK w2 (below_via (unhide HB) hb))
        clear hb HB HZ
        go_wp2_with fail
        go_roundw
        case rel => exact ⟨ks, J + 1, by omega, rfl, by go_num, HK⟩
        case measure => simp [intOf]; omega
      · have hz2 : zeroF (d, a) = false := Bool.eq_false_iff.2 hz
        have HK : Hid (∀ wr' : World, Below wr.heap.size wr wr' → Way w ((wr'.setCell ⟨g, ks.length * 2, none⟩ (.int .i64 d)).setCell ⟨g, ks.length * 2 + 1, none⟩ (.int .i64 a)) g cap l (ks ++ [(d, a)]) (J + 1) ∧ (∃ u, wr'.cell? ⟨g, ks.length * 2, none⟩ = some u) ∧ (∃ u, wr'.cell? ⟨g, ks.length * 2 + 1, none⟩ = some u) ∧ wr'.frozen? ⟨g, ks.length * 2, none⟩ = false ∧ wr'.frozen? ⟨g, ks.length * 2 + 1, none⟩ = false) := hide (fun wr' hb => ⟨((unhide HW).keep hb).take (unhide HJ) hz2 (unhide HGe) (unhide HS), ((unhide HW).keep hb).there _ (by omega), ((unhide HW).keep hb).there _ (by omega), ((unhide HW).keep hb).free _, ((unhide HW).keep hb).free _⟩)
        have HZ : Hid (∀ w : World, Calls Try.prog 28 #[.agg #[.int .i64 d, .int .i64 a]] w fun e w' => e = .returned (.bool false) ∧ Below w.heap.size w w') := hide (fun w => by have := isZero_any d a w; rwa [show (a == 0) = false from hz2] at this)
        clear hz hz2 HW
        have hr : Hid (R2 (wr.alloc (.cells #[.int .i64 d, .int .i64 a] 39)) wr.heap.size d a) := hide (R2.new _ _ _)
        go_wp2_with fail
        refine (unhide HZ _).mono ?_
        rintro e w2 ⟨rfl, hb⟩
        obtain ⟨K1, ⟨u1, K2⟩, ⟨u2, K3⟩, K4, K5⟩ := unhide HK w2 (below_via (unhide HB) hb)
        replace K1 := hide K1
        replace hr := (unhide hr).keep hb
        have x0 := hr.c0
        have x1 := hr.c1
        have hil : (ks.length : Int) < (len : Int) := by omega
        clear hb HB HZ HK hr
        generalize ks.length = n at *
        go_wp2_with fail
        go_roundw
        case rel => exact ⟨ks ++ [(d, a)], J + 1, by omega, by rw [unhide Hn]; go_num, by go_num, K1⟩
        case measure => simp [intOf]; omega
    · obtain rfl : J = len := by omega
      have HF := hide (fun vs => unhide HE ks J wr (unhide HW) rfl vs)
      obtain ⟨m, hm2⟩ : ∃ m, m = J - ks.length := ⟨_, rfl⟩
      have hcl : ∀ ty, (Builtin.clear_ #[24] ty #[.slice (some ⟨g, ks.length * 2, none⟩) (J - ks.length) (cap - ks.length)]).run Try.prog wr = .ok (.tuple #[]) (wr.setCells g (ks.length * 2) (List.replicate ((J - ks.length) * 2) (.int .i64 0))) := fun ty => run_clear2 wr ty g (ks.length * 2) (J - ks.length) (cap - ks.length) (by omega) (fun j hj => by obtain ⟨u, hu⟩ := (unhide HW).there (ks.length * 2 + j) (by omega); rw [hu]; rfl) (fun j hj => (unhide HW).free _)
      replace HF := hide (unhide HF (List.replicate ((J - ks.length) * 2) (.int .i64 0)))
      have hnl : (ks.length : Int) ≤ (J : Int) := by omega
      have hnc : (ks.length : Int) ≤ (cap : Int) := by omega
      have hnc2 : ¬ cap = ks.length := by omega
      have hnc3 : (J : Int) ≤ (cap : Int) := by omega
      clear HW HE hm2 Hn
      generalize ks.length = n at *
      go_wp2_with fail
      go_ret
      exact ⟨_, rfl, unhide HF⟩
theorem del_empty (x : Option Addr) (cap : Nat) (w : World) : Calls Try.prog 24 #[.slice x 0 cap, .func (.func 28) #[] #[]] w fun e w' => e = .returned (.slice x 0 cap) ∧ w = w' := by
  go_enter Try.func24, Try.ntmps24
  go_wp2_with fail
  refine (idx28_empty x cap _).mono ?_
  rintro e w' ⟨rfl, rfl⟩
  go_wp2_with fail
  go_ret
  exact ⟨rfl, rfl⟩
/-- DeleteFunc of those of 0. -/
theorem del_any (v : Value) (l : List (Int × Int)) (w w0 : World) (h : GrowF 39 w w0 v l) (hm : l.length ≤ 10000) : Calls Try.prog 24 #[v, .func (.func 28) #[] #[]] w0 fun e w' => ∃ u, e = .returned u ∧ GrowF 39 w w' u (nz l) := by
  by_cases h0 : 0 < l.length
  · have hI := idx28_any v l w0 h.row hm
    obtain ⟨g, cap, f, rfl, hc, hM, hD, hH⟩ := h.dc h0
    exact del_row g cap l f w w0 hm hc hM (hide hI) (hide hD) (hide hH) (hide h.small)
  · obtain rfl : l = [] := List.eq_nil_of_length_eq_zero (by omega)
    obtain ⟨x, cap, rfl⟩ := rowF_slice h.row
    refine (del_empty x cap w0).mono ?_
    rintro e w' ⟨rfl, rfl⟩
    exact ⟨_, rfl, h⟩
end Go.Proofs.Ytkjbkppjebljpaa
