/- What value's foldBack answers, with the step of value's worths. -/
import Derived.Test.YtpncdjejngkpgaaVChk
namespace Go.Proofs.Ytpncdjejngkpgaa.Mn
open Go.RowKit
set_option linter.unusedSimpArgs false
/-- Below block P nothing has turned; block P is a row of len numbers, f. -/
structure Own (w wr : World) (P len : Nat) (f : Nat → Int) : Prop where
  below : Below P w wr
  row : wr.rowIs P 2 len (fun j => .int .i64 (f j))
theorem Own.put {w wr : World} {P len : Nat} {f g : Nat → Int} (h : Own w wr P len f) (k : Nat) (v : Int) (hg : ∀ j, (if j = k then v else f j) = g j) : Own w (wr.setCell ⟨P, k, none⟩ (.int .i64 v)) P len g :=
  ⟨h.below.setCell (Nat.le_refl _) _, (h.row.set k _).congr (fun j _ => by
    by_cases e : j = k
    · rw [if_pos e, ← hg j, if_pos e]
    · rw [if_neg e, ← hg j, if_neg e])⟩
theorem Own.as {w wr : World} {P len : Nat} {f g : Nat → Int} (h : Own w wr P len f) (hg : ∀ j, j < len → f j = g j) : Own w wr P len g :=
  ⟨h.below, h.row.congr (fun j hj => by rw [hg j hj])⟩
theorem Own.keep {w wr w' : World} {P len : Nat} {f : Nat → Int} (h : Own w wr P len f) (hb : Below wr.heap.size wr w') : Own w w' P len f :=
  ⟨h.below.trans (hb.mono (Nat.le_of_lt h.row.lt)), h.row.of_block (hb.block P h.row.lt)⟩
theorem Own.drew {w wr : World} {P len : Nat} {f : Nat → Int} (h : Own w wr P len f) : Own w wr.drew P len f :=
  ⟨h.below.trans ⟨rfl, rfl, rfl, Nat.le_refl _, fun _ _ => rfl⟩, h.row⟩
theorem Own.asRow {w wr : World} {P len : Nat} {f : Nat → Int} {zs : List Int} (h : Own w wr P len f) (hl : zs.length = len) (h0 : 0 < len) (hm : len ≤ maxLen) (hz : ∀ j, j < len → zs.getD j 0 = f j) (hin : ∀ z ∈ zs, In64 z) : Row wr (.slice (some ⟨P, 0, none⟩) len len) zs := by
  subst hl
  refine Or.inr ⟨P, 0, zs.length, rfl, h0, hm, fun j hj => ?_, hin⟩
  rw [Nat.zero_add, h.row.cell hj, hz j hj]
/-- The worths from the k-th on, 0 ahead of it. -/
def worthAt (r : Int) (L : List Int) (k j : Nat) : Int := if k ≤ j then worth r (L.drop j) else 0
theorem worthAt_end (r : Int) (L : List Int) (j : Nat) : worthAt r L L.length j = 0 := by
  unfold worthAt
  split
  · rw [List.drop_eq_nil_of_le (by assumption)]; rfl
  · rfl
theorem worthAt_put (r : Int) (L : List Int) (k j : Nat) : (if j = k then worth r (L.drop k) else worthAt r L (k + 1) j) = worthAt r L k j := by
  unfold worthAt
  by_cases e : j = k
  · subst e; rw [if_pos rfl, if_pos (Nat.le_refl _)]
  · rw [if_neg e]
    by_cases c : k ≤ j
    · rw [if_pos c, if_pos (by omega)]
    · rw [if_neg c, if_neg (by omega)]
theorem worthAt_here (r : Int) (L : List Int) (k : Nat) : worthAt r L k k = worth r (L.drop k) := if_pos (Nat.le_refl _)
/-- How foldBack ends: with a row of worths, or with ErrOver. -/
def FoldPost (w : World) (len : Nat) (L : List Int) (r : Int) (e : Ending) (w' : World) : Prop :=
  (fits r L = true ∧ e = .returned (.tuple #[.slice (some ⟨w.heap.size, 0, none⟩) (len + 1) (len + 1), .int .i64 0]) ∧ Own w w' w.heap.size (len + 1) (worthAt r L 0)) ∨
  (fits r L = false ∧ e = .returned (.tuple #[.slice none 0 0, .int .i64 3]) ∧ Below w.heap.size w w')
theorem made_own (w : World) (n : Nat) : Own w (w.alloc (.cells (madeCells #[.int .i64 0] n) 2)) w.heap.size n (fun _ => 0) :=
  ⟨(Below.refl _ _).alloc (Nat.le_refl _) _, (World.rowIs_made w _ n 2).congr (fun _ _ => rfl)⟩
theorem made_put (w : World) (n k : Nat) : Own w (w.alloc (.cells ((madeCells #[.int .i64 0] n).setIfInBounds k (.int .i64 0)) 2)) w.heap.size n (fun _ => 0) := by
  have h := World.rowIs_alloc w ((madeCells #[.int .i64 0] n).setIfInBounds k (.int .i64 0)) 2 (fun _ => .int .i64 0) (fun i hi => by
    rw [Array.size_setIfInBounds, size_madeCells] at hi
    rw [Array.getElem?_setIfInBounds]
    split
    · simp [size_madeCells, hi, *]
    · simp [madeCells, hi, Nat.mod_one])
  rw [Array.size_setIfInBounds, size_madeCells] at h
  exact ⟨(Below.refl _ _).alloc (Nat.le_refl _) _, h⟩
theorem make_n (n : Nat) (h : n ≤ 1000000) (w : World) : (Instr.makeSlice 22 (.int .i64 (n : Int)) (.int .i64 (n : Int))).run Try.prog w = .ok (.slice (some ⟨w.heap.size, 0, none⟩) n n) (w.alloc (.cells (madeCells #[.int .i64 0] n) 2)) :=
  run_make_row' (P := Try.prog) 22 2 (.int .i64 0) 8 Try.underlying22 info2 rfl .i64 .i64 n (by omega) (by omega) w
theorem make_next (n : Nat) (h : n ≤ 100000) (w : World) : (Instr.makeSlice 22 (.int .i64 ((n : Int) + 1)) (.int .i64 ((n : Int) + 1))).run Try.prog w = .ok (.slice (some ⟨w.heap.size, 0, none⟩) (n + 1) (n + 1)) (w.alloc (.cells (madeCells #[.int .i64 0] (n + 1)) 2)) := by
  have := make_n (n + 1) (by omega) w
  rwa [show ((n + 1 : Nat) : Int) = (n : Int) + 1 from by omega] at this
theorem fold_none (a : Option Addr) (cap bt br : Nat) (r : Int) (w : World) :
    Calls Try.prog 27 #[.slice a 0 cap, .int .i64 0, .func (.func 28) #[] #[.pointer (some ⟨bt, 0, none⟩), .pointer (some ⟨br, 0, none⟩)]] w (FoldPost w 0 [] r) := by
  have hmk : ∀ w : World, (Instr.makeSlice 22 (.int .i64 1) (.int .i64 1)).run Try.prog w = .ok (.slice (some ⟨w.heap.size, 0, none⟩) 1 1) (w.alloc (.cells (madeCells #[.int .i64 0] 1) 2)) := make_n 1 (by omega)
  have hO := made_own w 1
  have c0 := hO.row.cell (i := 0) (by omega)
  have f0 := hO.row.frozen 0
  have HO := hide (made_put w 1 0)
  clear hO
  go_enter Try.func27, Try.ntmps27
  go_wp2_with fail
  refine wp_loop_rounds 1 ?_
  rw [rounds_succ]
  go_wp2_with fail
  go_ret2
  exact Or.inl ⟨rfl, rfl, (unhide HO).as (fun j _ => by simp [worthAt, worth])⟩
set_option maxHeartbeats 1000000 in
theorem fold_row (b off cap bt br : Nat) (l : List Int) (by' r : Int) (w : World) (h0 : 0 < l.length) (h6 : l.length ≤ 600) (hr : May r)
    (hc : ∀ j, j < l.length → w.cell? ⟨b, off + j, none⟩ = some (.int .i64 (l.getD j 0))) (hin : ∀ x ∈ l, In64 (x * by')) (hB : Box2 w bt br by' r) :
    Calls Try.prog 27 #[.slice (some ⟨b, off, none⟩) l.length cap, .int .i64 0, .func (.func 28) #[] #[.pointer (some ⟨bt, 0, none⟩), .pointer (some ⟨br, 0, none⟩)]] w (FoldPost w l.length (l.map (· * by')) r) := by
  obtain ⟨L, hL⟩ : ∃ L, l.map (· * by') = L := ⟨_, rfl⟩
  have hlen : L.length = l.length := by rw [← hL, List.length_map]
  have HG : Hid (∀ k, k < l.length → L.getD k 0 = l.getD k 0 * by' ∧ In64 (l.getD k 0 * by')) := hide (fun k hk => by
    have e1 : l.getD k 0 = l[k] := by simp [List.getD, hk]
    refine ⟨?_, ?_⟩
    · rw [← hL, e1]; simp [List.getD, hk]
    · rw [e1]; exact hin _ (List.getElem_mem hk))
  rw [hL]
  have HC := hide hc
  have HB := hide hB
  have hbb : b < w.heap.size := lt_of_cell (hc 0 h0)
  have HW : Hid (∀ k, k < l.length → worth r (L.drop k) = qD (worth r (L.drop (k + 1)) + L.getD k 0) r) := hide (fun k hk => worth_drop (by omega))
  have HF : Hid (∀ k, k < l.length → fits r (L.drop k) = (fits r (L.drop (k + 1)) && fitB (worth r (L.drop (k + 1)) + L.getD k 0) (worth r (L.drop k)))) := hide (fun k hk => fits_step (by omega))
  have HN : Hid (∀ k, k < l.length → fitB (worth r (L.drop (k + 1)) + L.getD k 0) (worth r (L.drop k)) = false → fits r L = false) := hide (fun k hk => not_fits (by omega))
  have H0 : Hid (fits r (L.drop l.length) = true) := hide (by rw [List.drop_eq_nil_of_le (by omega)]; rfl)
  have HY : Hid (fits r (L.drop 0) = fits r L) := hide rfl
  have HE : Hid (∀ j, worthAt r L l.length j = 0) := hide (fun j => by rw [← hlen]; exact worthAt_end r L j)
  have hmk := make_next l.length (by omega)
  have Hmk := hide hmk
  have hO := made_own w (l.length + 1)
  have c0 := hO.row.cell (i := l.length) (by omega)
  have f0 := hO.row.frozen l.length
  have HO := hide (made_put w (l.length + 1) l.length)
  clear hO hL hc hB hin
  generalize l.length = len at *
  clear hlen
  go_enter Try.func27, Try.ntmps27
  go_wp2_with fail
  clear hmk Hmk
  go_loopw [9] (fun i wr => ∃ k : Nat, k ≤ len ∧ i = .int .i64 ((k : Int) - 1) ∧ Hid (fits r (L.drop k) = true) ∧ Hid (Own w wr w.heap.size (len + 1) (worthAt r L k))) (fun i _ => (intOf i + 1).toNat)
  case atStart => exact ⟨len, Nat.le_refl _, by go_num, H0, hide ((unhide HO).as (fun j _ => (unhide HE j).symm))⟩
  case round =>
    clear HO c0 f0
    obtain ⟨k, hk, rfl, HK, HO⟩ := hrel
    by_cases hlt : 0 < k
    · obtain ⟨m, rfl⟩ : ∃ m, k = m + 1 := ⟨k - 1, by omega⟩
      rw [show (((m + 1 : Nat) : Int) - 1) = (m : Int) from by omega]
      have hw := (unhide HO).below
      have cl := (hw.cell (p := ⟨b, off + m, none⟩) hbb).trans (unhide HC m (by omega))
      have ca := (unhide HO).row.cell (i := m + 1) (by omega)
      have cm := (unhide HO).row.cell (i := m) (by omega)
      have fm := (unhide HO).row.frozen m
      rw [worthAt_here] at ca
      have hB1 : Box2 wr bt br by' r := ⟨(hw.cell (p := ⟨bt, 0, none⟩) (lt_of_cell (unhide HB).c0)).trans (unhide HB).c0, (hw.cell (p := ⟨br, 0, none⟩) (lt_of_cell (unhide HB).c1)).trans (unhide HB).c1⟩
      have HB1 := hide hB1
      obtain ⟨g1, g2⟩ := unhide HG m (by omega)
      have t64 : In64 (worth r (L.drop (m + 1))) := by
        have := fits_in (unhide HK)
        exact ⟨by omega, by omega⟩
      have hF := unhide HF m (by omega)
      have hW := unhide HW m (by omega)
      have hN := unhide HN m (by omega)
      have HP := hide (worthAt_put r L m)
      rw [unhide HK, Bool.true_and] at hF
      rw [g1] at hF hW hN
      rw [hW] at hF hN HP
      generalize worth r (L.drop (m + 1)) = t at *
      generalize l.getD m 0 = x at *
      have i1 : (0 : Int) ≤ (m : Int) := by omega
      have i2 : (m : Int) < (len : Int) := by omega
      have i3 : (0 : Int) ≤ (m : Int) + 1 := by omega
      have i4 : (m : Int) + 1 < (len : Int) + 1 := by omega
      have i5 : IntKind.i64.wrap ((m : Int) + 1) = (m : Int) + 1 := by rw [IntKind.wrap_i64]; omega
      have i6 : m < len := by omega
      have i7 : m + 1 < len + 1 := by omega
      cases hb : fitB (t + x * by') (qD (t + x * by') r) with
      | true =>
        rw [hb] at hF
        have HF1 := hide hF
        have HP1 := HP
        clear hN hF HP hW
        have HS := hide (fun w' => step_of (x := x) (t := t) g2 (ear_yes t64 g2 hr hb) bt br w')
        clear hr
        go_wp2_with fail
        go_region_held3 (fun w' => w'.cell? ⟨b, off + m, none⟩ = some (.int .i64 x) ∧ w'.cell? ⟨w.heap.size, m + 1, none⟩ = some (.int .i64 t) ∧ Hid (Own w w' w.heap.size (len + 1) (worthAt r L (m + 1))))
          (first
            | exact ⟨(hb1.cell (p := ⟨b, off + m, none⟩) (lt_of_cell cl)).trans cl, (hb1.cell (p := ⟨w.heap.size, m + 1, none⟩) (lt_of_cell ca)).trans ca, hide ((unhide HO).drew.keep hb1)⟩
            | exact ⟨cl, ca, HO⟩
            | exact ⟨cl, ca, hide (unhide HO).drew⟩)
          ((go_at_call 28; refine (unhide HS _ (by exact ⟨(unhide HB1).c0, (unhide HB1).c1⟩)).mono ?_; rintro e w1 ⟨rfl, hb1⟩))
        rename_i hH
        replace HO := hide (unhide hH.2.2)
        clear hH hb1 HS HB1 cl ca cm fm
        have cm := (unhide HO).row.cell (i := m) (by omega)
        have fm := (unhide HO).row.frozen m
        generalize qD (t + x * by') r = q at *
        go_wp2_with fail
        go_roundw
        case rel => exact ⟨m, by omega, by go_num, HF1, hide ((unhide HO).put m q (unhide HP1))⟩
        case measure => simp [intOf]
      | false =>
        have HN1 := hide (hN hb)
        clear hN hF HP hW
        have HS := hide (fun w' => step_of (x := x) (t := t) g2 (ear_no t64 g2 hr hb) bt br w')
        clear hr
        go_wp2_with fail
        go_region_held3 (fun w' => w'.cell? ⟨b, off + m, none⟩ = some (.int .i64 x) ∧ w'.cell? ⟨w.heap.size, m + 1, none⟩ = some (.int .i64 t) ∧ Hid (Own w w' w.heap.size (len + 1) (worthAt r L (m + 1))))
          (first
            | exact ⟨(hb1.cell (p := ⟨b, off + m, none⟩) (lt_of_cell cl)).trans cl, (hb1.cell (p := ⟨w.heap.size, m + 1, none⟩) (lt_of_cell ca)).trans ca, hide ((unhide HO).drew.keep hb1)⟩
            | exact ⟨cl, ca, HO⟩
            | exact ⟨cl, ca, hide (unhide HO).drew⟩)
          ((go_at_call 28; refine (unhide HS _ (by exact ⟨(unhide HB1).c0, (unhide HB1).c1⟩)).mono ?_; rintro e w1 ⟨rfl, hb1⟩))
        rename_i hH
        replace HO := hide (unhide hH.2.2)
        clear hH hb1 HS HB1 cl ca cm fm
        go_wp2_with fail
        go_ret2
        exact Or.inr ⟨unhide HN1, rfl, (unhide HO).below⟩
    · have e0 : k = 0 := by omega
      subst e0
      have HF1 : Hid (fits r L = true) := hide ((unhide HY).symm.trans (unhide HK))
      clear HK
      go_wp2_with fail
      go_ret2
      exact Or.inl ⟨unhide HF1, rfl, unhide HO⟩
end Go.Proofs.Ytpncdjejngkpgaa.Mn
