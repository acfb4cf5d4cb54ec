/- What value's worths, now, Of, All, Fine and Change answer. -/
import Derived.Test.YtpncdjejngkpgaaVFold
namespace Go.Proofs.Ytpncdjejngkpgaa.Mn
open Go.RowKit
set_option linter.unusedSimpArgs false
theorem cell_new (w : World) (v : Value) (T : TypeId) : (w.alloc (.cells #[v] T)).cell? ⟨w.heap.size, 0, none⟩ = some v := by
  rw [cell_of_row _ _ _ _ _ _ (heap_alloc_new w _)]; rfl
theorem cell_old {w : World} {b o : Nat} {v : Value} (h : w.cell? ⟨b, o, none⟩ = some v) (x : Obj) : (w.alloc x).cell? ⟨b, o, none⟩ = some v :=
  (((Below.refl w.heap.size w).alloc (Nat.le_refl _) x).cell (p := ⟨b, o, none⟩) (lt_of_cell h)).trans h
theorem box2_new (w : World) (r b : Int) : Box2 ((w.alloc (.cells #[.int .i64 r] 2)).alloc (.cells #[.int .i64 b] 2)) (w.heap.size + 1) w.heap.size b r := by
  refine ⟨?_, cell_old (cell_new _ _ _) _⟩
  have h := cell_new (w.alloc (.cells #[.int .i64 r] 2)) (.int .i64 b) 2
  rwa [show (w.alloc (.cells #[.int .i64 r] 2)).heap.size = w.heap.size + 1 from by simp] at h
theorem below2 (w : World) (o p : Obj) : Below w.heap.size w ((w.alloc o).alloc p) := ((Below.refl _ _).alloc (Nat.le_refl _) _).alloc (by simp) _
theorem valE_no {b : Int} {l : List Int} {r : Int} (h : chkE l r ≠ 0) : valE b l r = chkE l r := by
  unfold chkE at *
  unfold valE
  by_cases h6 : 600 < l.length
  · rw [if_pos h6, if_pos h6]
  · rw [if_neg h6] at h
    rw [if_neg h6, if_neg h6]
    cases hr : mayB r with
    | false => simp
    | true =>
      cases ha : l.all may with
      | false => simp
      | true => rw [hr, ha] at h; exact absurd rfl h
theorem chk_ok {l : List Int} {r : Int} (h : chkE l r = 0) : l.length ≤ 600 ∧ l.all may = true ∧ May r := by
  unfold chkE at h
  split at h
  · omega
  · split at h
    · omega
    · split at h
      · omega
      · next a b c =>
        refine ⟨by omega, by simpa using c, ?_⟩
        have b := (Bool.not_eq_false _).mp b
        unfold mayB at b
        simpa [May] using b
theorem all_bd {l : List Int} (h : l.all may = true) {b : Int} (hb : b = 1 ∨ b = 1000) : ∀ x ∈ l, In64 (x * b) := by
  intro x hx
  have := List.all_eq_true.1 h x hx
  have hx : -10000000000000 ≤ x ∧ x ≤ 10000000000000 := by simpa [may] using this
  rcases hb with rfl | rfl <;> exact ⟨by omega, by omega⟩
theorem worths_in {r : Int} : ∀ {l : List Int}, fits r l = true → ∀ z ∈ worths r l, In64 z
  | [], _ => by
    intro z hz
    simp [Mn.worths] at hz
    subst hz
    exact ⟨by omega, by omega⟩
  | x :: l, h => by
    intro z hz
    rcases List.mem_cons.1 hz with rfl | hz
    · have := fits_in h
      exact ⟨by omega, by omega⟩
    · exact worths_in ((Bool.and_eq_true _ _ ▸ h).1) z hz
/-- How worths ends. -/
def WorPost (w : World) (b : Int) (l : List Int) (r : Int) (e : Ending) (w' : World) : Prop := ∃ v, e = .returned (.tuple #[v, .int .i64 (valE b l r)]) ∧ Row w' v (valL b l r) ∧ Below w.heap.size w w'
def WorA (w : World) (v : Value) (l : List Int) (r b : Int) : Prop := Calls Try.prog 19 #[v, .int .i64 r, .int .i64 b] w (WorPost w b l r)
theorem wor_no {w : World} {v : Value} {l : List Int} {r b : Int} (hR : Row w v l) (h : chkE l r ≠ 0) : WorA w v l r b := by
  have hv : valE b l r = chkE l r := valE_no h
  have hl : valL b l r = [] := by unfold valL; rw [hv, if_neg h]
  unfold WorA WorPost
  rw [hl, hv]
  have hB := box2_new w r b
  have c1 := hB.c1
  have HC := hide (chk_any r ((hR.alloc (.cells #[.int .i64 r] 2)).alloc (.cells #[.int .i64 b] 2)))
  have HBl := hide (below2 w (.cells #[.int .i64 r] 2) (.cells #[.int .i64 b] 2))
  unfold ChkA at HC
  generalize chkE l r = E at *
  have hE : (E != 0) = true := by simpa using h
  clear hv hl h hB hR
  go_enter Try.func19, Try.ntmps19
  go_wp2_with fail
  refine (unhide HC).mono ?_
  rintro e w1 ⟨rfl, rfl⟩
  go_wp2_with fail
  go_ret2
  exact ⟨_, rfl, Or.inl ⟨_, _, rfl, rfl⟩, unhide HBl⟩
theorem fold_any {w : World} {v : Value} {l : List Int} {r b : Int} {bt br : Nat} (hR : Row w v l) (h6 : l.length ≤ 600) (hr : May r) (hin : ∀ x ∈ l, In64 (x * b)) (hB : Box2 w bt br b r) :
    Calls Try.prog 27 #[v, .int .i64 0, .func (.func 28) #[] #[.pointer (some ⟨bt, 0, none⟩), .pointer (some ⟨br, 0, none⟩)]] w (FoldPost w l.length (l.map (· * b)) r) := by
  rcases hR with ⟨a, cap, rfl, rfl⟩ | ⟨rb, off, cap, rfl, h0, _, hc, _⟩
  · exact fold_none a cap bt br r w
  · exact fold_row rb off cap bt br l b r w h0 h6 hr hc hin hB
theorem wor_end {w W : World} {b : Int} {l : List Int} {r : Int} (h : chkE l r = 0) (hBl : Below w.heap.size w W) {e : Ending} {w' : World} (hF : FoldPost W l.length (l.map (· * b)) r e w') : WorPost w b l r e w' := by
  obtain ⟨h6, ha, hr⟩ := chk_ok h
  have hv : valE b l r = _ := valE_of h6 ha hr
  rcases hF with ⟨hf, rfl, ho⟩ | ⟨hf, rfl, hb⟩
  · rw [hf, if_neg (by decide)] at hv
    refine ⟨_, by rw [hv], ?_, below_via hBl (ho.below)⟩
    unfold valL
    rw [if_pos hv]
    have hw := worths_len r (l.map (· * b))
    rw [List.length_map] at hw
    exact ho.asRow hw (by omega) (by unfold maxLen; omega) (fun j hj => by
      rw [worths_get r _ j (by rw [List.length_map]; omega)]
      exact (if_pos (Nat.zero_le _)).symm) (worths_in hf)
  · rw [hf, if_pos rfl] at hv
    refine ⟨_, by rw [hv], ?_, below_via hBl hb⟩
    unfold valL
    rw [if_neg (by omega)]
    exact Or.inl ⟨_, _, rfl, rfl⟩
theorem fold_shape {w : World} {len : Nat} {L : List Int} {r : Int} {e : Ending} {w' : World} (h : FoldPost w len L r e w') : ∃ (v : Value) (E : Int), e = .returned (.tuple #[v, .int .i64 E]) := by
  rcases h with ⟨_, rfl, _⟩ | ⟨_, rfl, _⟩
  · exact ⟨_, _, rfl⟩
  · exact ⟨_, _, rfl⟩
theorem wor_yes {w : World} {v : Value} {l : List Int} {r b : Int} (hb : b = 1 ∨ b = 1000) (hR : Row w v l) (h : chkE l r = 0) : WorA w v l r b := by
  obtain ⟨h6, ha, hr⟩ := chk_ok h
  have hB := box2_new w r b
  have c1 := hB.c1
  have hR2 := (hR.alloc (.cells #[.int .i64 r] 2)).alloc (.cells #[.int .i64 b] 2)
  have hC := chk_any r hR2
  rw [h] at hC
  have HC := hide hC
  have HF := hide (fold_any hR2 h6 hr (all_bd ha hb) hB)
  have HE := hide (fun e w' => wor_end (b := b) (e := e) (w' := w') h (below2 w (.cells #[.int .i64 r] 2) (.cells #[.int .i64 b] 2)))
  unfold WorA
  unfold ChkA at HC
  clear h hB hR hR2 hC hb h6 ha hr
  have HS := hide (fun e w' => fold_shape (w := (w.alloc (.cells #[.int .i64 r] 2)).alloc (.cells #[.int .i64 b] 2)) (len := l.length) (L := l.map (· * b)) (r := r) (e := e) (w' := w'))
  show Calls _ _ _ _ (fun e w' => WorPost w b l r e w')
  generalize FoldPost ((w.alloc (.cells #[.int .i64 r] 2)).alloc (.cells #[.int .i64 b] 2)) l.length (l.map (· * b)) r = F at *
  go_enter Try.func19, Try.ntmps19
  go_wp2_with fail
  refine (unhide HC).mono ?_
  rintro e w1 ⟨rfl, rfl⟩
  go_wp2_with fail
  refine (unhide HF).mono ?_
  intro e w1 hf
  obtain ⟨v', E, rfl⟩ := unhide HS _ _ hf
  have HQ := hide (unhide HE _ _ hf)
  clear hf HE HF HS HC
  go_wp2_with fail
  go_ret2
  exact unhide HQ
theorem wor_any {w : World} {v : Value} {l : List Int} {r b : Int} (hb : b = 1 ∨ b = 1000) (hR : Row w v l) : WorA w v l r b := by
  by_cases h : chkE l r = 0
  · exact wor_yes hb hR h
  · exact wor_no hR h
/-- What now answers: the first of the worths. -/
def NowA (f : Nat) (w : World) (args : Array Value) (n e : Int) : Prop := Calls Try.prog f args w fun z w' => z = .returned (.tuple #[.int .i64 n, .int .i64 e]) ∧ Below w.heap.size w w'
theorem valL_head {b : Int} {l : List Int} {r : Int} (h : valE b l r = 0) : ∃ R, valL b l r = valN b l r :: R := by
  unfold valL valN
  rw [if_pos h, if_pos h]
  cases l with
  | nil => exact ⟨[], rfl⟩
  | cons x l => exact ⟨_, rfl⟩
theorem now_any {w : World} {v : Value} {l : List Int} {r b : Int} (hb : b = 1 ∨ b = 1000) (hR : Row w v l) : NowA 21 w #[v, .int .i64 r, .int .i64 b] (valN b l r) (valE b l r) := by
  have HW := hide (wor_any (r := r) hb hR)
  unfold NowA
  unfold WorA WorPost at HW
  by_cases h : valE b l r = 0
  · obtain ⟨R, hR⟩ := valL_head h
    rw [hR, h] at HW
    rw [h]
    have HH := hide hR
    clear hR h
    generalize valN b l r = n at *
    go_enter Try.func21, Try.ntmps21
    go_wp2_with fail
    refine (unhide HW).mono ?_
    rintro e w1 ⟨u, rfl, hu, hb⟩
    rcases hu with ⟨a, cap, rfl, h0⟩ | ⟨g, off, cap, rfl, _, _, hc, _⟩
    · cases h0
    · have c0 := hc 0 (by simp)
      rw [Nat.add_zero] at c0
      simp only [List.getD_cons_zero] at c0
      have HB := hide hb
      clear hc hb HW
      have i1 : (0 : Int) < ((n :: R).length : Int) := by simp only [List.length_cons]; omega
      generalize (n :: R).length = len at *
      have i2 : 0 < len := by omega
      go_wp2_with fail
      go_ret2
      exact ⟨rfl, unhide HB⟩
  · have h0 : valN b l r = 0 := by unfold valN; rw [if_neg h]
    rw [h0]
    have hE : (valE b l r != 0) = true := by simpa using h
    clear h h0
    generalize valE b l r = E at *
    go_enter Try.func21, Try.ntmps21
    go_wp2_with fail
    refine (unhide HW).mono ?_
    rintro e w1 ⟨u, rfl, hu, hb⟩
    have HB := hide hb
    clear hu hb
    go_wp2_with fail
    go_ret2
    exact ⟨rfl, unhide HB⟩
/-- Of, Fine, All. -/
theorem of_any {w : World} {v : Value} {l : List Int} (r : Int) (hR : Row w v l) : NowA 11 w #[v, .int .i64 r] (valN 1 l r) (valE 1 l r) := by
  have H := hide (now_any (r := r) (Or.inl rfl : (1 : Int) = 1 ∨ (1 : Int) = 1000) hR)
  unfold NowA at *
  generalize valN 1 l r = n at *
  generalize valE 1 l r = E at *
  go_enter Try.func11, Try.ntmps11
  go_wp2_with fail
  refine (unhide H).mono ?_
  rintro e w1 ⟨rfl, hb⟩
  go_wp2_with fail
  go_ret2
  exact ⟨rfl, hb⟩
theorem fine_any {w : World} {v : Value} {l : List Int} (r : Int) (hR : Row w v l) : NowA 14 w #[v, .int .i64 r] (valN 1000 l r) (valE 1000 l r) := by
  have H := hide (now_any (r := r) (Or.inr rfl : (1000 : Int) = 1 ∨ (1000 : Int) = 1000) hR)
  unfold NowA at *
  generalize valN 1000 l r = n at *
  generalize valE 1000 l r = E at *
  go_enter Try.func14, Try.ntmps14
  go_wp2_with fail
  refine (unhide H).mono ?_
  rintro e w1 ⟨rfl, hb⟩
  go_wp2_with fail
  go_ret2
  exact ⟨rfl, hb⟩
theorem all_any {w : World} {v : Value} {l : List Int} (r : Int) (hR : Row w v l) : Calls Try.prog 9 #[v, .int .i64 r] w (WorPost w 1 l r) := by
  have H := hide (wor_any (r := r) (Or.inl rfl : (1 : Int) = 1 ∨ (1 : Int) = 1000) hR)
  unfold WorA at H
  have HS : Hid (∀ e w', WorPost w 1 l r e w' → ∃ (v : Value) (E : Int), e = .returned (.tuple #[v, .int .i64 E])) := hide (fun e w' h => by
    obtain ⟨u, he, _⟩ := h
    exact ⟨u, _, he⟩)
  show Calls _ _ _ _ (fun e w' => WorPost w 1 l r e w')
  go_enter Try.func9, Try.ntmps9
  go_wp2_with fail
  refine (unhide H).mono ?_
  intro e w1 hq
  obtain ⟨u, E, rfl⟩ := unhide HS _ _ hq
  replace hq := hide hq
  clear H HS
  go_wp2_with fail
  go_ret2
  exact unhide hq
/-- Change: the first error, or the difference, or ErrOver where that is no number of 64 bits. -/
def chgE (l : List Int) (r s : Int) : Int := if valE 1 l r = 0 then (if valE 1 l s = 0 then okE (valN 1 l s - valN 1 l r) else valE 1 l s) else valE 1 l r
def chgN (l : List Int) (r s : Int) : Int := if valE 1 l r = 0 then (if valE 1 l s = 0 then okN (valN 1 l s - valN 1 l r) else 0) else 0
theorem valN_in (b : Int) (l : List Int) (r : Int) : In64 (valN b l r) := by
  unfold valN
  split
  · next h =>
    have := fits_in (valE_ok h).2.2.2
    exact ⟨by omega, by omega⟩
  · exact ⟨by omega, by omega⟩
theorem change_any {w : World} {v : Value} {l : List Int} (r s : Int) (hR : Row w v l) : NowA 16 w #[v, .int .i64 r, .int .i64 s] (chgN l r s) (chgE l r s) := by
  have H1 := hide (of_any r hR)
  have H2 : Hid (∀ w', Below w.heap.size w w' → NowA 11 w' #[v, .int .i64 s] (valN 1 l s) (valE 1 l s)) := hide (fun w' hb => of_any s (hR.below hb (Nat.le_refl _)))
  have H3 := hide (sub_any (valN 1 l s) (valN 1 l r) (valN_in 1 l s) (valN_in 1 l r))
  unfold chgN chgE
  unfold NowA at *
  clear hR
  generalize valN 1 l s = m at *
  generalize valN 1 l r = n at *
  by_cases h1 : valE 1 l r = 0
  · rw [if_pos h1, if_pos h1]
    rw [h1] at H1
    clear h1
    by_cases h2 : valE 1 l s = 0
    · rw [if_pos h2, if_pos h2]
      rw [h2] at H2
      clear h2
      go_enter Try.func16, Try.ntmps16
      go_wp2_with fail
      refine (unhide H1).mono ?_
      rintro e w1 ⟨rfl, hb⟩
      replace hb := hide hb
      go_wp2_with fail
      refine (unhide H2 _ (unhide hb)).mono ?_
      rintro e w2 ⟨rfl, hb2⟩
      replace hb := hide (below_via (unhide hb) hb2)
      clear hb2
      go_wp2_with fail
      refine (unhide H3 _).mono ?_
      rintro e w3 ⟨rfl, rfl⟩
      go_wp2_with fail
      go_ret2
      exact ⟨rfl, unhide hb⟩
    · rw [if_neg h2, if_neg h2]
      have hE : (valE 1 l s != 0) = true := by simpa using h2
      clear h2
      generalize valE 1 l s = E at *
      go_enter Try.func16, Try.ntmps16
      go_wp2_with fail
      refine (unhide H1).mono ?_
      rintro e w1 ⟨rfl, hb⟩
      replace hb := hide hb
      go_wp2_with fail
      refine (unhide H2 _ (unhide hb)).mono ?_
      rintro e w2 ⟨rfl, hb2⟩
      replace hb := hide (below_via (unhide hb) hb2)
      clear hb2
      go_wp2_with fail
      go_ret2
      exact ⟨rfl, unhide hb⟩
  · rw [if_neg h1, if_neg h1]
    have hE : (valE 1 l r != 0) = true := by simpa using h1
    clear h1
    generalize valE 1 l r = E at *
    go_enter Try.func16, Try.ntmps16
    go_wp2_with fail
    refine (unhide H1).mono ?_
    rintro e w1 ⟨rfl, hb⟩
    replace hb := hide hb
    go_wp2_with fail
    go_ret2
    exact ⟨rfl, unhide hb⟩
end Go.Proofs.Ytpncdjejngkpgaa.Mn
