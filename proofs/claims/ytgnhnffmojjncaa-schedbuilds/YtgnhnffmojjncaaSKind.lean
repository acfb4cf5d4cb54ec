/- What each kind pays ahead of the last period, as sched reckons it. -/
import Derived.Test.YtgnhnffmojjncaaSCrs
namespace Go.Proofs.Ytgnhnffmojjncaa.Mn
open Go.RowKit
set_option linter.unusedSimpArgs false
theorem payInterest_any {w : World} {b : Nat} {kd P : Int} {rv : Value} {n i x q l : Int} {pv : Value} (hC : Crs w b kd P rv n i x q l pv) :
    Calls Try.prog 43 #[.pointer (some ⟨b, 0, none⟩)] w fun e w' => e = .returned (.int .i64 q) ∧ w = w' := by
  have c6 := hC.c6
  clear hC
  go_enter Try.func43, Try.ntmps43
  go_wp2_with fail
  go_ret
  exact ⟨rfl, rfl⟩
theorem payNothing_any (v : Value) (w : World) : Calls Try.prog 44 #[v] w fun e w' => e = .returned (.int .i64 0) ∧ w = w' := by
  go_enter Try.func44, Try.ntmps44
  go_wp2_with fail
  go_ret
  exact ⟨rfl, rfl⟩
/-- Since w, in w' nothing but block b has turned; block b is that loan, with some level payment; the rates are there. -/
structure LS (w w' : World) (b : Nat) (kd P : Int) (rv : Value) (rs : List Int) (n i x q : Int) (pv : Value) : Prop where
  ex : ∃ l, Crs w' b kd P rv n i x q l pv
  row : Row w' rv rs
  gb : w.grownBy w' (some b)
/-- The cells that are read, and all of it hidden. -/
def LSS (w w' : World) (b : Nat) (kd P : Int) (rv : Value) (rs : List Int) (n i x q : Int) (pv : Value) : Prop :=
  w'.cell? ⟨b, 5, none⟩ = some (.int .i64 x) ∧ w'.cell? ⟨b, 3, none⟩ = some (.int .i64 n) ∧ w'.cell? ⟨b, 4, none⟩ = some (.int .i64 i) ∧ Hid (LS w w' b kd P rv rs n i x q pv)
section
variable {w w' w2 : World} {b : Nat} {kd P : Int} {rv : Value} {rs : List Int} {n i x q l : Int} {pv : Value}
theorem LS.s (h : LS w w' b kd P rv rs n i x q pv) : LSS w w' b kd P rv rs n i x q pv := by
  obtain ⟨l, hl⟩ := h.ex
  exact ⟨hl.c5, hl.c3, hl.c4, hide h⟩
theorem LS.keep (h : LS w w' b kd P rv rs n i x q pv) (hb : Below w'.heap.size w' w2) : LS w w2 b kd P rv rs n i x q pv := by
  obtain ⟨l, hl⟩ := h.ex
  exact ⟨⟨l, hl.keep hb⟩, h.row.below hb (Nat.le_refl _), gb_trans h.gb (gb_below hb _)⟩
theorem LS.drew (h : LS w w' b kd P rv rs n i x q pv) : LS w w'.drew b kd P rv rs n i x q pv := by
  obtain ⟨l, hl⟩ := h.ex
  exact ⟨⟨l, hl.drew⟩, h.row.drewN 1, gb_trans h.gb (gb_drewN _ 1 _)⟩
theorem LS.put (h : LS w w' b kd P rv rs n i x q pv) (hne : rv.ownBlock ≠ some b) (v : Int) : LS w (w'.setCell ⟨b, 7, none⟩ (.int .i64 v)) b kd P rv rs n i x q pv := by
  obtain ⟨l, hl⟩ := h.ex
  exact ⟨⟨v, hl.set7 v⟩, h.row.far (gb_set _ _ _ _) hne, gb_trans h.gb (gb_set _ _ _ _)⟩
end
/-- What payLevel and its kin answer: what is paid, and the block as it is then. -/
def PaysA (f : Nat) (w : World) (b : Nat) (kd P : Int) (rv : Value) (rs : List Int) (n i x q l' : Int) (pv : Value) (v : Int) : Prop :=
  Calls Try.prog f #[.pointer (some ⟨b, 0, none⟩)] w fun e w' => e = .returned (.int .i64 v) ∧ Crs w' b kd P rv n i x q l' pv ∧ Row w' rv rs ∧ w.grownBy w' (some b)
set_option maxHeartbeats 2000000 in
theorem payLevel_first {w : World} {b : Nat} {kd P : Int} {rv : Value} {rs : List Int} {n : Nat} {x q l : Int} {pv : Value} (hC : Crs w b kd P rv n 0 x q l pv) (hR : Row w rv rs) (hne : rv.ownBlock ≠ some b) (h0 : 0 < rs.length) (h1 : rs.length ≤ 600)
    (x0 : 0 ≤ x) (x1 : x ≤ 10000000000000) (q0 : 0 ≤ q) (q1 : q ≤ x) (n0 : 0 < n) (n1 : n ≤ 600) (hr : bearB (rtAt rs 0) = true) :
    PaysA 41 w b kd P rv rs n 0 x q (lvlR (rtAt rs 0) n x) pv (min (lvlR (rtAt rs 0) n x) (x + q)) := by
  have HRt : Hid (∀ w', Crs w' b kd P rv n 0 x q l pv → Row w' rv rs → Calls Try.prog 34 #[.pointer (some ⟨b, 0, none⟩), .int .i64 (0)] w' fun e w'' => e = .returned (.int .i64 (rtAt rs 0)) ∧ ∃ m, w'' = w'.drewN m) := hide (fun w' a c => rateAt_any a c h0 h1 0)
  have hL := hide (level_ok x (rtAt rs 0) (n) x0 x1 hr (by simp [lastB]; omega))
  obtain ⟨r0, r1⟩ := bearB_bd hr
  obtain ⟨v0, v1⟩ := lvlR_bd (k := n) x0 x1 r0 r1 (by omega)
  obtain ⟨p0, p1⟩ := qI_bd x0 r0 r1
  have vb : lvlR (rtAt rs 0) (n) x ≤ 20000000000000 := by omega
  clear v1 p0 p1
  generalize lvlR (rtAt rs 0) (n) x = v at *
  generalize rtAt rs 0 = r at *
  have HC := hide hC
  have HR := hide hR
  have c4 := hC.c4
  clear hC hR hr
  unfold PaysA LevelA at *
  go_enter Try.func41, Try.ntmps41
  go_wp2_with fail
  refine (unhide HRt w (unhide HC) (unhide HR)).mono ?_
  rintro e w1 ⟨rfl, m1, rfl⟩
  replace HC := hide ((unhide HC).drewN m1)
  replace HR := hide ((unhide HR).drewN m1)
  have HG := hide (gb_drewN w m1 (some b))
  clear c4 HRt
  generalize w.drewN m1 = W at *
  have q8 : IntKind.i64.wrap ((n : Int) - 0) = (n : Int) := by rw [IntKind.wrap_i64]; omega
  have q9 : IntKind.i64.wrap (n : Int) = (n : Int) := by rw [IntKind.wrap_i64]; omega
  have HL : Hid (LS w W b kd P rv rs n 0 x q pv) := hide ⟨⟨l, unhide HC⟩, unhide HR, unhide HG⟩
  have hS := (unhide HL).s
  obtain ⟨c5, c3, c4, _⟩ := hS
  go_wp2_with fail
  go_region_held3 (fun w' => w'.cell? ⟨b, 5, none⟩ = some (.int .i64 x) ∧ w'.cell? ⟨b, 3, none⟩ = some (.int .i64 n) ∧ w'.cell? ⟨b, 4, none⟩ = some (.int .i64 0) ∧ Hid (LS w w' b kd P rv rs n 0 x q pv))
    (first
      | exact ((unhide HL).drew.keep hb).s
      | exact (((unhide HL).drew.keep hb).put hne v).s
      | exact (unhide HL).drew.s
      | exact (unhide HL).s)
    ((go_at_call 17; refine (unhide hL _).mono ?_; rintro e w1 ⟨rfl, hb⟩; have HC1 := hide ((unhide HC).drew.keep hb); have c7 := (unhide HC1).c7; have f7 := (unhide HC1).fz 7))
  rename_i hH
  have HC2 := hide ((unhide HC1).set7 v)
  have HL2 := hH.2.2.2
  clear hH HC1 c7 f7 c5 c3 c4 hb HC HR HG HL hL q8 q9
  generalize w1.setCell ⟨b, 7, none⟩ (.int .i64 v) = W5 at *
  have c5 := (unhide HC2).c5
  have c6 := (unhide HC2).c6
  have c7 := (unhide HC2).c7
  by_cases c : v ≤ x + q
  · go_wp2_with fail
    go_quiet (fail)
    go_wp2_with fail
    go_ret
    exact ⟨ret_int (Int.min_eq_left c).symm, (unhide HC2).drewN _, (unhide HL2).row.drewN _, gb_trans (unhide HL2).gb (gb_drewN _ _ _)⟩
  · have c' : x + q < v := by omega
    go_wp2_with fail
    go_quiet (fail)
    go_wp2_with fail
    go_ret
    exact ⟨ret_int (Int.min_eq_right (Int.le_of_lt c')).symm, (unhide HC2).drewN _, (unhide HL2).row.drewN _, gb_trans (unhide HL2).gb (gb_drewN _ _ _)⟩
set_option maxHeartbeats 2000000 in
theorem payLevel_new {w : World} {b : Nat} {kd P : Int} {rv : Value} {rs : List Int} {n j : Nat} {x q l : Int} {pv : Value} (hC : Crs w b kd P rv n ((j : Int) + 1) x q l pv) (hR : Row w rv rs) (hne : rv.ownBlock ≠ some b) (h0 : 0 < rs.length) (h1 : rs.length ≤ 600)
    (x0 : 0 ≤ x) (x1 : x ≤ 10000000000000) (q0 : 0 ≤ q) (q1 : q ≤ x) (n0 : j + 1 < n) (n1 : n ≤ 600) (hr : bearB (rtAt rs (j + 1)) = true) (hd : rtAt rs (j + 1) ≠ rtAt rs j) :
    PaysA 41 w b kd P rv rs n ((j : Int) + 1) x q (lvlR (rtAt rs (j + 1)) (n - (j + 1)) x) pv (min (lvlR (rtAt rs (j + 1)) (n - (j + 1)) x) (x + q)) := by
  have HRt : Hid (∀ w', Crs w' b kd P rv n ((j : Int) + 1) x q l pv → Row w' rv rs → Calls Try.prog 34 #[.pointer (some ⟨b, 0, none⟩), .int .i64 (((j : Int) + 1))] w' fun e w'' => e = .returned (.int .i64 (rtAt rs (j + 1))) ∧ ∃ m, w'' = w'.drewN m) := hide (fun w' a c => rateAt_any a c h0 h1 (j + 1))
  have HRp : Hid (∀ w', Crs w' b kd P rv n ((j : Int) + 1) x q l pv → Row w' rv rs → Calls Try.prog 34 #[.pointer (some ⟨b, 0, none⟩), .int .i64 (j)] w' fun e w'' => e = .returned (.int .i64 (rtAt rs j)) ∧ ∃ m, w'' = w'.drewN m) := hide (fun w' a c => rateAt_any a c h0 h1 j)
  have hL := hide (level_ok x (rtAt rs (j + 1)) ((n - (j + 1))) x0 x1 hr (by simp [lastB]; omega))
  obtain ⟨r0, r1⟩ := bearB_bd hr
  obtain ⟨v0, v1⟩ := lvlR_bd (k := (n - (j + 1))) x0 x1 r0 r1 (by omega)
  obtain ⟨p0, p1⟩ := qI_bd x0 r0 r1
  have vb : lvlR (rtAt rs (j + 1)) ((n - (j + 1))) x ≤ 20000000000000 := by omega
  clear v1 p0 p1
  generalize lvlR (rtAt rs (j + 1)) ((n - (j + 1))) x = v at *
  have t9 : (rtAt rs (j + 1) != rtAt rs j) = true := by rw [bne_iff_ne]; exact hd
  clear hd
  generalize rtAt rs j = r9 at *
  generalize rtAt rs (j + 1) = r at *
  have t8 : ((j : Int) + 1 == 0) = false := by rw [beq_eq_false_iff_ne]; omega
  have HC := hide hC
  have HR := hide hR
  have c4 := hC.c4
  clear hC hR hr
  unfold PaysA LevelA at *
  go_enter Try.func41, Try.ntmps41
  go_wp2_with fail
  refine (unhide HRt w (unhide HC) (unhide HR)).mono ?_
  rintro e w1 ⟨rfl, m1, rfl⟩
  replace HC := hide ((unhide HC).drewN m1)
  replace HR := hide ((unhide HR).drewN m1)
  have HG := hide (gb_drewN w m1 (some b))
  clear c4 HRt
  generalize w.drewN m1 = W at *
  have c4 := (unhide HC).c4
  go_wp2_with fail
  refine (unhide HRp W (unhide HC) (unhide HR)).mono ?_
  rintro e w1 ⟨rfl, m2, rfl⟩
  replace HC := hide ((unhide HC).drewN m2)
  replace HR := hide ((unhide HR).drewN m2)
  replace HG := hide (gb_trans (unhide HG) (gb_drewN W m2 (some b)))
  clear c4 HRp
  generalize W.drewN m2 = W3 at *
  have q8 : IntKind.i64.wrap ((n : Int) - ((j : Int) + 1)) = ((n - (j + 1) : Nat) : Int) := by rw [IntKind.wrap_i64]; omega
  have HL : Hid (LS w W3 b kd P rv rs n ((j : Int) + 1) x q pv) := hide ⟨⟨l, unhide HC⟩, unhide HR, unhide HG⟩
  have hS := (unhide HL).s
  obtain ⟨c5, c3, c4, _⟩ := hS
  go_wp2_with fail
  go_region_held3 (fun w' => w'.cell? ⟨b, 5, none⟩ = some (.int .i64 x) ∧ w'.cell? ⟨b, 3, none⟩ = some (.int .i64 n) ∧ w'.cell? ⟨b, 4, none⟩ = some (.int .i64 ((j : Int) + 1)) ∧ Hid (LS w w' b kd P rv rs n ((j : Int) + 1) x q pv))
    (first
      | exact ((unhide HL).drew.keep hb).s
      | exact (((unhide HL).drew.keep hb).put hne v).s
      | exact (unhide HL).drew.s
      | exact (unhide HL).s)
    ((go_at_call 17; refine (unhide hL _).mono ?_; rintro e w1 ⟨rfl, hb⟩; have HC1 := hide ((unhide HC).drew.keep hb); have c7 := (unhide HC1).c7; have f7 := (unhide HC1).fz 7))
  rename_i hH
  have HC2 := hide ((unhide HC1).set7 v)
  have HL2 := hH.2.2.2
  clear hH HC1 c7 f7 c5 c3 c4 hb HC HR HG HL hL q8
  generalize w1.setCell ⟨b, 7, none⟩ (.int .i64 v) = W5 at *
  have c5 := (unhide HC2).c5
  have c6 := (unhide HC2).c6
  have c7 := (unhide HC2).c7
  by_cases c : v ≤ x + q
  · go_wp2_with fail
    go_quiet (fail)
    go_wp2_with fail
    go_ret
    exact ⟨ret_int (Int.min_eq_left c).symm, (unhide HC2).drewN _, (unhide HL2).row.drewN _, gb_trans (unhide HL2).gb (gb_drewN _ _ _)⟩
  · have c' : x + q < v := by omega
    go_wp2_with fail
    go_quiet (fail)
    go_wp2_with fail
    go_ret
    exact ⟨ret_int (Int.min_eq_right (Int.le_of_lt c')).symm, (unhide HC2).drewN _, (unhide HL2).row.drewN _, gb_trans (unhide HL2).gb (gb_drewN _ _ _)⟩
set_option maxHeartbeats 2000000 in
theorem payLevel_old {w : World} {b : Nat} {kd P : Int} {rv : Value} {rs : List Int} {n j : Nat} {x q l : Int} {pv : Value} (hC : Crs w b kd P rv n ((j : Int) + 1) x q l pv) (hR : Row w rv rs) (h0 : 0 < rs.length) (h1 : rs.length ≤ 600)
    (x0 : 0 ≤ x) (x1 : x ≤ 10000000000000) (q0 : 0 ≤ q) (q1 : q ≤ x) (n0 : j + 1 < n) (n1 : n ≤ 600) (v0 : 0 ≤ l) (v1 : l ≤ 20000000000000) (hd : rtAt rs (j + 1) = rtAt rs j) :
    PaysA 41 w b kd P rv rs n ((j : Int) + 1) x q (l) pv (min (l) (x + q)) := by
  have HRt : Hid (∀ w', Crs w' b kd P rv n ((j : Int) + 1) x q l pv → Row w' rv rs → Calls Try.prog 34 #[.pointer (some ⟨b, 0, none⟩), .int .i64 (((j : Int) + 1))] w' fun e w'' => e = .returned (.int .i64 (rtAt rs (j + 1))) ∧ ∃ m, w'' = w'.drewN m) := hide (fun w' a c => rateAt_any a c h0 h1 (j + 1))
  have HRp : Hid (∀ w', Crs w' b kd P rv n ((j : Int) + 1) x q l pv → Row w' rv rs → Calls Try.prog 34 #[.pointer (some ⟨b, 0, none⟩), .int .i64 (j)] w' fun e w'' => e = .returned (.int .i64 (rtAt rs j)) ∧ ∃ m, w'' = w'.drewN m) := hide (fun w' a c => rateAt_any a c h0 h1 j)
  obtain ⟨v, hv⟩ : ∃ v, v = l := ⟨l, rfl⟩
  subst hv
  have t9 : (rtAt rs (j + 1) != rtAt rs j) = false := by rw [hd]; simp
  clear hd
  generalize rtAt rs j = r9 at *
  generalize rtAt rs (j + 1) = r at *
  have t8 : ((j : Int) + 1 == 0) = false := by rw [beq_eq_false_iff_ne]; omega
  have HC := hide hC
  have HR := hide hR
  have c4 := hC.c4
  clear hC hR
  unfold PaysA at *
  go_enter Try.func41, Try.ntmps41
  go_wp2_with fail
  refine (unhide HRt w (unhide HC) (unhide HR)).mono ?_
  rintro e w1 ⟨rfl, m1, rfl⟩
  replace HC := hide ((unhide HC).drewN m1)
  replace HR := hide ((unhide HR).drewN m1)
  have HG := hide (gb_drewN w m1 (some b))
  clear c4 HRt
  generalize w.drewN m1 = W at *
  have c4 := (unhide HC).c4
  go_wp2_with fail
  refine (unhide HRp W (unhide HC) (unhide HR)).mono ?_
  rintro e w1 ⟨rfl, m2, rfl⟩
  replace HC := hide ((unhide HC).drewN m2)
  replace HR := hide ((unhide HR).drewN m2)
  replace HG := hide (gb_trans (unhide HG) (gb_drewN W m2 (some b)))
  clear c4 HRp
  generalize W.drewN m2 = W3 at *
  have c5 := (unhide HC).c5
  have c6 := (unhide HC).c6
  have c7 := (unhide HC).c7
  by_cases c : v ≤ x + q
  · go_wp2_with fail
    go_quiet (fail)
    go_wp2_with fail
    go_ret
    exact ⟨ret_int (Int.min_eq_left c).symm, (unhide HC).drewN _, (unhide HR).drewN _, gb_trans (unhide HG) (gb_drewN _ _ _)⟩
  · have c' : x + q < v := by omega
    go_wp2_with fail
    go_quiet (fail)
    go_wp2_with fail
    go_ret
    exact ⟨ret_int (Int.min_eq_right (Int.le_of_lt c')).symm, (unhide HC).drewN _, (unhide HR).drewN _, gb_trans (unhide HG) (gb_drewN _ _ _)⟩
end Go.Proofs.Ytgnhnffmojjncaa.Mn
