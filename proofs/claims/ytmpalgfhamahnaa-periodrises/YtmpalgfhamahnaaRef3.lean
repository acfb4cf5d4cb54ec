/- What the reference's To answers. -/
import Derived.Test.YtmpalgfhamahnaaRef2
namespace Go.Proofs.Ytmpalgfhamahnaa
open Go.RowKit
set_option linter.unusedSimpArgs false
def Below9 (w wr : World) (x y z : Int) : Prop := R9 wr w.heap.size 0 0 0 ∧ R9 wr (w.heap.size + 1) x y z ∧ Below w.heap.size w wr
def RTos (n y m d e : Int) : Prop := ∀ w : World, Calls Try.prog 23 #[.int .i64 n] w fun z w' => z = .returned (.tuple #[.agg #[.int .i64 y, .int .i64 m, .int .i64 d], .int .i64 e]) ∧ Below w.heap.size w w'
theorem rto_no (n : Int) (h : n < 1 ∨ 3652059 < n) : RTos n 0 0 0 5 := by
  intro w
  rcases h with h | h
  · have d1 : decide (n < 1) = true := decide_eq_true h
    go_enter Try.func23, Try.ntmps23
    go_wp2_with (rw [rbuild0])
    exact bodyPost_ret (results9 rfl _ rfl rfl (R9.new w 0 0 0)) rfl ⟨rfl, (Below.refl _ _).alloc (Nat.le_refl _) _⟩
  · have d1 : decide (n < 1) = false := decide_eq_false (by omega)
    have d2 : decide (3652059 < n) = true := decide_eq_true h
    go_enter Try.func23, Try.ntmps23
    go_wp2_with (rw [rbuild0])
    exact bodyPost_ret (results9 rfl _ rfl rfl (R9.new w 0 0 0)) rfl ⟨rfl, (Below.refl _ _).alloc (Nat.le_refl _) _⟩
theorem Below9.s0 {w wr : World} {x y z : Int} (h : Below9 w wr x y z) (u : Int) : Below9 w (wr.setCell ⟨w.heap.size + 1, 0, none⟩ (.int .i64 u)) u y z := ⟨h.1.other (by show w.heap.size ≠ w.heap.size + 1; omega) _, h.2.1.s0 u, h.2.2.setCell (by show w.heap.size ≤ w.heap.size + 1; omega) _⟩
theorem Below9.s1 {w wr : World} {x y z : Int} (h : Below9 w wr x y z) (u : Int) : Below9 w (wr.setCell ⟨w.heap.size + 1, 1, none⟩ (.int .i64 u)) x u z := ⟨h.1.other (by show w.heap.size ≠ w.heap.size + 1; omega) _, h.2.1.s1 u, h.2.2.setCell (by show w.heap.size ≤ w.heap.size + 1; omega) _⟩
theorem Below9.s2 {w wr : World} {x y z : Int} (h : Below9 w wr x y z) (u : Int) : Below9 w (wr.setCell ⟨w.heap.size + 1, 2, none⟩ (.int .i64 u)) x y u := ⟨h.1.other (by show w.heap.size ≠ w.heap.size + 1; omega) _, h.2.1.s2 u, h.2.2.setCell (by show w.heap.size ≤ w.heap.size + 1; omega) _⟩
theorem Below9.dr {w wr : World} {x y z : Int} (h : Below9 w wr x y z) (n : Nat) : Below9 w (wr.drewN n) x y z := ⟨h.1, h.2.1, below_drewN h.2.2 n⟩
set_option maxRecDepth 20000 in
set_option maxHeartbeats 8000000 in
theorem rto_in (n d : Int) (Y M : Nat) (L : Bool) (r1 : 1 ≤ n) (r2 : n ≤ 3652059) (hY1 : 1 ≤ Y) (hY2 : (Y : Int) ≤ 9999) (hM1 : 1 ≤ M) (hM2 : (M : Int) ≤ 12) (hd1 : 1 ≤ d) (hd2 : Hid (d ≤ len L M)) (en : Hid (n = ds (Y - 1) + mo L M + d)) (eL : Hid (L = leap Y)) (hyr : Hid (ds (Y - 1) < n ∧ n ≤ ds Y))
    (hL : Hid (∀ k : Nat, Q 24 #[.int .i64 Y, .int .i64 k] (.int .i64 (len L k)))) (hle : Hid (∀ k : Nat, Q 36 #[.int .i64 k] (.bool (leap k)))) : RTos n Y M d 0 := by
  intro w
  have d1 : decide (n < 1) = false := decide_eq_false (by omega)
  have d2 : decide (3652059 < n) = false := decide_eq_false (by omega)
  have hmo := hide (fun (k j : Nat) => mo_lt L (k := k) (j := j))
  have hms := hide (mo_step L)
  go_enter Try.func23, Try.ntmps23
  go_wp2_with (rw [rbuild3])
  have A1 := (R9.new w 0 0 0).alloc (.cells #[.int .i64 1, .int .i64 1, .int .i64 n] 46)
  have A2 := R9.new (w.alloc (.cells #[.int .i64 0, .int .i64 0, .int .i64 0] 46)) 1 1 n
  rw [show (w.alloc (.cells #[.int .i64 0, .int .i64 0, .int .i64 0] 46)).heap.size = w.heap.size + 1 from by simp] at A2
  have A3 := ((Below.refl w.heap.size w).alloc (Nat.le_refl _) (.cells #[.int .i64 0, .int .i64 0, .int .i64 0] 46)).alloc (by simp) (.cells #[.int .i64 1, .int .i64 1, .int .i64 n] 46)
  have A := hide (show Below9 w _ 1 1 n from ⟨A1, A2, A3⟩)
  clear A1 A2 A3
  generalize (w.alloc (.cells #[.int .i64 0, .int .i64 0, .int .i64 0] 46)).alloc (.cells #[.int .i64 1, .int .i64 1, .int .i64 n] 46) = W at A ⊢
  go_loopw [] (fun wr => ∃ (k : Nat) (D : Int), 1 ≤ k ∧ k ≤ Y ∧ Hid (D = n - ds (k - 1)) ∧ Hid (Below9 w wr k 1 D)) (fun wr => Y - (intOf ((wr.cell? ⟨w.heap.size + 1, 0, none⟩).getD undef)).toNat)
  case atStart => exact ⟨1, n, by omega, by omega, hide (by rw [show ((1 : Nat) : Int) - 1 = 0 from by omega, ds_zero]; omega), A⟩
  case round =>
    clear A
    obtain ⟨k, D, hk1, hk2, hD, hB⟩ := hrel
    have c0 := (unhide hB).2.1.c0
    have c2 := (unhide hB).2.1.c2
    have cw := hide c0
    have f2 := (unhide hB).2.1.fr 2
    have hl := unhide hle k
    have bD : D ≤ n := by
      have := ds_mono (y := 0) (z := (k : Int) - 1) (by omega)
      rw [ds_zero] at this
      have := unhide hD; omega
    have hk3 : (k : Int) ≤ 9999 := by omega
    by_cases hlt : k < Y
    · have g1 := ds_step k
      have g2 := ds_mono (y := (k : Int)) (z := (Y : Int) - 1) (by omega)
      have g3 := (unhide hyr).1
      have g4 := unhide hD
      have hs : Hid (D - yl (leap k) = n - ds (((k + 1 : Nat) : Int) - 1)) := hide (by rw [show ((k + 1 : Nat) : Int) - 1 = k from by omega, g1]; omega)
      have hgt : decide (D ≤ yl (leap k)) = false := decide_eq_false (by omega)
      have hg2 : yl (leap k) < D := by omega
      clear g1 g2 g3 g4 hL hmo hms hd2 hD hyr en
      cases hb : leap k
      · rw [hb] at hl hs hgt hg2
        replace hl := hide hl
        change Hid (D - 365 = _) at hs
        change decide (D ≤ 365) = false at hgt
        change 365 < D at hg2
        clear hb hle
        have Hz := hide ((unhide hB).s2 (D - 365))
        have x0 := (unhide Hz).2.1.c0
        have y0 := (unhide Hz).2.1.fr 0
        have Hy := hide ((unhide Hz).s0 ((k : Int) + 1))
        go_wp2_with fail
        refine (unhide hl _).mono ?_
        rintro e w2 ⟨rfl, rfl⟩
        go_wp2_with fail
        go_roundw
        case rel => exact ⟨k + 1, D - 365, by omega, by omega, hs, Hy⟩
        case measure => rw [(unhide Hy).2.1.c0, unhide cw]; simp [intOf]; omega
      · rw [hb] at hl hs hgt hg2
        replace hl := hide hl
        change Hid (D - 366 = _) at hs
        change decide (D ≤ 366) = false at hgt
        change 366 < D at hg2
        clear hb hle
        have Hz := hide ((unhide hB).s2 (D - 366))
        have x0 := (unhide Hz).2.1.c0
        have y0 := (unhide Hz).2.1.fr 0
        have Hy := hide ((unhide Hz).s0 ((k : Int) + 1))
        go_wp2_with fail
        refine (unhide hl _).mono ?_
        rintro e w2 ⟨rfl, rfl⟩
        go_wp2_with fail
        go_roundw
        case rel => exact ⟨k + 1, D - 366, by omega, by omega, hs, Hy⟩
        case measure => rw [(unhide Hy).2.1.c0, unhide cw]; simp [intOf]; omega
    · have hkY : k = Y := by omega
      have g1 := ds_step Y
      have g3 := (unhide hyr).2
      have g4 := unhide hD
      rw [hkY] at hB hl g4
      rw [← unhide eL] at hl g1
      have hgt : decide (D ≤ yl L) = true := decide_eq_true (by omega)
      have hDm : Hid (D = mo L M + d) := hide (by have := unhide en; omega)
      rw [hkY] at c0
      clear g1 g3 g4 hD hyr en hle hkY cw bD
      replace hl := hide hl
      generalize hK : L = K at hl hgt
      cases K
      · change decide (D ≤ 365) = true at hgt
        clear hK
        go_wp2_with fail
        refine (unhide hl _).mono ?_
        rintro e w2 ⟨rfl, rfl⟩
        clear hl
        go_wp2_with fail
        clear c0 c2 f2 hgt
        go_loopw [] (fun wr => ∃ (k : Nat) (D : Int), 1 ≤ k ∧ k ≤ M ∧ Hid (D = mo L M + d - mo L k) ∧ Hid (Below9 w wr Y k D)) (fun wr => 12 - (intOf ((wr.cell? ⟨w.heap.size + 1, 1, none⟩).getD undef)).toNat)
        case atStart => exact ⟨1, _, by omega, by omega, hide (by rw [mo_one, Int.sub_zero]; exact unhide hDm), hB⟩
        case round =>
          clear hB hDm
          obtain ⟨k, D, hk1, hk2, hD, hB⟩ := hrel
          have c0 := (unhide hB).2.1.c0
          have c1 := (unhide hB).2.1.c1
          have c2 := (unhide hB).2.1.c2
          have hl := hide (unhide hL k)
          have cw := hide c1
          by_cases hlt : k < M
          · have g1 := unhide hmo k M hlt (by omega)
            have g2 := unhide hD
            have hgt : decide (len L k < D) = true := decide_eq_true (by omega)
            have hs : Hid (D - len L k = mo L M + d - mo L (k + 1)) := hide (by rw [unhide hms k]; omega)
            have hw : IntKind.i64.wrap (D - len L k) = D - len L k := by
              have b1 := len_bd L k
              have b2 := mo_nonneg L (k := k) (by omega)
              have b3 := mo_lt L (k := M) (j := 13) (by omega) (by omega)
              rw [mo_end] at b3
              have b4 := yl_bd L
              have b5 := unhide hd2
              have b6 := mo_nonneg L (k := M) (by omega)
              rw [IntKind.wrap_i64]; omega
            clear g1 g2 hL hmo hms hd2 hD
            generalize len L k = l at *
            go_wp2_with fail
            go_quiet ((go_at_call 24; exact Calls.quiet_of_same (unhide hl _)))
            replace hB := hide ((unhide hB).dr nq)
            clear c0 c1 c2
            have f2 := (unhide hB).2.1.fr 2
            have c0 := (unhide hB).2.1.c0
            have c1 := (unhide hB).2.1.c1
            have c2 := (unhide hB).2.1.c2
            generalize wr.drewN nq = wd at *
            go_wp2_with fail
            obtain ⟨z, hz⟩ : ∃ z, z = D - l := ⟨_, rfl⟩
            replace hw := hw.trans hz.symm
            rw [← hz] at hs
            replace hz := hide hz
            have f1 := (unhide hB).2.1.fr 1
            have Hy := hide (show Below9 w ((wd.setCell ⟨w.heap.size + 1, 2, none⟩ (.int .i64 z)).setCell ⟨w.heap.size + 1, 1, none⟩ (.int .i64 ((k : Int) + 1))).drew Y ((k : Int) + 1) z from (((unhide hB).s2 z).s1 ((k : Int) + 1)).dr 1)
            go_region_with ((go_at_call 24; refine (unhide hl _).mono ?_; rintro e w3 ⟨rfl, rfl⟩))
            all_goals
              try rw [hw]
              go_wp2_with fail
              go_roundw
              case rel => exact ⟨k + 1, z, by omega, by omega, hs, Hy⟩
              case measure => rw [(unhide Hy).2.1.c1, unhide cw]; simp [intOf]; omega
          · have hkM : k = M := by omega
            have hDd : D = d := by have := unhide hD; rw [hkM] at this; omega
            rw [hkM, hDd] at hB
            rw [hkM] at hl
            have hgt : decide (len L M < d) = false := decide_eq_false (by have := unhide hd2; omega)
            clear c0 c1 c2 hL hmo hms hd2 hD
            generalize len L M = l at *
            have c0 := (unhide hB).2.1.c0
            have c1 := (unhide hB).2.1.c1
            have c2 := (unhide hB).2.1.c2
            go_wp2_with fail
            go_quiet ((go_at_call 24; exact Calls.quiet_of_same (unhide hl _)))
            have hB1 := (unhide hB).dr nq
            have B1 := hB1.1
            have B2 := hB1.2.1
            have B3 := hB1.2.2
            clear hB1 c0 c1 c2
            generalize wr.drewN nq = wd at *
            have c0 := B2.c0
            have c1 := B2.c1
            have c2 := B2.c2
            have f0 := B1.fr 0
            have f1 := B1.fr 1
            have f2 := B1.fr 2
            have x0 := B1.c0
            have x1 := B1.c1
            have x2 := B1.c2
            have R := ((B1.s0 Y).s1 M).s2 d
            have BB := ((B3.setCell (p := ⟨w.heap.size, 0, none⟩) (Nat.le_refl _) (.int .i64 Y)).setCell (p := ⟨w.heap.size, 1, none⟩) (Nat.le_refl _) (.int .i64 M)).setCell (p := ⟨w.heap.size, 2, none⟩) (Nat.le_refl _) (.int .i64 d)
            replace B1 := hide B1
            replace B2 := hide B2
            replace B3 := hide B3
            replace R := hide R
            replace BB := hide BB
            go_wp2_with fail
            exact bodyPost_ret (results9 rfl _ rfl rfl (unhide R)) rfl ⟨rfl, unhide BB⟩
      · change decide (D ≤ 366) = true at hgt
        clear hK
        go_wp2_with fail
        refine (unhide hl _).mono ?_
        rintro e w2 ⟨rfl, rfl⟩
        clear hl
        go_wp2_with fail
        clear c0 c2 f2 hgt
        go_loopw [] (fun wr => ∃ (k : Nat) (D : Int), 1 ≤ k ∧ k ≤ M ∧ Hid (D = mo L M + d - mo L k) ∧ Hid (Below9 w wr Y k D)) (fun wr => 12 - (intOf ((wr.cell? ⟨w.heap.size + 1, 1, none⟩).getD undef)).toNat)
        case atStart => exact ⟨1, _, by omega, by omega, hide (by rw [mo_one, Int.sub_zero]; exact unhide hDm), hB⟩
        case round =>
          clear hB hDm
          obtain ⟨k, D, hk1, hk2, hD, hB⟩ := hrel
          have c0 := (unhide hB).2.1.c0
          have c1 := (unhide hB).2.1.c1
          have c2 := (unhide hB).2.1.c2
          have hl := hide (unhide hL k)
          have cw := hide c1
          by_cases hlt : k < M
          · have g1 := unhide hmo k M hlt (by omega)
            have g2 := unhide hD
            have hgt : decide (len L k < D) = true := decide_eq_true (by omega)
            have hs : Hid (D - len L k = mo L M + d - mo L (k + 1)) := hide (by rw [unhide hms k]; omega)
            have hw : IntKind.i64.wrap (D - len L k) = D - len L k := by
              have b1 := len_bd L k
              have b2 := mo_nonneg L (k := k) (by omega)
              have b3 := mo_lt L (k := M) (j := 13) (by omega) (by omega)
              rw [mo_end] at b3
              have b4 := yl_bd L
              have b5 := unhide hd2
              have b6 := mo_nonneg L (k := M) (by omega)
              rw [IntKind.wrap_i64]; omega
            clear g1 g2 hL hmo hms hd2 hD
            generalize len L k = l at *
            go_wp2_with fail
            go_quiet ((go_at_call 24; exact Calls.quiet_of_same (unhide hl _)))
            replace hB := hide ((unhide hB).dr nq)
            clear c0 c1 c2
            have f2 := (unhide hB).2.1.fr 2
            have c0 := (unhide hB).2.1.c0
            have c1 := (unhide hB).2.1.c1
            have c2 := (unhide hB).2.1.c2
            generalize wr.drewN nq = wd at *
            go_wp2_with fail
            obtain ⟨z, hz⟩ : ∃ z, z = D - l := ⟨_, rfl⟩
            replace hw := hw.trans hz.symm
            rw [← hz] at hs
            replace hz := hide hz
            have f1 := (unhide hB).2.1.fr 1
            have Hy := hide (show Below9 w ((wd.setCell ⟨w.heap.size + 1, 2, none⟩ (.int .i64 z)).setCell ⟨w.heap.size + 1, 1, none⟩ (.int .i64 ((k : Int) + 1))).drew Y ((k : Int) + 1) z from (((unhide hB).s2 z).s1 ((k : Int) + 1)).dr 1)
            go_region_with ((go_at_call 24; refine (unhide hl _).mono ?_; rintro e w3 ⟨rfl, rfl⟩))
            all_goals
              try rw [hw]
              go_wp2_with fail
              go_roundw
              case rel => exact ⟨k + 1, z, by omega, by omega, hs, Hy⟩
              case measure => rw [(unhide Hy).2.1.c1, unhide cw]; simp [intOf]; omega
          · have hkM : k = M := by omega
            have hDd : D = d := by have := unhide hD; rw [hkM] at this; omega
            rw [hkM, hDd] at hB
            rw [hkM] at hl
            have hgt : decide (len L M < d) = false := decide_eq_false (by have := unhide hd2; omega)
            clear c0 c1 c2 hL hmo hms hd2 hD
            generalize len L M = l at *
            have c0 := (unhide hB).2.1.c0
            have c1 := (unhide hB).2.1.c1
            have c2 := (unhide hB).2.1.c2
            go_wp2_with fail
            go_quiet ((go_at_call 24; exact Calls.quiet_of_same (unhide hl _)))
            have hB1 := (unhide hB).dr nq
            have B1 := hB1.1
            have B2 := hB1.2.1
            have B3 := hB1.2.2
            clear hB1 c0 c1 c2
            generalize wr.drewN nq = wd at *
            have c0 := B2.c0
            have c1 := B2.c1
            have c2 := B2.c2
            have f0 := B1.fr 0
            have f1 := B1.fr 1
            have f2 := B1.fr 2
            have x0 := B1.c0
            have x1 := B1.c1
            have x2 := B1.c2
            have R := ((B1.s0 Y).s1 M).s2 d
            have BB := ((B3.setCell (p := ⟨w.heap.size, 0, none⟩) (Nat.le_refl _) (.int .i64 Y)).setCell (p := ⟨w.heap.size, 1, none⟩) (Nat.le_refl _) (.int .i64 M)).setCell (p := ⟨w.heap.size, 2, none⟩) (Nat.le_refl _) (.int .i64 d)
            replace B1 := hide B1
            replace B2 := hide B2
            replace B3 := hide B3
            replace R := hide R
            replace BB := hide BB
            go_wp2_with fail
            exact bodyPost_ret (results9 rfl _ rfl rfl (unhide R)) rfl ⟨rfl, unhide BB⟩
theorem rto_ok (y m d : Int) (h : Valid y m d) : RTos (num y m d) y m d 0 := by
  have hr := num_range h
  have hyr := num_year h
  obtain ⟨y1, y2, m1, m2, d1, d2⟩ := h
  obtain ⟨M, rfl⟩ : ∃ M : Nat, m = (M : Int) := ⟨m.toNat, by omega⟩
  obtain ⟨Y, rfl⟩ : ∃ Y : Nat, y = (Y : Int) := ⟨y.toNat, by omega⟩
  have hL : ∀ k : Nat, Q 24 #[.int .i64 Y, .int .i64 k] (.int .i64 (len (leap Y) k)) := fun k => by
    have := rlast_any Y k
    rwa [last_in y1 y2] at this
  exact rto_in _ d Y M (leap Y) hr.1 hr.2 (by omega) y2 (by omega) m2 d1 (hide d2) (hide (by unfold num; rw [Int.toNat_natCast])) (hide rfl) (hide hyr) (hide hL) (hide fun k => rleap_any k)
end Go.Proofs.Ytmpalgfhamahnaa
