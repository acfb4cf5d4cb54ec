/- SchedLeast: three of its nine ways. -/
import Derived.Test.YtgnhnffmojjncaaLeastW
namespace Go.Proofs.Ytgnhnffmojjncaa.Mn.schedLeast
open Go.RowKit
set_option linter.unusedSimpArgs false
set_option maxHeartbeats 2000000 in
theorem m00 (x r p : Int) (p0 : 0 ≤ p) (p1 : p ≤ 255) (hx : x < 1) (hr : r < 0) (hal : Hid Alive) (w : World) : Calls Try.prog 7 #[.int .i64 x, .int .i64 r, .int .u8 p] w fun e w' => e = .returned (.bool true) ∧ Below w.heap.size w w' := by
  unfold Alive at hal
  obtain ⟨k, hk⟩ : ∃ k : Nat, p % 40 + 1 = (k : Int) := ⟨(p % 40 + 1).toNat, by omega⟩
  have k0 : 0 < k := by omega
  have k1 : k ≤ 40 := by omega
  obtain ⟨n, a, b, c, en, ea, eb, ec, l1, l2, l3, n0, n1, pn, pm⟩ := facts (x := 1) (r := 0) (k := k) (by omega) (by omega) (by omega) (by omega) k0
  have HL1 := hide (level_ok (1) (0) k (by omega) (by omega) (by simp [bearB]) (by simp [lastB]; omega))
  have HL2 := hide (level_ok (2) (0) k (by omega) (by omega) (by simp [bearB]) (by simp [lastB]; omega))
  have HL3 := hide (level_ok (1) (1) k (by omega) (by omega) (by simp [bearB]) (by simp [lastB]; omega))
  have HL4 := hide (level_ok (1) (0) (k + 1) (by omega) (by omega) (by simp [bearB]) (by simp [lastB]; omega))
  have HO1 := hide (fun b0 b1 b2 w => off_any (1) (0) n k (by omega) (by omega) (by omega) (by omega) (by omega) n0 n1 b0 b1 b2 w)
  have HO2 : Hid (n ≠ 0 → ∀ b0 b1 b2 w, Box3 w b0 b1 b2 (1) (0) k → _) := hide (fun hn b0 b1 b2 w => off_any (1) (0) (n - 1) k (by omega) (by omega) (by omega) (by omega) (by omega) (by omega) (by omega) b0 b1 b2 w)
  have PM := hide pm
  unfold LevelA at HL1 HL2 HL3 HL4
  rw [en] at HL1
  rw [show lvlR (0) k (2) = a from ea] at HL2
  rw [show lvlR (1) k (1) = b from eb] at HL3
  rw [ec] at HL4
  rw [pn] at HO1
  clear en ea eb ec pn pm
  have HB := hide (((Below.refl w.heap.size w).alloc (Nat.le_refl _) (.cells #[.int .i64 x] 2)).alloc (by simp) (.cells #[.int .i64 r] 2))
  have H0 := hide ((Bx.new w x).alloc (.cells #[.int .i64 r] 2))
  have H1 := hide (Bx.new (w.alloc (.cells #[.int .i64 x] 2)) r)
  rw [show (w.alloc (.cells #[.int .i64 x] 2)).heap.size = w.heap.size + 1 from by simp] at H1
  have HK := hide hk
  clear hk
  go_enter Try.func7, Try.ntmps7
  go_wp2_with fail
  refine (unhide hal _).mono ?_
  rintro e w1 ⟨rfl, hb⟩
  replace H0 := hide ((unhide H0).keep hb)
  replace H1 := hide ((unhide H1).keep hb)
  replace HB := hide ((unhide HB).trans (hb.mono (by simp; omega)))
  clear hb
  have c0 := (unhide H0).c
  have c1 := (unhide H1).c
  have f0 := (unhide H0).fz
  have f1 := (unhide H1).fz
  go_wp2_with fail
  go_region
  replace H1 := hide (show Bx ((w1.setCell ⟨w.heap.size, 0, none⟩ (.int .i64 (1))).setCell ⟨w.heap.size + 1, 0, none⟩ (.int .i64 (0))).drew (w.heap.size + 1) (0) from ((unhide H1).other (by omega) _).set _)
  replace H0 := hide (show Bx ((w1.setCell ⟨w.heap.size, 0, none⟩ (.int .i64 (1))).setCell ⟨w.heap.size + 1, 0, none⟩ (.int .i64 (0))).drew w.heap.size (1) from ((unhide H0).set _).other (by omega) _)
  replace HB := hide ((((unhide HB).setCell (p := ⟨w.heap.size, 0, none⟩) (Nat.le_refl _) (.int .i64 (1))).setCell (p := ⟨w.heap.size + 1, 0, none⟩) (Nat.le_succ _) (.int .i64 (0))).drew)
  clear c0 c1 f0 f1
  generalize ((w1.setCell ⟨w.heap.size, 0, none⟩ (.int .i64 (1))).setCell ⟨w.heap.size + 1, 0, none⟩ (.int .i64 (0))).drew = W at *
  have c0 := (unhide H0).c
  have c1 := (unhide H1).c
  have hk := unhide HK
  have hl0 := (unhide H0).lt
  have hl1 := (unhide H1).lt
  go_wp2_with fail
  have HX : Hid (Box3 (W.alloc (.cells #[.int .i64 k] 3)) w.heap.size (w.heap.size + 1) W.heap.size (1) (0) k) := hide ⟨cell_old c0 _, cell_old c1 _, cell_new W _ _⟩
  replace HB := hide ((unhide HB).alloc (by omega) (.cells #[.int .i64 k] 3))
  clear c0 c1 H0 H1 hk HK hl0 hl1
  generalize W.alloc (.cells #[.int .i64 k] 3) = W2 at *
  generalize W.heap.size = g at *
  rw [show ((k + 1 : Nat) : Int) = (k : Int) + 1 from by omega] at HL4
  refine (unhide HL1 _).mono ?_
  rintro e w2 ⟨rfl, hb⟩
  replace HX := hide ((unhide HX).keep hb)
  replace HB := hide (below_via (unhide HB) hb)
  clear hb HL1
  have c0 := (unhide HX).c0
  have c1 := (unhide HX).c1
  have c2 := (unhide HX).c2
  go_wp2_with fail
  clear c0 c1 c2
  refine (unhide HL2 _).mono ?_
  rintro e w3 ⟨rfl, hb⟩
  replace HX := hide ((unhide HX).keep hb)
  replace HB := hide (below_via (unhide HB) hb)
  clear hb HL2
  have c0 := (unhide HX).c0
  have c1 := (unhide HX).c1
  have c2 := (unhide HX).c2
  go_wp2_with fail
  clear c0 c1 c2
  refine (unhide HL3 _).mono ?_
  rintro e w4 ⟨rfl, hb⟩
  replace HX := hide ((unhide HX).keep hb)
  replace HB := hide (below_via (unhide HB) hb)
  clear hb HL3
  have c0 := (unhide HX).c0
  have c1 := (unhide HX).c1
  have c2 := (unhide HX).c2
  go_wp2_with fail
  clear c0 c1 c2
  refine (unhide HL4 _).mono ?_
  rintro e w5 ⟨rfl, hb⟩
  replace HX := hide ((unhide HX).keep hb)
  replace HB := hide (below_via (unhide HB) hb)
  clear hb HL4
  have c0 := (unhide HX).c0
  have c1 := (unhide HX).c1
  have c2 := (unhide HX).c2
  have t1 : ¬ a < n := by omega
  have t2 : ¬ b < n := by omega
  have t3 : ¬ n < c := by omega
  go_wp2_with fail
  clear c0 c1 c2
  refine (unhide HO1 _ _ _ _ (unhide HX)).mono ?_
  rintro e w6 ⟨rfl, hb⟩
  replace HX := hide ((unhide HX).keep hb)
  replace HB := hide (below_via (unhide HB) hb)
  clear hb HO1
  by_cases hn : n = 0
  · subst hn
    go_wp2_with fail
    go_ret
    exact ⟨rfl, unhide HB⟩
  · have t4 : (n == 0) = false := by rw [beq_eq_false_iff_ne]; exact hn
    have HO3 := hide (unhide HO2 hn)
    rw [unhide PM hn] at HO3
    clear HO2 PM hn
    go_wp2_with fail
    refine (unhide HO3 _ _ _ _ (unhide HX)).mono ?_
    rintro e w7 ⟨rfl, hb⟩
    replace HB := hide (below_via (unhide HB) hb)
    clear hb
    go_wp2_with fail
    go_ret
    exact ⟨rfl, unhide HB⟩
set_option maxHeartbeats 2000000 in
theorem m01 (x r p : Int) (p0 : 0 ≤ p) (p1 : p ≤ 255) (hx : x < 1) (r0 : 0 ≤ r) (r1 : r ≤ 999999999999) (hal : Hid Alive) (w : World) : Calls Try.prog 7 #[.int .i64 x, .int .i64 r, .int .u8 p] w fun e w' => e = .returned (.bool true) ∧ Below w.heap.size w w' := by
  unfold Alive at hal
  obtain ⟨k, hk⟩ : ∃ k : Nat, p % 40 + 1 = (k : Int) := ⟨(p % 40 + 1).toNat, by omega⟩
  have k0 : 0 < k := by omega
  have k1 : k ≤ 40 := by omega
  obtain ⟨n, a, b, c, en, ea, eb, ec, l1, l2, l3, n0, n1, pn, pm⟩ := facts (x := 1) (r := r) (k := k) (by omega) (by omega) (by omega) (by omega) k0
  have HL1 := hide (level_ok (1) (r) k (by omega) (by omega) (by simp [bearB]; omega) (by simp [lastB]; omega))
  have HL2 := hide (level_ok (2) (r) k (by omega) (by omega) (by simp [bearB]; omega) (by simp [lastB]; omega))
  have HL3 := hide (level_ok (1) (r + 1) k (by omega) (by omega) (by simp [bearB]; omega) (by simp [lastB]; omega))
  have HL4 := hide (level_ok (1) (r) (k + 1) (by omega) (by omega) (by simp [bearB]; omega) (by simp [lastB]; omega))
  have HO1 := hide (fun b0 b1 b2 w => off_any (1) (r) n k (by omega) (by omega) (by omega) (by omega) (by omega) n0 n1 b0 b1 b2 w)
  have HO2 : Hid (n ≠ 0 → ∀ b0 b1 b2 w, Box3 w b0 b1 b2 (1) (r) k → _) := hide (fun hn b0 b1 b2 w => off_any (1) (r) (n - 1) k (by omega) (by omega) (by omega) (by omega) (by omega) (by omega) (by omega) b0 b1 b2 w)
  have PM := hide pm
  unfold LevelA at HL1 HL2 HL3 HL4
  rw [en] at HL1
  rw [show lvlR (r) k (2) = a from ea] at HL2
  rw [show lvlR (r + 1) k (1) = b from eb] at HL3
  rw [ec] at HL4
  rw [pn] at HO1
  clear en ea eb ec pn pm
  have hr : ¬ r < 0 := by omega
  have HB := hide (((Below.refl w.heap.size w).alloc (Nat.le_refl _) (.cells #[.int .i64 x] 2)).alloc (by simp) (.cells #[.int .i64 r] 2))
  have H0 := hide ((Bx.new w x).alloc (.cells #[.int .i64 r] 2))
  have H1 := hide (Bx.new (w.alloc (.cells #[.int .i64 x] 2)) r)
  rw [show (w.alloc (.cells #[.int .i64 x] 2)).heap.size = w.heap.size + 1 from by simp] at H1
  have HK := hide hk
  clear hk
  go_enter Try.func7, Try.ntmps7
  go_wp2_with fail
  refine (unhide hal _).mono ?_
  rintro e w1 ⟨rfl, hb⟩
  replace H0 := hide ((unhide H0).keep hb)
  replace H1 := hide ((unhide H1).keep hb)
  replace HB := hide ((unhide HB).trans (hb.mono (by simp; omega)))
  clear hb
  have c0 := (unhide H0).c
  have c1 := (unhide H1).c
  have f0 := (unhide H0).fz
  have f1 := (unhide H1).fz
  go_wp2_with fail
  go_region
  replace H1 := hide (show Bx ((w1.setCell ⟨w.heap.size, 0, none⟩ (.int .i64 (1))).setCell ⟨w.heap.size + 1, 0, none⟩ (.int .i64 (r))).drew (w.heap.size + 1) (r) from ((unhide H1).other (by omega) _).set _)
  replace H0 := hide (show Bx ((w1.setCell ⟨w.heap.size, 0, none⟩ (.int .i64 (1))).setCell ⟨w.heap.size + 1, 0, none⟩ (.int .i64 (r))).drew w.heap.size (1) from ((unhide H0).set _).other (by omega) _)
  replace HB := hide ((((unhide HB).setCell (p := ⟨w.heap.size, 0, none⟩) (Nat.le_refl _) (.int .i64 (1))).setCell (p := ⟨w.heap.size + 1, 0, none⟩) (Nat.le_succ _) (.int .i64 (r))).drew)
  clear c0 c1 f0 f1
  generalize ((w1.setCell ⟨w.heap.size, 0, none⟩ (.int .i64 (1))).setCell ⟨w.heap.size + 1, 0, none⟩ (.int .i64 (r))).drew = W at *
  have c0 := (unhide H0).c
  have c1 := (unhide H1).c
  have hk := unhide HK
  have hl0 := (unhide H0).lt
  have hl1 := (unhide H1).lt
  go_wp2_with fail
  have HX : Hid (Box3 (W.alloc (.cells #[.int .i64 k] 3)) w.heap.size (w.heap.size + 1) W.heap.size (1) (r) k) := hide ⟨cell_old c0 _, cell_old c1 _, cell_new W _ _⟩
  replace HB := hide ((unhide HB).alloc (by omega) (.cells #[.int .i64 k] 3))
  clear c0 c1 H0 H1 hk HK hl0 hl1
  generalize W.alloc (.cells #[.int .i64 k] 3) = W2 at *
  generalize W.heap.size = g at *
  rw [show ((k + 1 : Nat) : Int) = (k : Int) + 1 from by omega] at HL4
  refine (unhide HL1 _).mono ?_
  rintro e w2 ⟨rfl, hb⟩
  replace HX := hide ((unhide HX).keep hb)
  replace HB := hide (below_via (unhide HB) hb)
  clear hb HL1
  have c0 := (unhide HX).c0
  have c1 := (unhide HX).c1
  have c2 := (unhide HX).c2
  go_wp2_with fail
  clear c0 c1 c2
  refine (unhide HL2 _).mono ?_
  rintro e w3 ⟨rfl, hb⟩
  replace HX := hide ((unhide HX).keep hb)
  replace HB := hide (below_via (unhide HB) hb)
  clear hb HL2
  have c0 := (unhide HX).c0
  have c1 := (unhide HX).c1
  have c2 := (unhide HX).c2
  go_wp2_with fail
  clear c0 c1 c2
  refine (unhide HL3 _).mono ?_
  rintro e w4 ⟨rfl, hb⟩
  replace HX := hide ((unhide HX).keep hb)
  replace HB := hide (below_via (unhide HB) hb)
  clear hb HL3
  have c0 := (unhide HX).c0
  have c1 := (unhide HX).c1
  have c2 := (unhide HX).c2
  go_wp2_with fail
  clear c0 c1 c2
  refine (unhide HL4 _).mono ?_
  rintro e w5 ⟨rfl, hb⟩
  replace HX := hide ((unhide HX).keep hb)
  replace HB := hide (below_via (unhide HB) hb)
  clear hb HL4
  have c0 := (unhide HX).c0
  have c1 := (unhide HX).c1
  have c2 := (unhide HX).c2
  have t1 : ¬ a < n := by omega
  have t2 : ¬ b < n := by omega
  have t3 : ¬ n < c := by omega
  go_wp2_with fail
  clear c0 c1 c2
  refine (unhide HO1 _ _ _ _ (unhide HX)).mono ?_
  rintro e w6 ⟨rfl, hb⟩
  replace HX := hide ((unhide HX).keep hb)
  replace HB := hide (below_via (unhide HB) hb)
  clear hb HO1
  by_cases hn : n = 0
  · subst hn
    go_wp2_with fail
    go_ret
    exact ⟨rfl, unhide HB⟩
  · have t4 : (n == 0) = false := by rw [beq_eq_false_iff_ne]; exact hn
    have HO3 := hide (unhide HO2 hn)
    rw [unhide PM hn] at HO3
    clear HO2 PM hn
    go_wp2_with fail
    refine (unhide HO3 _ _ _ _ (unhide HX)).mono ?_
    rintro e w7 ⟨rfl, hb⟩
    replace HB := hide (below_via (unhide HB) hb)
    clear hb
    go_wp2_with fail
    go_ret
    exact ⟨rfl, unhide HB⟩
set_option maxHeartbeats 2000000 in
theorem m02 (x r p : Int) (p0 : 0 ≤ p) (p1 : p ≤ 255) (hx : x < 1) (r1 : 999999999999 < r) (hal : Hid Alive) (w : World) : Calls Try.prog 7 #[.int .i64 x, .int .i64 r, .int .u8 p] w fun e w' => e = .returned (.bool true) ∧ Below w.heap.size w w' := by
  unfold Alive at hal
  obtain ⟨k, hk⟩ : ∃ k : Nat, p % 40 + 1 = (k : Int) := ⟨(p % 40 + 1).toNat, by omega⟩
  have k0 : 0 < k := by omega
  have k1 : k ≤ 40 := by omega
  obtain ⟨n, a, b, c, en, ea, eb, ec, l1, l2, l3, n0, n1, pn, pm⟩ := facts (x := 1) (r := 999999999999) (k := k) (by omega) (by omega) (by omega) (by omega) k0
  have HL1 := hide (level_ok (1) (999999999999) k (by omega) (by omega) (by simp [bearB]) (by simp [lastB]; omega))
  have HL2 := hide (level_ok (2) (999999999999) k (by omega) (by omega) (by simp [bearB]) (by simp [lastB]; omega))
  have HL3 := hide (level_ok (1) (1000000000000) k (by omega) (by omega) (by simp [bearB]) (by simp [lastB]; omega))
  have HL4 := hide (level_ok (1) (999999999999) (k + 1) (by omega) (by omega) (by simp [bearB]) (by simp [lastB]; omega))
  have HO1 := hide (fun b0 b1 b2 w => off_any (1) (999999999999) n k (by omega) (by omega) (by omega) (by omega) (by omega) n0 n1 b0 b1 b2 w)
  have HO2 : Hid (n ≠ 0 → ∀ b0 b1 b2 w, Box3 w b0 b1 b2 (1) (999999999999) k → _) := hide (fun hn b0 b1 b2 w => off_any (1) (999999999999) (n - 1) k (by omega) (by omega) (by omega) (by omega) (by omega) (by omega) (by omega) b0 b1 b2 w)
  have PM := hide pm
  unfold LevelA at HL1 HL2 HL3 HL4
  rw [en] at HL1
  rw [show lvlR (999999999999) k (2) = a from ea] at HL2
  rw [show lvlR (1000000000000) k (1) = b from eb] at HL3
  rw [ec] at HL4
  rw [pn] at HO1
  clear en ea eb ec pn pm
  have hr : ¬ r < 0 := by omega
  have HB := hide (((Below.refl w.heap.size w).alloc (Nat.le_refl _) (.cells #[.int .i64 x] 2)).alloc (by simp) (.cells #[.int .i64 r] 2))
  have H0 := hide ((Bx.new w x).alloc (.cells #[.int .i64 r] 2))
  have H1 := hide (Bx.new (w.alloc (.cells #[.int .i64 x] 2)) r)
  rw [show (w.alloc (.cells #[.int .i64 x] 2)).heap.size = w.heap.size + 1 from by simp] at H1
  have HK := hide hk
  clear hk
  go_enter Try.func7, Try.ntmps7
  go_wp2_with fail
  refine (unhide hal _).mono ?_
  rintro e w1 ⟨rfl, hb⟩
  replace H0 := hide ((unhide H0).keep hb)
  replace H1 := hide ((unhide H1).keep hb)
  replace HB := hide ((unhide HB).trans (hb.mono (by simp; omega)))
  clear hb
  have c0 := (unhide H0).c
  have c1 := (unhide H1).c
  have f0 := (unhide H0).fz
  have f1 := (unhide H1).fz
  go_wp2_with fail
  go_region
  replace H1 := hide (show Bx ((w1.setCell ⟨w.heap.size, 0, none⟩ (.int .i64 (1))).setCell ⟨w.heap.size + 1, 0, none⟩ (.int .i64 (999999999999))).drew (w.heap.size + 1) (999999999999) from ((unhide H1).other (by omega) _).set _)
  replace H0 := hide (show Bx ((w1.setCell ⟨w.heap.size, 0, none⟩ (.int .i64 (1))).setCell ⟨w.heap.size + 1, 0, none⟩ (.int .i64 (999999999999))).drew w.heap.size (1) from ((unhide H0).set _).other (by omega) _)
  replace HB := hide ((((unhide HB).setCell (p := ⟨w.heap.size, 0, none⟩) (Nat.le_refl _) (.int .i64 (1))).setCell (p := ⟨w.heap.size + 1, 0, none⟩) (Nat.le_succ _) (.int .i64 (999999999999))).drew)
  clear c0 c1 f0 f1
  generalize ((w1.setCell ⟨w.heap.size, 0, none⟩ (.int .i64 (1))).setCell ⟨w.heap.size + 1, 0, none⟩ (.int .i64 (999999999999))).drew = W at *
  have c0 := (unhide H0).c
  have c1 := (unhide H1).c
  have hk := unhide HK
  have hl0 := (unhide H0).lt
  have hl1 := (unhide H1).lt
  go_wp2_with fail
  have HX : Hid (Box3 (W.alloc (.cells #[.int .i64 k] 3)) w.heap.size (w.heap.size + 1) W.heap.size (1) (999999999999) k) := hide ⟨cell_old c0 _, cell_old c1 _, cell_new W _ _⟩
  replace HB := hide ((unhide HB).alloc (by omega) (.cells #[.int .i64 k] 3))
  clear c0 c1 H0 H1 hk HK hl0 hl1
  generalize W.alloc (.cells #[.int .i64 k] 3) = W2 at *
  generalize W.heap.size = g at *
  rw [show ((k + 1 : Nat) : Int) = (k : Int) + 1 from by omega] at HL4
  refine (unhide HL1 _).mono ?_
  rintro e w2 ⟨rfl, hb⟩
  replace HX := hide ((unhide HX).keep hb)
  replace HB := hide (below_via (unhide HB) hb)
  clear hb HL1
  have c0 := (unhide HX).c0
  have c1 := (unhide HX).c1
  have c2 := (unhide HX).c2
  go_wp2_with fail
  clear c0 c1 c2
  refine (unhide HL2 _).mono ?_
  rintro e w3 ⟨rfl, hb⟩
  replace HX := hide ((unhide HX).keep hb)
  replace HB := hide (below_via (unhide HB) hb)
  clear hb HL2
  have c0 := (unhide HX).c0
  have c1 := (unhide HX).c1
  have c2 := (unhide HX).c2
  go_wp2_with fail
  clear c0 c1 c2
  refine (unhide HL3 _).mono ?_
  rintro e w4 ⟨rfl, hb⟩
  replace HX := hide ((unhide HX).keep hb)
  replace HB := hide (below_via (unhide HB) hb)
  clear hb HL3
  have c0 := (unhide HX).c0
  have c1 := (unhide HX).c1
  have c2 := (unhide HX).c2
  go_wp2_with fail
  clear c0 c1 c2
  refine (unhide HL4 _).mono ?_
  rintro e w5 ⟨rfl, hb⟩
  replace HX := hide ((unhide HX).keep hb)
  replace HB := hide (below_via (unhide HB) hb)
  clear hb HL4
  have c0 := (unhide HX).c0
  have c1 := (unhide HX).c1
  have c2 := (unhide HX).c2
  have t1 : ¬ a < n := by omega
  have t2 : ¬ b < n := by omega
  have t3 : ¬ n < c := by omega
  go_wp2_with fail
  clear c0 c1 c2
  refine (unhide HO1 _ _ _ _ (unhide HX)).mono ?_
  rintro e w6 ⟨rfl, hb⟩
  replace HX := hide ((unhide HX).keep hb)
  replace HB := hide (below_via (unhide HB) hb)
  clear hb HO1
  by_cases hn : n = 0
  · subst hn
    go_wp2_with fail
    go_ret
    exact ⟨rfl, unhide HB⟩
  · have t4 : (n == 0) = false := by rw [beq_eq_false_iff_ne]; exact hn
    have HO3 := hide (unhide HO2 hn)
    rw [unhide PM hn] at HO3
    clear HO2 PM hn
    go_wp2_with fail
    refine (unhide HO3 _ _ _ _ (unhide HX)).mono ?_
    rintro e w7 ⟨rfl, hb⟩
    replace HB := hide (below_via (unhide HB) hb)
    clear hb
    go_wp2_with fail
    go_ret
    exact ⟨rfl, unhide HB⟩
end Go.Proofs.Ytgnhnffmojjncaa.Mn.schedLeast
