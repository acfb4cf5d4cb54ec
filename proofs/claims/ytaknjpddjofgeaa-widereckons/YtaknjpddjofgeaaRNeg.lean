/- The reference's Neg. -/
import Derived.Test.YtaknjpddjofgeaaRMul
namespace Go.Proofs.Ytaknjpddjofgeaa
open Go.RowKit
set_option linter.unusedSimpArgs false
def RNegs (X p q e : Int) : Prop := ∀ w : World, Calls Try.prog 13 #[.agg #[.int .i64 (hi X), .int .u64 (lo X)]] w fun z w' => z = .returned (.tuple #[.agg #[.int .i64 p, .int .u64 q], .int .i64 e]) ∧ Below w.heap.size w w'
set_option maxRecDepth 20000 in
set_option maxHeartbeats 8000000 in
theorem rneg_nt (X p q : Int) (z : Bool) (hA : Hid (∀ w, Calls Try.prog 28 #[.agg #[.int .i64 (hi X), .int .u64 (lo X)]] w fun e w' => (∃ f, (Bit f ∧ BackP false f p q true ∧ (ord (val f 260) 0 == 0) = z) ∧ e = .returned (.agg (gv true f))) ∧ Below w.heap.size w w')) : RNegs X p q 0 := by
  intro w
  have hz := zero56
  have A1 := (R28.new w (hi X) (lo X)).alloc (.cells #[.int .i64 0, .int .u64 0] 28)
  have A2 := R28.new (w.alloc (.cells #[.int .i64 (hi X), .int .u64 (lo X)] 28)) 0 0
  rw [show (w.alloc (.cells #[.int .i64 (hi X), .int .u64 (lo X)] 28)).heap.size = w.heap.size + 1 by simp] at A2
  have B := hide (((Below.refl w.heap.size w).alloc (Nat.le_refl _) (.cells #[.int .i64 (hi X), .int .u64 (lo X)] 28)).alloc (by simp) (.cells #[.int .i64 0, .int .u64 0] 28))
  have a0 := A1.c0
  have a1 := A1.c1
  replace A1 := hide A1
  replace A2 := hide A2
  go_enter Try.func13, Try.ntmps13
  go_wp2_with fail
  clear a0 a1 A1
  refine (unhide hA _).mono ?_
  rintro e w1 ⟨⟨f, ⟨hf, hB, hn⟩, rfl⟩, hb1⟩
  replace A2 := hide ((unhide A2).keep hb1 (unhide A2).lt)
  replace B := hide (below_via (unhide B) hb1)
  replace hf := hide hf
  replace hB := hide hB
  have hN := hide (none_any true f (unhide hf))
  rw [hn] at hN
  clear hb1 hA hn
  have l2 : w.heap.size + 1 < w1.heap.size := (unhide A2).lt
  obtain ⟨W3, s3, gb, bb, _⟩ := g_start w1 true f
  replace A2 := hide ((unhide A2).keep bb (unhide A2).lt)
  replace B := hide (below_via (unhide B) bb)
  have cl := gb.less
  have fl := gb.frozen 0
  replace gb := hide gb
  clear bb
  go_wp2_with fail
  clear cl fl hz hN
  have gs := hide ((unhide gb).sign false)
  have As := (unhide A2).other (a := ⟨w1.heap.size, 0, none⟩) (by show w.heap.size + 1 ≠ w1.heap.size; omega) (.bool false)
  have Bs := hide ((unhide B).setCell (p := ⟨w1.heap.size, 0, none⟩) (by show w.heap.size ≤ w1.heap.size; omega) (.bool false))
  generalize W3.setCell ⟨w1.heap.size, 0, none⟩ (.bool false) = W4 at gs As Bs ⊢
  clear gb A2 B
  replace As := hide As
  refine wp_load56 (unhide gs) rfl rfl ?_
  go_wp2_with fail
  refine (unhide hB _).mono ?_
  rintro e w5 ⟨rfl, hb5⟩
  replace As := (unhide As).keep hb5 (unhide As).lt
  replace Bs := hide (below_via (unhide Bs) hb5)
  clear hb5 gs hB
  have rn := As.alloc (.cells #[.int .i64 p, .int .u64 q] 28)
  have x0 := rn.c0
  have x1 := rn.c1
  have f0 := rn.fr 0
  have f1 := rn.fr 1
  have R := hide ((rn.s0 p).s1 q)
  have BB := hide (((below_via (unhide Bs) ((Below.refl w5.heap.size w5).alloc (Nat.le_refl _) (.cells #[.int .i64 p, .int .u64 q] 28))).setCell (p := ⟨w.heap.size + 1, 0, none⟩) (by show w.heap.size ≤ w.heap.size + 1; omega) (.int .i64 p)).setCell (p := ⟨w.heap.size + 1, 1, none⟩) (by show w.heap.size ≤ w.heap.size + 1; omega) (.int .u64 q))
  replace rn := hide rn
  replace As := hide As
  go_wp2_with (rw [build28])
  exact bodyPost_ret (results28 rfl _ rfl rfl (unhide R)) rfl ⟨rfl, unhide BB⟩
set_option maxRecDepth 20000 in
set_option maxHeartbeats 8000000 in
theorem rneg_nf (X p q : Int) (z : Bool) (hA : Hid (∀ w, Calls Try.prog 28 #[.agg #[.int .i64 (hi X), .int .u64 (lo X)]] w fun e w' => (∃ f, (Bit f ∧ BackP false f p q false ∧ (ord (val f 260) 0 == 0) = z) ∧ e = .returned (.agg (gv true f))) ∧ Below w.heap.size w w')) : RNegs X 0 0 3 := by
  intro w
  have hz := zero56
  have A1 := (R28.new w (hi X) (lo X)).alloc (.cells #[.int .i64 0, .int .u64 0] 28)
  have A2 := R28.new (w.alloc (.cells #[.int .i64 (hi X), .int .u64 (lo X)] 28)) 0 0
  rw [show (w.alloc (.cells #[.int .i64 (hi X), .int .u64 (lo X)] 28)).heap.size = w.heap.size + 1 by simp] at A2
  have B := hide (((Below.refl w.heap.size w).alloc (Nat.le_refl _) (.cells #[.int .i64 (hi X), .int .u64 (lo X)] 28)).alloc (by simp) (.cells #[.int .i64 0, .int .u64 0] 28))
  have a0 := A1.c0
  have a1 := A1.c1
  replace A1 := hide A1
  replace A2 := hide A2
  go_enter Try.func13, Try.ntmps13
  go_wp2_with fail
  clear a0 a1 A1
  refine (unhide hA _).mono ?_
  rintro e w1 ⟨⟨f, ⟨hf, hB, hn⟩, rfl⟩, hb1⟩
  replace A2 := hide ((unhide A2).keep hb1 (unhide A2).lt)
  replace B := hide (below_via (unhide B) hb1)
  replace hf := hide hf
  replace hB := hide hB
  have hN := hide (none_any true f (unhide hf))
  rw [hn] at hN
  clear hb1 hA hn
  have l2 : w.heap.size + 1 < w1.heap.size := (unhide A2).lt
  obtain ⟨W3, s3, gb, bb, _⟩ := g_start w1 true f
  replace A2 := hide ((unhide A2).keep bb (unhide A2).lt)
  replace B := hide (below_via (unhide B) bb)
  have cl := gb.less
  have fl := gb.frozen 0
  replace gb := hide gb
  clear bb
  go_wp2_with fail
  clear cl fl hz hN
  have gs := hide ((unhide gb).sign false)
  have As := (unhide A2).other (a := ⟨w1.heap.size, 0, none⟩) (by show w.heap.size + 1 ≠ w1.heap.size; omega) (.bool false)
  have Bs := hide ((unhide B).setCell (p := ⟨w1.heap.size, 0, none⟩) (by show w.heap.size ≤ w1.heap.size; omega) (.bool false))
  generalize W3.setCell ⟨w1.heap.size, 0, none⟩ (.bool false) = W4 at gs As Bs ⊢
  clear gb A2 B
  replace As := hide As
  refine wp_load56 (unhide gs) rfl rfl ?_
  go_wp2_with fail
  refine (unhide hB _).mono ?_
  rintro e w5 ⟨rfl, hb5⟩
  replace As := (unhide As).keep hb5 (unhide As).lt
  replace Bs := hide (below_via (unhide Bs) hb5)
  clear hb5 gs hB
  have rn := As.alloc (.cells #[.int .i64 p, .int .u64 q] 28)
  have x0 := rn.c0
  have x1 := rn.c1
  have f0 := rn.fr 0
  have f1 := rn.fr 1
  have R := hide ((rn.s0 0).s1 0)
  have BB := hide (((below_via (unhide Bs) ((Below.refl w5.heap.size w5).alloc (Nat.le_refl _) (.cells #[.int .i64 p, .int .u64 q] 28))).setCell (p := ⟨w.heap.size + 1, 0, none⟩) (by show w.heap.size ≤ w.heap.size + 1; omega) (.int .i64 0)).setCell (p := ⟨w.heap.size + 1, 1, none⟩) (by show w.heap.size ≤ w.heap.size + 1; omega) (.int .u64 0))
  replace rn := hide rn
  replace As := hide As
  go_wp2_with (rw [build28])
  exact bodyPost_ret (results28 rfl _ rfl rfl (unhide R)) rfl ⟨rfl, unhide BB⟩
set_option maxRecDepth 20000 in
set_option maxHeartbeats 8000000 in
theorem rneg_p0 (X p q : Int)  (hA : Hid (∀ w, Calls Try.prog 28 #[.agg #[.int .i64 (hi X), .int .u64 (lo X)]] w fun e w' => (∃ f, (Bit f ∧ BackP false f p q true ∧ (ord (val f 260) 0 == 0) = true) ∧ e = .returned (.agg (gv false f))) ∧ Below w.heap.size w w')) : RNegs X p q 0 := by
  intro w
  have hz := zero56
  have A1 := (R28.new w (hi X) (lo X)).alloc (.cells #[.int .i64 0, .int .u64 0] 28)
  have A2 := R28.new (w.alloc (.cells #[.int .i64 (hi X), .int .u64 (lo X)] 28)) 0 0
  rw [show (w.alloc (.cells #[.int .i64 (hi X), .int .u64 (lo X)] 28)).heap.size = w.heap.size + 1 by simp] at A2
  have B := hide (((Below.refl w.heap.size w).alloc (Nat.le_refl _) (.cells #[.int .i64 (hi X), .int .u64 (lo X)] 28)).alloc (by simp) (.cells #[.int .i64 0, .int .u64 0] 28))
  have a0 := A1.c0
  have a1 := A1.c1
  replace A1 := hide A1
  replace A2 := hide A2
  go_enter Try.func13, Try.ntmps13
  go_wp2_with fail
  clear a0 a1 A1
  refine (unhide hA _).mono ?_
  rintro e w1 ⟨⟨f, ⟨hf, hB, hn⟩, rfl⟩, hb1⟩
  replace A2 := hide ((unhide A2).keep hb1 (unhide A2).lt)
  replace B := hide (below_via (unhide B) hb1)
  replace hf := hide hf
  replace hB := hide hB
  have hN := hide (none_any false f (unhide hf))
  rw [hn] at hN
  clear hb1 hA hn
  have l2 : w.heap.size + 1 < w1.heap.size := (unhide A2).lt
  obtain ⟨W3, s3, gb, bb, _⟩ := g_start w1 false f
  replace A2 := hide ((unhide A2).keep bb (unhide A2).lt)
  replace B := hide (below_via (unhide B) bb)
  have cl := gb.less
  have fl := gb.frozen 0
  replace gb := hide gb
  clear bb
  go_wp2_with fail
  refine wp_load56 (unhide gb) rfl rfl ?_
  go_wp2_with fail
  refine (unhide hN _).mono ?_
  rintro e wn ⟨rfl, hbn⟩
  replace A2 := hide ((unhide A2).keep hbn (unhide A2).lt)
  replace B := hide (below_via (unhide B) hbn)
  replace gb := (unhide gb).keep hbn (unhide gb).lt
  clear cl fl
  have cl := gb.less
  have fl := gb.frozen 0
  replace gb := hide gb
  clear hbn
  go_wp2_with fail
  clear cl fl hz hN
  have gs := hide ((unhide gb).sign false)
  have As := (unhide A2).other (a := ⟨w1.heap.size, 0, none⟩) (by show w.heap.size + 1 ≠ w1.heap.size; omega) (.bool false)
  have Bs := hide ((unhide B).setCell (p := ⟨w1.heap.size, 0, none⟩) (by show w.heap.size ≤ w1.heap.size; omega) (.bool false))
  generalize wn.setCell ⟨w1.heap.size, 0, none⟩ (.bool false) = W4 at gs As Bs ⊢
  clear gb A2 B
  replace As := hide As
  refine wp_load56 (unhide gs) rfl rfl ?_
  go_wp2_with fail
  refine (unhide hB _).mono ?_
  rintro e w5 ⟨rfl, hb5⟩
  replace As := (unhide As).keep hb5 (unhide As).lt
  replace Bs := hide (below_via (unhide Bs) hb5)
  clear hb5 gs hB
  have rn := As.alloc (.cells #[.int .i64 p, .int .u64 q] 28)
  have x0 := rn.c0
  have x1 := rn.c1
  have f0 := rn.fr 0
  have f1 := rn.fr 1
  have R := hide ((rn.s0 p).s1 q)
  have BB := hide (((below_via (unhide Bs) ((Below.refl w5.heap.size w5).alloc (Nat.le_refl _) (.cells #[.int .i64 p, .int .u64 q] 28))).setCell (p := ⟨w.heap.size + 1, 0, none⟩) (by show w.heap.size ≤ w.heap.size + 1; omega) (.int .i64 p)).setCell (p := ⟨w.heap.size + 1, 1, none⟩) (by show w.heap.size ≤ w.heap.size + 1; omega) (.int .u64 q))
  replace rn := hide rn
  replace As := hide As
  go_wp2_with (rw [build28])
  exact bodyPost_ret (results28 rfl _ rfl rfl (unhide R)) rfl ⟨rfl, unhide BB⟩
set_option maxRecDepth 20000 in
set_option maxHeartbeats 8000000 in
theorem rneg_p1 (X p q : Int)  (hA : Hid (∀ w, Calls Try.prog 28 #[.agg #[.int .i64 (hi X), .int .u64 (lo X)]] w fun e w' => (∃ f, (Bit f ∧ BackP true f p q true ∧ (ord (val f 260) 0 == 0) = false) ∧ e = .returned (.agg (gv false f))) ∧ Below w.heap.size w w')) : RNegs X p q 0 := by
  intro w
  have hz := zero56
  have A1 := (R28.new w (hi X) (lo X)).alloc (.cells #[.int .i64 0, .int .u64 0] 28)
  have A2 := R28.new (w.alloc (.cells #[.int .i64 (hi X), .int .u64 (lo X)] 28)) 0 0
  rw [show (w.alloc (.cells #[.int .i64 (hi X), .int .u64 (lo X)] 28)).heap.size = w.heap.size + 1 by simp] at A2
  have B := hide (((Below.refl w.heap.size w).alloc (Nat.le_refl _) (.cells #[.int .i64 (hi X), .int .u64 (lo X)] 28)).alloc (by simp) (.cells #[.int .i64 0, .int .u64 0] 28))
  have a0 := A1.c0
  have a1 := A1.c1
  replace A1 := hide A1
  replace A2 := hide A2
  go_enter Try.func13, Try.ntmps13
  go_wp2_with fail
  clear a0 a1 A1
  refine (unhide hA _).mono ?_
  rintro e w1 ⟨⟨f, ⟨hf, hB, hn⟩, rfl⟩, hb1⟩
  replace A2 := hide ((unhide A2).keep hb1 (unhide A2).lt)
  replace B := hide (below_via (unhide B) hb1)
  replace hf := hide hf
  replace hB := hide hB
  have hN := hide (none_any false f (unhide hf))
  rw [hn] at hN
  clear hb1 hA hn
  have l2 : w.heap.size + 1 < w1.heap.size := (unhide A2).lt
  obtain ⟨W3, s3, gb, bb, _⟩ := g_start w1 false f
  replace A2 := hide ((unhide A2).keep bb (unhide A2).lt)
  replace B := hide (below_via (unhide B) bb)
  have cl := gb.less
  have fl := gb.frozen 0
  replace gb := hide gb
  clear bb
  go_wp2_with fail
  refine wp_load56 (unhide gb) rfl rfl ?_
  go_wp2_with fail
  refine (unhide hN _).mono ?_
  rintro e wn ⟨rfl, hbn⟩
  replace A2 := hide ((unhide A2).keep hbn (unhide A2).lt)
  replace B := hide (below_via (unhide B) hbn)
  replace gb := (unhide gb).keep hbn (unhide gb).lt
  clear cl fl
  have cl := gb.less
  have fl := gb.frozen 0
  replace gb := hide gb
  clear hbn
  go_wp2_with fail
  clear cl fl hz hN
  have gs := hide ((unhide gb).sign true)
  have As := (unhide A2).other (a := ⟨w1.heap.size, 0, none⟩) (by show w.heap.size + 1 ≠ w1.heap.size; omega) (.bool true)
  have Bs := hide ((unhide B).setCell (p := ⟨w1.heap.size, 0, none⟩) (by show w.heap.size ≤ w1.heap.size; omega) (.bool true))
  generalize wn.setCell ⟨w1.heap.size, 0, none⟩ (.bool true) = W4 at gs As Bs ⊢
  clear gb A2 B
  replace As := hide As
  refine wp_load56 (unhide gs) rfl rfl ?_
  go_wp2_with fail
  refine (unhide hB _).mono ?_
  rintro e w5 ⟨rfl, hb5⟩
  replace As := (unhide As).keep hb5 (unhide As).lt
  replace Bs := hide (below_via (unhide Bs) hb5)
  clear hb5 gs hB
  have rn := As.alloc (.cells #[.int .i64 p, .int .u64 q] 28)
  have x0 := rn.c0
  have x1 := rn.c1
  have f0 := rn.fr 0
  have f1 := rn.fr 1
  have R := hide ((rn.s0 p).s1 q)
  have BB := hide (((below_via (unhide Bs) ((Below.refl w5.heap.size w5).alloc (Nat.le_refl _) (.cells #[.int .i64 p, .int .u64 q] 28))).setCell (p := ⟨w.heap.size + 1, 0, none⟩) (by show w.heap.size ≤ w.heap.size + 1; omega) (.int .i64 p)).setCell (p := ⟨w.heap.size + 1, 1, none⟩) (by show w.heap.size ≤ w.heap.size + 1; omega) (.int .u64 q))
  replace rn := hide rn
  replace As := hide As
  go_wp2_with (rw [build28])
  exact bodyPost_ret (results28 rfl _ rfl rfl (unhide R)) rfl ⟨rfl, unhide BB⟩
end Go.Proofs.Ytaknjpddjofgeaa
