/- The reference's Add, of any Ints. -/
import Derived.Test.YtaknjpddjofgeaaRAdd
namespace Go.Proofs.Ytaknjpddjofgeaa
open Go.RowKit
set_option linter.unusedSimpArgs false
set_option maxRecDepth 20000 in
set_option maxHeartbeats 20000000 in
theorem radd_f (X Y p q : Int) (hX : In128 X) (hY : In128 Y) (hB : Hid (∀ k h, sgn k (val h 260) = X + Y → Bit h → BackP k h p q false)) : RAdds X Y 0 0 3 := by
  intro w
  have HC := hide (AS.start w X Y)
  go_enter Try.func11, Try.ntmps11
  go_wp2_with fail
  generalize ((w.alloc (.cells #[.int .i64 (hi X), .int .u64 (lo X)] 28)).alloc (.cells #[.int .i64 (hi Y), .int .u64 (lo Y)] 28)).alloc (.cells #[.int .i64 0, .int .u64 0] 28) = W4 at HC ⊢
  refine wp_region_held_drew (S := fun W => AS w W X Y) (by kernel_rfl) ((unhide HC).keep (below_drew (Below.refl _ _))) (fun hS => ?_)
  clear HC
  generalize W4.drew = W5 at hS ⊢
  refine wpAnyH_take (i := 0) (v := .agg #[.int .i64 (hi X), .int .u64 (lo X)]) rfl (by kernel_rfl) (by kernel_rfl) (by kernel_rfl) (fun _ _ _ h => h) (Or.inl ⟨by rfl, fun W hS => by have c0 := hS.ra.c0; have c1 := hS.ra.c1; go_simp⟩) hS ?_
  refine wpAnyH_take (i := 2) (v := .agg #[.int .i64 (hi Y), .int .u64 (lo Y)]) rfl (by kernel_rfl) (by kernel_rfl) (by kernel_rfl) (fun _ _ _ h => h) (Or.inl ⟨by rfl, fun W hS => by have c0 := hS.rb.c0; have c1 := hS.rb.c1; go_simp⟩) hS ?_
  refine wpAnyH_all (rs := [1, 9]) (by kernel_rfl) (by simp) (AllReadyH.cons (i := 1) rfl (fun K hK => ?_) (AllReadyH.cons (i := 9) rfl (fun K hK => ?_) AllReadyH.nil))
  · rw [if_pos (by rfl)]
    replace hS := hide hS
    go_wp2_with fail
    refine (big_any X hX _).mono ?_
    rintro e wA ⟨⟨l, f, hF, rfl⟩, hbA⟩
    have hSA := hide ((unhide hS).keep hbA)
    replace hF := hide hF
    clear hbA hS
    go_wp2_with fail
    refine hK.out _ _ (unhide hSA) (fun hS => ?_)
    clear hK hSA
    refine wpAnyH_all (rs := [3, 9]) (by kernel_rfl) (by simp) (AllReadyH.cons (i := 3) rfl (fun K hK => ?_) (AllReadyH.cons (i := 9) rfl (fun K hK => ?_) AllReadyH.nil))
    · rw [if_pos (by rfl)]
      replace hS := hide hS
      go_wp2_with fail
      refine (big_any Y hY _).mono ?_
      rintro e wB ⟨⟨m, g, hG, rfl⟩, hbA⟩
      have hSA := hide ((unhide hS).keep hbA)
      replace hG := hide hG
      clear hbA hS
      go_wp2_with fail
      refine hK.out _ _ (unhide hSA) (fun hS => ?_)
      clear hK hSA
      refine wpAnyH_all (rs := [4, 9]) (by kernel_rfl) (by simp) (AllReadyH.cons (i := 4) rfl (fun K hK => ?_) (AllReadyH.cons (i := 9) rfl (fun K hK => ?_) AllReadyH.nil))
      · rw [if_pos (by rfl)]
        replace hS := hide hS
        go_wp2_with fail
        refine (sum_any l f m g (unhide hF).1 (unhide hG).1 (two_small hX hY (unhide hF) (unhide hG)) _).mono ?_
        rintro e wC ⟨⟨k, h, hH, rfl⟩, hbA⟩
        have hSA := hide ((unhide hS).keep hbA)
        have hBk := hide (unhide hB k h (by rw [hH.2.1, (big_sgn (unhide hF)).1, (big_sgn (unhide hG)).1]) hH.1)
        clear hH
        clear hbA hS
        go_wp2_with fail
        refine hK.out _ _ (unhide hSA) (fun hS => ?_)
        clear hK hSA
        refine wpAnyH_all (rs := [5, 9]) (by kernel_rfl) (by simp) (AllReadyH.cons (i := 5) rfl (fun K hK => ?_) (AllReadyH.cons (i := 9) rfl (fun K hK => ?_) AllReadyH.nil))
        · rw [if_pos (by rfl)]
          replace hS := hide hS
          go_wp2_with fail
          refine (unhide hBk _).mono ?_
          rintro e wD ⟨rfl, hbA⟩
          have hSA := hide ((unhide hS).keep hbA)
          clear hbA hS
          go_wp2_with fail
          refine hK.out _ _ (unhide hSA) (fun hS => ?_)
          clear hK hSA
          refine wpAnyH_take (i := 6) (v := .tuple #[.agg #[.int .i64 p, .int .u64 q], .bool false]) rfl (by kernel_rfl) (by kernel_rfl) (by kernel_rfl) (fun _ _ _ h => h) (Or.inl ⟨by rfl, fun W _ => by go_simp⟩) hS ?_
          refine wpAnyH_take (i := 7) (v := .agg #[.int .i64 p, .int .u64 q]) rfl (by kernel_rfl) (by kernel_rfl) (by kernel_rfl) (fun _ _ _ h => h) (Or.inl ⟨by rfl, fun W _ => by go_simp⟩) hS ?_
          refine wpAnyH_take (i := 8) (v := .bool false) rfl (by kernel_rfl) (by kernel_rfl) (by kernel_rfl) (fun _ _ _ h => h) (Or.inl ⟨by rfl, fun W _ => by go_simp⟩) hS ?_
          refine wpAnyH_all (rs := [9]) (by kernel_rfl) (by simp) (AllReadyH.cons (i := 9) rfl (fun K hK => ?_) AllReadyH.nil)
          rw [if_pos (by rfl)]
          have hR := hide (R28.new wD 0 0)
          have lo1 : w.heap.size + 1 + 1 < wD.heap.size := hS.ro.lt
          have hSA := hide (hS.keep ((Below.refl _ _).alloc (Nat.le_refl _) (.cells #[.int .i64 0, .int .u64 0] 28)))
          clear hS
          go_wp2_with fail
          refine hK.out _ _ (unhide hSA) (fun hS => ?_)
          clear hK hSA
          generalize wD.alloc (.cells #[.int .i64 0, .int .u64 0] 28) = WN at hR hS ⊢
          obtain ⟨o, ho⟩ : ∃ o, o = wD.heap.size := ⟨_, rfl⟩
          rw [← ho] at hR lo1 ⊢
          clear ho
          refine wpAnyH_all (rs := [10]) (by kernel_rfl) (by simp) (AllReadyH.cons (i := 10) rfl (fun K hK => ?_) AllReadyH.nil)
          rw [if_pos (by rfl)]
          have x0 := (unhide hR).c0
          have x1 := (unhide hR).c1
          have f0 := (unhide hR).fr 0
          have f1 := (unhide hR).fr 1
          replace hR := hide (((unhide hR).s0 p).s1 q)
          have hSA := hide ((hS.set (a := ⟨o, 0, none⟩) lo1 (.int .i64 p)).set (a := ⟨o, 1, none⟩) lo1 (.int .u64 q))
          clear hS
          go_wp2_with fail
          clear x0 x1 f0 f1
          refine hK.out _ _ (unhide hSA) (fun hS => ?_)
          clear hK hSA
          generalize (WN.setCell ⟨o, 0, none⟩ (.int .i64 p)).setCell ⟨o, 1, none⟩ (.int .u64 q) = WZ at hR hS ⊢
          refine wpAnyH_all (rs := [11]) (by kernel_rfl) (by simp) (AllReadyH.cons (i := 11) rfl (fun K hK => ?_) AllReadyH.nil)
          rw [if_pos (by rfl)]
          have hSA := hide hS
          clear hS
          go_wp2_with fail
          refine hK.out _ _ (unhide hSA) (fun hS => ?_)
          clear hK hSA
          refine wpAnyH_done (by kernel_rfl) ?_ _
          have x0 := (unhide hR).c0
          have x1 := (unhide hR).c1
          have y0 := hS.ro.c0
          have y1 := hS.ro.c1
          have f0 := hS.ro.fr 0
          have f1 := hS.ro.fr 1
          have R := hide ((hS.ro.s0 0).s1 0)
          have BB := hide ((hS.below.setCell (p := ⟨w.heap.size + 1 + 1, 0, none⟩) (by show w.heap.size ≤ w.heap.size + 1 + 1; omega) (.int .i64 0)).setCell (p := ⟨w.heap.size + 1 + 1, 1, none⟩) (by show w.heap.size ≤ w.heap.size + 1 + 1; omega) (.int .u64 0))
          replace hS := hide hS
          go_wp2_with (rw [build28])
          exact bodyPost_ret (results28 rfl _ rfl rfl (unhide R)) rfl ⟨rfl, unhide BB⟩
        · rw [if_pos (by rfl)]
          have hR := hide (R28.new wC 0 0)
          have lo1 : w.heap.size + 1 + 1 < wC.heap.size := hS.ro.lt
          have hSA := hide (hS.keep ((Below.refl _ _).alloc (Nat.le_refl _) (.cells #[.int .i64 0, .int .u64 0] 28)))
          clear hS
          go_wp2_with fail
          refine hK.out _ _ (unhide hSA) (fun hS => ?_)
          clear hK hSA
          generalize wC.alloc (.cells #[.int .i64 0, .int .u64 0] 28) = WN at hR hS ⊢
          obtain ⟨o, ho⟩ : ∃ o, o = wC.heap.size := ⟨_, rfl⟩
          rw [← ho] at hR lo1 ⊢
          clear ho
          refine wpAnyH_all (rs := [5]) (by kernel_rfl) (by simp) (AllReadyH.cons (i := 5) rfl (fun K hK => ?_) AllReadyH.nil)
          rw [if_pos (by rfl)]
          replace hS := hide hS
          go_wp2_with fail
          refine (unhide hBk _).mono ?_
          rintro e wD ⟨rfl, hbA⟩
          have hSA := hide ((unhide hS).keep hbA)
          replace hR := hide ((unhide hR).keep hbA (unhide hR).lt)
          clear hbA hS
          go_wp2_with fail
          refine hK.out _ _ (unhide hSA) (fun hS => ?_)
          clear hK hSA
          refine wpAnyH_take (i := 6) (v := .tuple #[.agg #[.int .i64 p, .int .u64 q], .bool false]) rfl (by kernel_rfl) (by kernel_rfl) (by kernel_rfl) (fun _ _ _ h => h) (Or.inl ⟨by rfl, fun W _ => by go_simp⟩) hS ?_
          refine wpAnyH_take (i := 7) (v := .agg #[.int .i64 p, .int .u64 q]) rfl (by kernel_rfl) (by kernel_rfl) (by kernel_rfl) (fun _ _ _ h => h) (Or.inl ⟨by rfl, fun W _ => by go_simp⟩) hS ?_
          refine wpAnyH_take (i := 8) (v := .bool false) rfl (by kernel_rfl) (by kernel_rfl) (by kernel_rfl) (fun _ _ _ h => h) (Or.inl ⟨by rfl, fun W _ => by go_simp⟩) hS ?_
          refine wpAnyH_all (rs := [10]) (by kernel_rfl) (by simp) (AllReadyH.cons (i := 10) rfl (fun K hK => ?_) AllReadyH.nil)
          rw [if_pos (by rfl)]
          have x0 := (unhide hR).c0
          have x1 := (unhide hR).c1
          have f0 := (unhide hR).fr 0
          have f1 := (unhide hR).fr 1
          replace hR := hide (((unhide hR).s0 p).s1 q)
          have hSA := hide ((hS.set (a := ⟨o, 0, none⟩) lo1 (.int .i64 p)).set (a := ⟨o, 1, none⟩) lo1 (.int .u64 q))
          clear hS
          go_wp2_with fail
          clear x0 x1 f0 f1
          refine hK.out _ _ (unhide hSA) (fun hS => ?_)
          clear hK hSA
          generalize (wD.setCell ⟨o, 0, none⟩ (.int .i64 p)).setCell ⟨o, 1, none⟩ (.int .u64 q) = WZ at hR hS ⊢
          refine wpAnyH_all (rs := [11]) (by kernel_rfl) (by simp) (AllReadyH.cons (i := 11) rfl (fun K hK => ?_) AllReadyH.nil)
          rw [if_pos (by rfl)]
          have hSA := hide hS
          clear hS
          go_wp2_with fail
          refine hK.out _ _ (unhide hSA) (fun hS => ?_)
          clear hK hSA
          refine wpAnyH_done (by kernel_rfl) ?_ _
          have x0 := (unhide hR).c0
          have x1 := (unhide hR).c1
          have y0 := hS.ro.c0
          have y1 := hS.ro.c1
          have f0 := hS.ro.fr 0
          have f1 := hS.ro.fr 1
          have R := hide ((hS.ro.s0 0).s1 0)
          have BB := hide ((hS.below.setCell (p := ⟨w.heap.size + 1 + 1, 0, none⟩) (by show w.heap.size ≤ w.heap.size + 1 + 1; omega) (.int .i64 0)).setCell (p := ⟨w.heap.size + 1 + 1, 1, none⟩) (by show w.heap.size ≤ w.heap.size + 1 + 1; omega) (.int .u64 0))
          replace hS := hide hS
          go_wp2_with (rw [build28])
          exact bodyPost_ret (results28 rfl _ rfl rfl (unhide R)) rfl ⟨rfl, unhide BB⟩
      · rw [if_pos (by rfl)]
        have hR := hide (R28.new wB 0 0)
        have lo1 : w.heap.size + 1 + 1 < wB.heap.size := hS.ro.lt
        have hSA := hide (hS.keep ((Below.refl _ _).alloc (Nat.le_refl _) (.cells #[.int .i64 0, .int .u64 0] 28)))
        clear hS
        go_wp2_with fail
        refine hK.out _ _ (unhide hSA) (fun hS => ?_)
        clear hK hSA
        generalize wB.alloc (.cells #[.int .i64 0, .int .u64 0] 28) = WN at hR hS ⊢
        obtain ⟨o, ho⟩ : ∃ o, o = wB.heap.size := ⟨_, rfl⟩
        rw [← ho] at hR lo1 ⊢
        clear ho
        refine wpAnyH_all (rs := [4]) (by kernel_rfl) (by simp) (AllReadyH.cons (i := 4) rfl (fun K hK => ?_) AllReadyH.nil)
        rw [if_pos (by rfl)]
        replace hS := hide hS
        go_wp2_with fail
        refine (sum_any l f m g (unhide hF).1 (unhide hG).1 (two_small hX hY (unhide hF) (unhide hG)) _).mono ?_
        rintro e wC ⟨⟨k, h, hH, rfl⟩, hbA⟩
        have hSA := hide ((unhide hS).keep hbA)
        replace hR := hide ((unhide hR).keep hbA (unhide hR).lt)
        have hBk := hide (unhide hB k h (by rw [hH.2.1, (big_sgn (unhide hF)).1, (big_sgn (unhide hG)).1]) hH.1)
        clear hH
        clear hbA hS
        go_wp2_with fail
        refine hK.out _ _ (unhide hSA) (fun hS => ?_)
        clear hK hSA
        refine wpAnyH_all (rs := [5]) (by kernel_rfl) (by simp) (AllReadyH.cons (i := 5) rfl (fun K hK => ?_) AllReadyH.nil)
        rw [if_pos (by rfl)]
        replace hS := hide hS
        go_wp2_with fail
        refine (unhide hBk _).mono ?_
        rintro e wD ⟨rfl, hbA⟩
        have hSA := hide ((unhide hS).keep hbA)
        replace hR := hide ((unhide hR).keep hbA (unhide hR).lt)
        clear hbA hS
        go_wp2_with fail
        refine hK.out _ _ (unhide hSA) (fun hS => ?_)
        clear hK hSA
        refine wpAnyH_take (i := 6) (v := .tuple #[.agg #[.int .i64 p, .int .u64 q], .bool false]) rfl (by kernel_rfl) (by kernel_rfl) (by kernel_rfl) (fun _ _ _ h => h) (Or.inl ⟨by rfl, fun W _ => by go_simp⟩) hS ?_
        refine wpAnyH_take (i := 7) (v := .agg #[.int .i64 p, .int .u64 q]) rfl (by kernel_rfl) (by kernel_rfl) (by kernel_rfl) (fun _ _ _ h => h) (Or.inl ⟨by rfl, fun W _ => by go_simp⟩) hS ?_
        refine wpAnyH_take (i := 8) (v := .bool false) rfl (by kernel_rfl) (by kernel_rfl) (by kernel_rfl) (fun _ _ _ h => h) (Or.inl ⟨by rfl, fun W _ => by go_simp⟩) hS ?_
        refine wpAnyH_all (rs := [10]) (by kernel_rfl) (by simp) (AllReadyH.cons (i := 10) rfl (fun K hK => ?_) AllReadyH.nil)
        rw [if_pos (by rfl)]
        have x0 := (unhide hR).c0
        have x1 := (unhide hR).c1
        have f0 := (unhide hR).fr 0
        have f1 := (unhide hR).fr 1
        replace hR := hide (((unhide hR).s0 p).s1 q)
        have hSA := hide ((hS.set (a := ⟨o, 0, none⟩) lo1 (.int .i64 p)).set (a := ⟨o, 1, none⟩) lo1 (.int .u64 q))
        clear hS
        go_wp2_with fail
        clear x0 x1 f0 f1
        refine hK.out _ _ (unhide hSA) (fun hS => ?_)
        clear hK hSA
        generalize (wD.setCell ⟨o, 0, none⟩ (.int .i64 p)).setCell ⟨o, 1, none⟩ (.int .u64 q) = WZ at hR hS ⊢
        refine wpAnyH_all (rs := [11]) (by kernel_rfl) (by simp) (AllReadyH.cons (i := 11) rfl (fun K hK => ?_) AllReadyH.nil)
        rw [if_pos (by rfl)]
        have hSA := hide hS
        clear hS
        go_wp2_with fail
        refine hK.out _ _ (unhide hSA) (fun hS => ?_)
        clear hK hSA
        refine wpAnyH_done (by kernel_rfl) ?_ _
        have x0 := (unhide hR).c0
        have x1 := (unhide hR).c1
        have y0 := hS.ro.c0
        have y1 := hS.ro.c1
        have f0 := hS.ro.fr 0
        have f1 := hS.ro.fr 1
        have R := hide ((hS.ro.s0 0).s1 0)
        have BB := hide ((hS.below.setCell (p := ⟨w.heap.size + 1 + 1, 0, none⟩) (by show w.heap.size ≤ w.heap.size + 1 + 1; omega) (.int .i64 0)).setCell (p := ⟨w.heap.size + 1 + 1, 1, none⟩) (by show w.heap.size ≤ w.heap.size + 1 + 1; omega) (.int .u64 0))
        replace hS := hide hS
        go_wp2_with (rw [build28])
        exact bodyPost_ret (results28 rfl _ rfl rfl (unhide R)) rfl ⟨rfl, unhide BB⟩
    · rw [if_pos (by rfl)]
      have hR := hide (R28.new wA 0 0)
      have lo1 : w.heap.size + 1 + 1 < wA.heap.size := hS.ro.lt
      have hSA := hide (hS.keep ((Below.refl _ _).alloc (Nat.le_refl _) (.cells #[.int .i64 0, .int .u64 0] 28)))
      clear hS
      go_wp2_with fail
      refine hK.out _ _ (unhide hSA) (fun hS => ?_)
      clear hK hSA
      generalize wA.alloc (.cells #[.int .i64 0, .int .u64 0] 28) = WN at hR hS ⊢
      obtain ⟨o, ho⟩ : ∃ o, o = wA.heap.size := ⟨_, rfl⟩
      rw [← ho] at hR lo1 ⊢
      clear ho
      refine wpAnyH_all (rs := [3]) (by kernel_rfl) (by simp) (AllReadyH.cons (i := 3) rfl (fun K hK => ?_) AllReadyH.nil)
      rw [if_pos (by rfl)]
      replace hS := hide hS
      go_wp2_with fail
      refine (big_any Y hY _).mono ?_
      rintro e wB ⟨⟨m, g, hG, rfl⟩, hbA⟩
      have hSA := hide ((unhide hS).keep hbA)
      replace hR := hide ((unhide hR).keep hbA (unhide hR).lt)
      replace hG := hide hG
      clear hbA hS
      go_wp2_with fail
      refine hK.out _ _ (unhide hSA) (fun hS => ?_)
      clear hK hSA
      refine wpAnyH_all (rs := [4]) (by kernel_rfl) (by simp) (AllReadyH.cons (i := 4) rfl (fun K hK => ?_) AllReadyH.nil)
      rw [if_pos (by rfl)]
      replace hS := hide hS
      go_wp2_with fail
      refine (sum_any l f m g (unhide hF).1 (unhide hG).1 (two_small hX hY (unhide hF) (unhide hG)) _).mono ?_
      rintro e wC ⟨⟨k, h, hH, rfl⟩, hbA⟩
      have hSA := hide ((unhide hS).keep hbA)
      replace hR := hide ((unhide hR).keep hbA (unhide hR).lt)
      have hBk := hide (unhide hB k h (by rw [hH.2.1, (big_sgn (unhide hF)).1, (big_sgn (unhide hG)).1]) hH.1)
      clear hH
      clear hbA hS
      go_wp2_with fail
      refine hK.out _ _ (unhide hSA) (fun hS => ?_)
      clear hK hSA
      refine wpAnyH_all (rs := [5]) (by kernel_rfl) (by simp) (AllReadyH.cons (i := 5) rfl (fun K hK => ?_) AllReadyH.nil)
      rw [if_pos (by rfl)]
      replace hS := hide hS
      go_wp2_with fail
      refine (unhide hBk _).mono ?_
      rintro e wD ⟨rfl, hbA⟩
      have hSA := hide ((unhide hS).keep hbA)
      replace hR := hide ((unhide hR).keep hbA (unhide hR).lt)
      clear hbA hS
      go_wp2_with fail
      refine hK.out _ _ (unhide hSA) (fun hS => ?_)
      clear hK hSA
      refine wpAnyH_take (i := 6) (v := .tuple #[.agg #[.int .i64 p, .int .u64 q], .bool false]) rfl (by kernel_rfl) (by kernel_rfl) (by kernel_rfl) (fun _ _ _ h => h) (Or.inl ⟨by rfl, fun W _ => by go_simp⟩) hS ?_
      refine wpAnyH_take (i := 7) (v := .agg #[.int .i64 p, .int .u64 q]) rfl (by kernel_rfl) (by kernel_rfl) (by kernel_rfl) (fun _ _ _ h => h) (Or.inl ⟨by rfl, fun W _ => by go_simp⟩) hS ?_
      refine wpAnyH_take (i := 8) (v := .bool false) rfl (by kernel_rfl) (by kernel_rfl) (by kernel_rfl) (fun _ _ _ h => h) (Or.inl ⟨by rfl, fun W _ => by go_simp⟩) hS ?_
      refine wpAnyH_all (rs := [10]) (by kernel_rfl) (by simp) (AllReadyH.cons (i := 10) rfl (fun K hK => ?_) AllReadyH.nil)
      rw [if_pos (by rfl)]
      have x0 := (unhide hR).c0
      have x1 := (unhide hR).c1
      have f0 := (unhide hR).fr 0
      have f1 := (unhide hR).fr 1
      replace hR := hide (((unhide hR).s0 p).s1 q)
      have hSA := hide ((hS.set (a := ⟨o, 0, none⟩) lo1 (.int .i64 p)).set (a := ⟨o, 1, none⟩) lo1 (.int .u64 q))
      clear hS
      go_wp2_with fail
      clear x0 x1 f0 f1
      refine hK.out _ _ (unhide hSA) (fun hS => ?_)
      clear hK hSA
      generalize (wD.setCell ⟨o, 0, none⟩ (.int .i64 p)).setCell ⟨o, 1, none⟩ (.int .u64 q) = WZ at hR hS ⊢
      refine wpAnyH_all (rs := [11]) (by kernel_rfl) (by simp) (AllReadyH.cons (i := 11) rfl (fun K hK => ?_) AllReadyH.nil)
      rw [if_pos (by rfl)]
      have hSA := hide hS
      clear hS
      go_wp2_with fail
      refine hK.out _ _ (unhide hSA) (fun hS => ?_)
      clear hK hSA
      refine wpAnyH_done (by kernel_rfl) ?_ _
      have x0 := (unhide hR).c0
      have x1 := (unhide hR).c1
      have y0 := hS.ro.c0
      have y1 := hS.ro.c1
      have f0 := hS.ro.fr 0
      have f1 := hS.ro.fr 1
      have R := hide ((hS.ro.s0 0).s1 0)
      have BB := hide ((hS.below.setCell (p := ⟨w.heap.size + 1 + 1, 0, none⟩) (by show w.heap.size ≤ w.heap.size + 1 + 1; omega) (.int .i64 0)).setCell (p := ⟨w.heap.size + 1 + 1, 1, none⟩) (by show w.heap.size ≤ w.heap.size + 1 + 1; omega) (.int .u64 0))
      replace hS := hide hS
      go_wp2_with (rw [build28])
      exact bodyPost_ret (results28 rfl _ rfl rfl (unhide R)) rfl ⟨rfl, unhide BB⟩
  · rw [if_pos (by rfl)]
    have hR := hide (R28.new W5 0 0)
    have lo1 : w.heap.size + 1 + 1 < W5.heap.size := hS.ro.lt
    have hSA := hide (hS.keep ((Below.refl _ _).alloc (Nat.le_refl _) (.cells #[.int .i64 0, .int .u64 0] 28)))
    clear hS
    go_wp2_with fail
    refine hK.out _ _ (unhide hSA) (fun hS => ?_)
    clear hK hSA
    generalize W5.alloc (.cells #[.int .i64 0, .int .u64 0] 28) = WN at hR hS ⊢
    obtain ⟨o, ho⟩ : ∃ o, o = W5.heap.size := ⟨_, rfl⟩
    rw [← ho] at hR lo1 ⊢
    clear ho
    refine wpAnyH_all (rs := [1]) (by kernel_rfl) (by simp) (AllReadyH.cons (i := 1) rfl (fun K hK => ?_) AllReadyH.nil)
    rw [if_pos (by rfl)]
    replace hS := hide hS
    go_wp2_with fail
    refine (big_any X hX _).mono ?_
    rintro e wA ⟨⟨l, f, hF, rfl⟩, hbA⟩
    have hSA := hide ((unhide hS).keep hbA)
    replace hR := hide ((unhide hR).keep hbA (unhide hR).lt)
    replace hF := hide hF
    clear hbA hS
    go_wp2_with fail
    refine hK.out _ _ (unhide hSA) (fun hS => ?_)
    clear hK hSA
    refine wpAnyH_all (rs := [3]) (by kernel_rfl) (by simp) (AllReadyH.cons (i := 3) rfl (fun K hK => ?_) AllReadyH.nil)
    rw [if_pos (by rfl)]
    replace hS := hide hS
    go_wp2_with fail
    refine (big_any Y hY _).mono ?_
    rintro e wB ⟨⟨m, g, hG, rfl⟩, hbA⟩
    have hSA := hide ((unhide hS).keep hbA)
    replace hR := hide ((unhide hR).keep hbA (unhide hR).lt)
    replace hG := hide hG
    clear hbA hS
    go_wp2_with fail
    refine hK.out _ _ (unhide hSA) (fun hS => ?_)
    clear hK hSA
    refine wpAnyH_all (rs := [4]) (by kernel_rfl) (by simp) (AllReadyH.cons (i := 4) rfl (fun K hK => ?_) AllReadyH.nil)
    rw [if_pos (by rfl)]
    replace hS := hide hS
    go_wp2_with fail
    refine (sum_any l f m g (unhide hF).1 (unhide hG).1 (two_small hX hY (unhide hF) (unhide hG)) _).mono ?_
    rintro e wC ⟨⟨k, h, hH, rfl⟩, hbA⟩
    have hSA := hide ((unhide hS).keep hbA)
    replace hR := hide ((unhide hR).keep hbA (unhide hR).lt)
    have hBk := hide (unhide hB k h (by rw [hH.2.1, (big_sgn (unhide hF)).1, (big_sgn (unhide hG)).1]) hH.1)
    clear hH
    clear hbA hS
    go_wp2_with fail
    refine hK.out _ _ (unhide hSA) (fun hS => ?_)
    clear hK hSA
    refine wpAnyH_all (rs := [5]) (by kernel_rfl) (by simp) (AllReadyH.cons (i := 5) rfl (fun K hK => ?_) AllReadyH.nil)
    rw [if_pos (by rfl)]
    replace hS := hide hS
    go_wp2_with fail
    refine (unhide hBk _).mono ?_
    rintro e wD ⟨rfl, hbA⟩
    have hSA := hide ((unhide hS).keep hbA)
    replace hR := hide ((unhide hR).keep hbA (unhide hR).lt)
    clear hbA hS
    go_wp2_with fail
    refine hK.out _ _ (unhide hSA) (fun hS => ?_)
    clear hK hSA
    refine wpAnyH_take (i := 6) (v := .tuple #[.agg #[.int .i64 p, .int .u64 q], .bool false]) rfl (by kernel_rfl) (by kernel_rfl) (by kernel_rfl) (fun _ _ _ h => h) (Or.inl ⟨by rfl, fun W _ => by go_simp⟩) hS ?_
    refine wpAnyH_take (i := 7) (v := .agg #[.int .i64 p, .int .u64 q]) rfl (by kernel_rfl) (by kernel_rfl) (by kernel_rfl) (fun _ _ _ h => h) (Or.inl ⟨by rfl, fun W _ => by go_simp⟩) hS ?_
    refine wpAnyH_take (i := 8) (v := .bool false) rfl (by kernel_rfl) (by kernel_rfl) (by kernel_rfl) (fun _ _ _ h => h) (Or.inl ⟨by rfl, fun W _ => by go_simp⟩) hS ?_
    refine wpAnyH_all (rs := [10]) (by kernel_rfl) (by simp) (AllReadyH.cons (i := 10) rfl (fun K hK => ?_) AllReadyH.nil)
    rw [if_pos (by rfl)]
    have x0 := (unhide hR).c0
    have x1 := (unhide hR).c1
    have f0 := (unhide hR).fr 0
    have f1 := (unhide hR).fr 1
    replace hR := hide (((unhide hR).s0 p).s1 q)
    have hSA := hide ((hS.set (a := ⟨o, 0, none⟩) lo1 (.int .i64 p)).set (a := ⟨o, 1, none⟩) lo1 (.int .u64 q))
    clear hS
    go_wp2_with fail
    clear x0 x1 f0 f1
    refine hK.out _ _ (unhide hSA) (fun hS => ?_)
    clear hK hSA
    generalize (wD.setCell ⟨o, 0, none⟩ (.int .i64 p)).setCell ⟨o, 1, none⟩ (.int .u64 q) = WZ at hR hS ⊢
    refine wpAnyH_all (rs := [11]) (by kernel_rfl) (by simp) (AllReadyH.cons (i := 11) rfl (fun K hK => ?_) AllReadyH.nil)
    rw [if_pos (by rfl)]
    have hSA := hide hS
    clear hS
    go_wp2_with fail
    refine hK.out _ _ (unhide hSA) (fun hS => ?_)
    clear hK hSA
    refine wpAnyH_done (by kernel_rfl) ?_ _
    have x0 := (unhide hR).c0
    have x1 := (unhide hR).c1
    have y0 := hS.ro.c0
    have y1 := hS.ro.c1
    have f0 := hS.ro.fr 0
    have f1 := hS.ro.fr 1
    have R := hide ((hS.ro.s0 0).s1 0)
    have BB := hide ((hS.below.setCell (p := ⟨w.heap.size + 1 + 1, 0, none⟩) (by show w.heap.size ≤ w.heap.size + 1 + 1; omega) (.int .i64 0)).setCell (p := ⟨w.heap.size + 1 + 1, 1, none⟩) (by show w.heap.size ≤ w.heap.size + 1 + 1; omega) (.int .u64 0))
    replace hS := hide hS
    go_wp2_with (rw [build28])
    exact bodyPost_ret (results28 rfl _ rfl rfl (unhide R)) rfl ⟨rfl, unhide BB⟩
theorem radd_any (X Y : Int) (hX : In128 X) (hY : In128 Y) : RAdds X Y (hi (okW (X + Y))) (lo (okW (X + Y))) (okWE (X + Y)) := by
  by_cases hN : In128 (X + Y)
  · rw [okW_in hN, okWE_in hN]
    refine radd_t X Y _ _ hX hY (hide fun k h e hb => ?_)
    have hk := back_any k h hb
    rw [e, okW_in hN, okWE_in hN] at hk
    exact hk
  · rw [okW_out hN, okWE_out hN, hi_zero, lo_zero]
    refine radd_f X Y 0 0 hX hY (hide fun k h e hb => ?_)
    have hk := back_any k h hb
    rw [e, okW_out hN, okWE_out hN, hi_zero, lo_zero] at hk
    exact hk
end Go.Proofs.Ytaknjpddjofgeaa
