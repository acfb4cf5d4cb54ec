/- Proved here: FlowMerges: at any two rows of flows and any day whether they may be, what both are together, their total and their parts are the document's, and the flows that were handed in stay, whatever becomes of the parts. No condition. -/
import Derived.Test.YtkjbkppjebljpaaMut
namespace Go.Proofs.Ytkjbkppjebljpaa.flowMerges
open Go.ChangeShapes Go.WideShapes Go.ChangeAt Go.RowKit
set_option linter.unusedSimpArgs false
theorem l_1 (a0 : Option Addr) (l0 c0 : Nat) (a1 : Option Addr) (l1 c1 : Nat) (D : Int) (d0 : decide ((700 : Int) < (l0 : Int)) = true) (hal : Hid Alive) (w : World) : Calls Try.prog 3 #[.slice a0 l0 c0, .slice a1 l1 c1, .int .i64 D] w fun e w' => e = .returned (.bool true) ∧ Below w.heap.size w w' := by
  go_enter Try.func3, Try.ntmps3
  go_wp2_with fail
  refine (unhide hal w).mono ?_
  rintro e w1 ⟨rfl, b⟩
  have HB := hide b
  clear b
  go_wp2_with fail
  go_ret
  exact ⟨rfl, unhide HB⟩
theorem l_2 (a0 : Option Addr) (l0 c0 : Nat) (a1 : Option Addr) (l1 c1 : Nat) (D : Int) (d0 : decide ((700 : Int) < (l0 : Int)) = false) (d1 : decide ((700 : Int) < (l1 : Int)) = true) (hal : Hid Alive) (w : World) : Calls Try.prog 3 #[.slice a0 l0 c0, .slice a1 l1 c1, .int .i64 D] w fun e w' => e = .returned (.bool true) ∧ Below w.heap.size w w' := by
  go_enter Try.func3, Try.ntmps3
  go_wp2_with fail
  refine (unhide hal w).mono ?_
  rintro e w1 ⟨rfl, b⟩
  have HB := hide b
  clear b
  go_wp2_with fail
  go_ret
  exact ⟨rfl, unhide HB⟩
set_option maxRecDepth 20000 in
set_option maxHeartbeats 4000000 in
theorem main_ (a0 : Option Addr) (l0 c0 : Nat) (z0 : List (Int × Int)) (a1 : Option Addr) (l1 c1 : Nat) (z1 : List (Int × Int)) (D : Int) (d0 : decide ((700 : Int) < (l0 : Int)) = false) (d1 : decide ((700 : Int) < (l1 : Int)) = false) (hal : Hid Alive) (w : World) (A : Hid (RowF w (.slice a0 l0 c0) z0)) (B : Hid (RowF w (.slice a1 l1 c1) z1)) (LA : Hid (z0.length ≤ 1000)) (LB : Hid (z1.length ≤ 1000)) : Calls Try.prog 3 #[.slice a0 l0 c0, .slice a1 l1 c1, .int .i64 D] w fun e w' => e = .returned (.bool true) ∧ Below w.heap.size w w' := by
  go_enter Try.func3, Try.ntmps3
  go_wp2_with fail
  refine (unhide hal w).mono ?_
  rintro e w1 ⟨rfl, b⟩
  replace A := hide ((unhide A).keep b)
  replace B := hide ((unhide B).keep b)
  have HB := hide b
  clear b
  go_wp2_with fail
  refine (to_any _ z0 w1 (unhide A) (unhide LA)).mono ?_
  rintro e w2 ⟨x, rfl, g⟩
  replace A := hide ((unhide A).keep g.below)
  replace B := hide ((unhide B).keep g.below)
  replace HB := hide (below_via (unhide HB) g.below)
  have Rx := hide g.row
  clear g
  have X := Rx
  clear Rx
  go_wp2_with fail
  refine (to_any _ z1 w2 (unhide B) (unhide LB)).mono ?_
  rintro e w3 ⟨y, rfl, g⟩
  replace A := hide ((unhide A).keep g.below)
  replace B := hide ((unhide B).keep g.below)
  replace X := hide ((unhide X).keep g.below)
  replace HB := hide (below_via (unhide HB) g.below)
  have Ry := hide g.row
  clear g
  go_wp2_with fail
  refine (merge_all _ _ z0 z1 w3 (unhide X) (unhide Ry)).mono ?_
  rintro e w4 ⟨m, rfl, r, b⟩
  replace A := hide ((unhide A).keep b)
  replace B := hide ((unhide B).keep b)
  replace X := hide ((unhide X).keep b)
  replace Ry := hide ((unhide Ry).keep b)
  replace HB := hide (below_via (unhide HB) b)
  have Rm := hide r
  clear r b
  clear Ry
  have M := Rm
  clear Rm
  go_wp2_with fail
  refine (rmerge_all _ _ z0 z1 w4 (unhide A) (unhide B)).mono ?_
  rintro e w5 ⟨n, rfl, r, b⟩
  replace A := hide ((unhide A).keep b)
  replace B := hide ((unhide B).keep b)
  replace X := hide ((unhide X).keep b)
  replace M := hide ((unhide M).keep b)
  replace HB := hide (below_via (unhide HB) b)
  have Nn := hide r
  clear r b
  clear B
  have s1 : (mE z0 z1 == mE z0 z1) = true := by simp
  have HB0 := HB
  have A1 := A
  have X1 := X
  have M1 := M
  have N1 := Nn
  go_wp2_with fail
  refine (part_any _ D z0 w5 (unhide X) (unhide LA)).mono ?_
  rintro e w6 ⟨p, q, rfl, gp, gq, ap⟩
  replace A := hide ((unhide A).keep gp.below)
  replace X := hide ((unhide X).keep gp.below)
  replace M := hide ((unhide M).keep gp.below)
  replace Nn := hide ((unhide Nn).keep gp.below)
  replace HB := hide (below_via (unhide HB) gp.below)
  have GP := hide gp
  have GQ := hide gq
  have AP := hide ap
  clear gp gq ap
  have hPR := (unhide GP).below.size
  have hQlt : ∀ k, q.ownBlock = some k → k < w6.heap.size := fun k hk => ((unhide GQ).at_least k hk).2
  have hWP : w.heap.size ≤ w5.heap.size := by have := (unhide HB0).size; omega
  have Q1 := hide (unhide GQ).row
  have HP1 := hide (unhide GP).at_least
  go_wp2_with fail
  refine (rpart_any _ D z0 w6 (unhide A) (unhide LA)).mono ?_
  rintro e w7 ⟨r, s, rfl, gr, gs, ar⟩
  replace A := hide ((unhide A).keep gr.below)
  replace X := hide ((unhide X).keep gr.below)
  replace M := hide ((unhide M).keep gr.below)
  replace Nn := hide ((unhide Nn).keep gr.below)
  replace GP := hide ((unhide GP).keep gr.below)
  replace GQ := hide ((unhide GQ).keep gr.below)
  replace HB := hide (below_via (unhide HB) gr.below)
  have GR := hide gr
  have GS := hide gs
  have AR := hide ar
  clear gr gs ar
  go_wp2_with fail
  refine (total_any _ z0 w7 (unhide X) (unhide LA)).mono ?_
  rintro e w8 ⟨rfl, b⟩
  replace A := hide ((unhide A).keep b)
  replace X := hide ((unhide X).keep b)
  replace M := hide ((unhide M).keep b)
  replace Nn := hide ((unhide Nn).keep b)
  replace GP := hide ((unhide GP).keep b)
  replace GQ := hide ((unhide GQ).keep b)
  replace GR := hide ((unhide GR).keep b)
  replace GS := hide ((unhide GS).keep b)
  replace HB := hide (below_via (unhide HB) b)
  clear b
  go_wp2_with fail
  refine (rtotal_any _ z0 w8 (unhide A) (unhide LA)).mono ?_
  rintro e w9 ⟨rfl, b⟩
  replace A := hide ((unhide A).keep b)
  replace X := hide ((unhide X).keep b)
  replace M := hide ((unhide M).keep b)
  replace Nn := hide ((unhide Nn).keep b)
  replace GP := hide ((unhide GP).keep b)
  replace GQ := hide ((unhide GQ).keep b)
  replace GR := hide ((unhide GR).keep b)
  replace GS := hide ((unhide GS).keep b)
  replace HB := hide (below_via (unhide HB) b)
  clear b
  have s2 : (okN (tot z0) == okN (tot z0)) = true := by simp
  have s3 : (okE (tot z0) == okE (tot z0)) = true := by simp
  generalize okN (tot z0) = tn at *
  generalize okE (tot z0) = te at *
  generalize mE z0 z1 = me at *
  have LV : Hid ((behind D z0).length ≤ 1000) := hide (Nat.le_trans (behind_len D z0) (unhide LA))
  have LU : Hid ((upto D z0).length ≤ 1000) := hide (Nat.le_trans (upto_len D z0) (unhide LA))
  generalize upto D z0 = U at *
  generalize behind D z0 = V at *
  have SU := hide (unhide GP).small
  have hLU := unhide LU
  by_cases hU : 0 < U.length
  · obtain ⟨gp, cp, fp, ep, k1, k2, k3, k4, k5⟩ := (unhide GP).block hU
    obtain ⟨gr, cr, fr, er, j1, j2, j3, j4, j5⟩ := (unhide GR).block hU
    have hpr : gp < w6.heap.size := ((unhide HP1) gp (by rw [ep]; rfl)).2
    have hsz : w5.heap.size ≤ w6.heap.size := hPR
    have hne : gp ≠ gr := by omega
    have HM := hide (mut_start (U := U) hne k4 k5 j4 j5)
    have KA : Hid (∀ wr : World, (∀ j, j ≠ gp → j ≠ gr → wr.heap[j]? = w9.heap[j]?) → RowF wr _ _) := hide (fun wr hf => RowF.far (unhide A1) (unhide A) (g1 := gp) (g2 := gr) (by omega) (by omega) hf)
    have KX : Hid (∀ wr : World, (∀ j, j ≠ gp → j ≠ gr → wr.heap[j]? = w9.heap[j]?) → RowF wr _ _) := hide (fun wr hf => RowF.far (unhide X1) (unhide X) (g1 := gp) (g2 := gr) (by omega) (by omega) hf)
    have KM : Hid (∀ wr : World, (∀ j, j ≠ gp → j ≠ gr → wr.heap[j]? = w9.heap[j]?) → RowF wr _ _) := hide (fun wr hf => RowF.far (unhide M1) (unhide M) (g1 := gp) (g2 := gr) (by omega) (by omega) hf)
    have KN : Hid (∀ wr : World, (∀ j, j ≠ gp → j ≠ gr → wr.heap[j]? = w9.heap[j]?) → RowF wr _ _) := hide (fun wr hf => RowF.far (unhide N1) (unhide Nn) (g1 := gp) (g2 := gr) (by omega) (by omega) hf)
    have KQ : Hid (∀ wr : World, (∀ j, j ≠ gp → j ≠ gr → wr.heap[j]? = w9.heap[j]?) → RowF wr q V) := hide (fun wr hf => (unhide GQ).row.blk (fun k hk hlt => hf k (fun c => by subst c; exact unhide AP k (by rw [ep]; rfl) hk) (fun c => by have := hQlt k hk; omega)))
    have KS : Hid (∀ wr : World, (∀ j, j ≠ gp → j ≠ gr → wr.heap[j]? = w9.heap[j]?) → RowF wr s V) := hide (fun wr hf => (unhide GS).row.blk (fun k hk hlt => hf k (fun c => by have := ((unhide GS).at_least k hk).1; omega) (fun c => by subst c; exact unhide AR k (by rw [er]; rfl) hk)))
    have KB : Hid (∀ wr : World, Below (min gp gr) w9 wr → Below w.heap.size w wr) := hide (fun wr hb => (unhide HB).trans (hb.mono (by have := hWP; omega)))
    subst ep er
    clear A1 X1 M1 N1 A X M Nn GP GQ GR GS AP AR Q1 HP1 HB hQlt k3 k4 k5 j3 j4 j5 hpr hsz
    have hUi : (0 : Int) < (U.length : Int) := by omega
    go_wp2_with fail
    go_loopw [70] (fun i wr => ∃ k : Nat, k ≤ U.length ∧ i = .int .i64 k ∧ Hid (Mut w9 wr gp cp gr cr U k)) (fun i _ => U.length - (intOf i).toNat)
    case atStart => exact ⟨0, Nat.zero_le _, rfl, HM⟩
    case round =>
      clear HM
      obtain ⟨k, hk, rfl, HM⟩ := hrel
      by_cases hlt : k < U.length
      · obtain ⟨f9, he⟩ : ∃ f, getF U k = f := ⟨_, rfl⟩
        obtain ⟨d, x⟩ := f9
        obtain ⟨x1, x2, x3, x4, x5, x6⟩ := (unhide HM).cells hlt k1 j1 he (.int .i64 (wrap64 (x + 1)))
        have HM2 := hide ((unhide HM).step he)
        clear HM he
        have hki : (k : Int) < (U.length : Int) := by omega
        go_wp2_with fail
        go_roundw
        case rel => exact ⟨k + 1, by omega, by go_num, HM2⟩
        case measure => simp [intOf]; omega
      · have hkl : k = U.length := by omega
        subst hkl
        have A := hide (unhide KA wr (unhide HM).far)
        have X := hide (unhide KX wr (unhide HM).far)
        have M := hide (unhide KM wr (unhide HM).far)
        have Nn := hide (unhide KN wr (unhide HM).far)
        have Qq := hide (unhide KQ wr (unhide HM).far)
        have Ss := hide (unhide KS wr (unhide HM).far)
        have Pp := hide ((unhide HM).rows k1 j1 k2 j2 (unhide SU)).1
        have Rr := hide ((unhide HM).rows k1 j1 k2 j2 (unhide SU)).2
        have HB := hide (unhide KB wr ((unhide HM).bel _ (Nat.min_le_left _ _) (Nat.min_le_right _ _)))
        have LW : Hid ((U.map inc).length ≤ 1000) := hide (by rw [List.length_map]; exact unhide LU)
        clear HM KA KX KM KN KQ KS KB SU
        go_wp2_with fail
        refine (from_any _ (mL z0 z1) wr (unhide M) (mL_len _ _)).mono ?_
        rintro e w10 ⟨u1, rfl, g⟩
        replace A := hide ((unhide A).keep g.below)
        replace X := hide ((unhide X).keep g.below)
        replace M := hide ((unhide M).keep g.below)
        replace Nn := hide ((unhide Nn).keep g.below)
        replace Qq := hide ((unhide Qq).keep g.below)
        replace Ss := hide ((unhide Ss).keep g.below)
        replace Pp := hide ((unhide Pp).keep g.below)
        replace Rr := hide ((unhide Rr).keep g.below)
        replace HB := hide (below_via (unhide HB) g.below)
        have Ru1 := hide g.row
        clear g
        have hF := hide (fsame_any _ _ (mL z0 z1) (mL z0 z1) w10 (unhide Ru1) (unhide Nn))
        rw [sameF_refl] at hF
        go_wp2_with fail
        refine (unhide hF).mono ?_
        rintro e w11 ⟨rfl, n11, rfl⟩
        replace A := hide ((unhide A).later (w' := w10.drewN n11) (fun _ _ h => h))
        replace X := hide ((unhide X).later (w' := w10.drewN n11) (fun _ _ h => h))
        replace M := hide ((unhide M).later (w' := w10.drewN n11) (fun _ _ h => h))
        replace Nn := hide ((unhide Nn).later (w' := w10.drewN n11) (fun _ _ h => h))
        replace Qq := hide ((unhide Qq).later (w' := w10.drewN n11) (fun _ _ h => h))
        replace Ss := hide ((unhide Ss).later (w' := w10.drewN n11) (fun _ _ h => h))
        replace Pp := hide ((unhide Pp).later (w' := w10.drewN n11) (fun _ _ h => h))
        replace Rr := hide ((unhide Rr).later (w' := w10.drewN n11) (fun _ _ h => h))
        replace Ru1 := hide ((unhide Ru1).later (w' := w10.drewN n11) (fun _ _ h => h))
        replace HB := hide (below_drewN (unhide HB) n11)
        clear hF
        generalize w10.drewN n11 = v11 at *
        clear Ru1 M Nn
        go_wp2_with fail
        refine (from_any _ (U.map inc) v11 (unhide Pp) (unhide LW)).mono ?_
        rintro e w12 ⟨u2, rfl, g⟩
        replace A := hide ((unhide A).keep g.below)
        replace X := hide ((unhide X).keep g.below)
        replace Qq := hide ((unhide Qq).keep g.below)
        replace Ss := hide ((unhide Ss).keep g.below)
        replace Pp := hide ((unhide Pp).keep g.below)
        replace Rr := hide ((unhide Rr).keep g.below)
        replace HB := hide (below_via (unhide HB) g.below)
        have Ru2 := hide g.row
        clear g
        have hF := hide (fsame_any _ _ (U.map inc) (U.map inc) w12 (unhide Ru2) (unhide Rr))
        rw [sameF_refl] at hF
        go_wp2_with fail
        refine (unhide hF).mono ?_
        rintro e w13 ⟨rfl, n13, rfl⟩
        replace A := hide ((unhide A).later (w' := w12.drewN n13) (fun _ _ h => h))
        replace X := hide ((unhide X).later (w' := w12.drewN n13) (fun _ _ h => h))
        replace Qq := hide ((unhide Qq).later (w' := w12.drewN n13) (fun _ _ h => h))
        replace Ss := hide ((unhide Ss).later (w' := w12.drewN n13) (fun _ _ h => h))
        replace Pp := hide ((unhide Pp).later (w' := w12.drewN n13) (fun _ _ h => h))
        replace Rr := hide ((unhide Rr).later (w' := w12.drewN n13) (fun _ _ h => h))
        replace Ru2 := hide ((unhide Ru2).later (w' := w12.drewN n13) (fun _ _ h => h))
        replace HB := hide (below_drewN (unhide HB) n13)
        clear hF
        generalize w12.drewN n13 = v13 at *
        clear Ru2 Pp Rr
        go_wp2_with fail
        refine (from_any _ V v13 (unhide Qq) (unhide LV)).mono ?_
        rintro e w14 ⟨u3, rfl, g⟩
        replace A := hide ((unhide A).keep g.below)
        replace X := hide ((unhide X).keep g.below)
        replace Qq := hide ((unhide Qq).keep g.below)
        replace Ss := hide ((unhide Ss).keep g.below)
        replace HB := hide (below_via (unhide HB) g.below)
        have Ru3 := hide g.row
        clear g
        have hF := hide (fsame_any _ _ V V w14 (unhide Ru3) (unhide Ss))
        rw [sameF_refl] at hF
        go_wp2_with fail
        refine (unhide hF).mono ?_
        rintro e w15 ⟨rfl, n15, rfl⟩
        replace A := hide ((unhide A).later (w' := w14.drewN n15) (fun _ _ h => h))
        replace X := hide ((unhide X).later (w' := w14.drewN n15) (fun _ _ h => h))
        replace Qq := hide ((unhide Qq).later (w' := w14.drewN n15) (fun _ _ h => h))
        replace Ss := hide ((unhide Ss).later (w' := w14.drewN n15) (fun _ _ h => h))
        replace Ru3 := hide ((unhide Ru3).later (w' := w14.drewN n15) (fun _ _ h => h))
        replace HB := hide (below_drewN (unhide HB) n15)
        clear hF
        generalize w14.drewN n15 = v15 at *
        clear Ru3 Qq Ss
        go_wp2_with fail
        refine (check_any _ z0 v15 (unhide X)).mono ?_
        rintro e w16 ⟨rfl, b⟩
        replace A := hide ((unhide A).keep b)
        replace X := hide ((unhide X).keep b)
        replace HB := hide (below_via (unhide HB) b)
        clear b
        go_wp2_with fail
        refine (rcheck_any _ z0 w16 (unhide A)).mono ?_
        rintro e w17 ⟨rfl, b⟩
        replace A := hide ((unhide A).keep b)
        replace X := hide ((unhide X).keep b)
        replace HB := hide (below_via (unhide HB) b)
        clear b
        have s4 : (chkE z0 == chkE z0) = true := by simp
        generalize chkE z0 = ce at *
        go_wp2_with fail
        refine (from_any _ z0 w17 (unhide X) (unhide LA)).mono ?_
        rintro e w18 ⟨u4, rfl, g⟩
        replace A := hide ((unhide A).keep g.below)
        replace X := hide ((unhide X).keep g.below)
        replace HB := hide (below_via (unhide HB) g.below)
        have Ru4 := hide g.row
        clear g
        have hF := hide (fsame_any _ _ z0 z0 w18 (unhide Ru4) (unhide A))
        rw [sameF_refl] at hF
        go_wp2_with fail
        refine (unhide hF).mono ?_
        rintro e w19 ⟨rfl, n19, rfl⟩
        replace A := hide ((unhide A).later (w' := w18.drewN n19) (fun _ _ h => h))
        replace X := hide ((unhide X).later (w' := w18.drewN n19) (fun _ _ h => h))
        replace Ru4 := hide ((unhide Ru4).later (w' := w18.drewN n19) (fun _ _ h => h))
        replace HB := hide (below_drewN (unhide HB) n19)
        clear hF
        generalize w18.drewN n19 = v19 at *
        go_wp2_with fail
        go_ret
        exact ⟨rfl, unhide HB⟩
  · obtain rfl : U = [] := List.eq_nil_of_length_eq_zero (by omega)
    have Pp := hide (unhide GP).row
    have Rr := hide (unhide GR).row
    have Qq := hide (unhide GQ).row
    have Ss := hide (unhide GS).row
    clear A1 X1 M1 N1 GP GQ GR GS AP AR Q1 HP1 SU hQlt hWP hPR
    obtain ⟨pa, pc, ep⟩ := rowF_slice (unhide Pp)
    subst ep
    go_wp2_with fail
    refine wp_loop_rounds 1 ?_
    rw [rounds_succ]
    go_wp2_with fail
    refine (from_any _ (mL z0 z1) w9 (unhide M) (mL_len _ _)).mono ?_
    rintro e w10 ⟨u1, rfl, g⟩
    replace A := hide ((unhide A).keep g.below)
    replace X := hide ((unhide X).keep g.below)
    replace M := hide ((unhide M).keep g.below)
    replace Nn := hide ((unhide Nn).keep g.below)
    replace Qq := hide ((unhide Qq).keep g.below)
    replace Ss := hide ((unhide Ss).keep g.below)
    replace Pp := hide ((unhide Pp).keep g.below)
    replace Rr := hide ((unhide Rr).keep g.below)
    replace HB := hide (below_via (unhide HB) g.below)
    have Ru1 := hide g.row
    clear g
    have hF := hide (fsame_any _ _ (mL z0 z1) (mL z0 z1) w10 (unhide Ru1) (unhide Nn))
    rw [sameF_refl] at hF
    go_wp2_with fail
    refine (unhide hF).mono ?_
    rintro e w11 ⟨rfl, n11, rfl⟩
    replace A := hide ((unhide A).later (w' := w10.drewN n11) (fun _ _ h => h))
    replace X := hide ((unhide X).later (w' := w10.drewN n11) (fun _ _ h => h))
    replace M := hide ((unhide M).later (w' := w10.drewN n11) (fun _ _ h => h))
    replace Nn := hide ((unhide Nn).later (w' := w10.drewN n11) (fun _ _ h => h))
    replace Qq := hide ((unhide Qq).later (w' := w10.drewN n11) (fun _ _ h => h))
    replace Ss := hide ((unhide Ss).later (w' := w10.drewN n11) (fun _ _ h => h))
    replace Pp := hide ((unhide Pp).later (w' := w10.drewN n11) (fun _ _ h => h))
    replace Rr := hide ((unhide Rr).later (w' := w10.drewN n11) (fun _ _ h => h))
    replace Ru1 := hide ((unhide Ru1).later (w' := w10.drewN n11) (fun _ _ h => h))
    replace HB := hide (below_drewN (unhide HB) n11)
    clear hF
    generalize w10.drewN n11 = v11 at *
    clear Ru1 M Nn
    go_wp2_with fail
    refine (from_any _ [] v11 (unhide Pp) (by decide)).mono ?_
    rintro e w12 ⟨u2, rfl, g⟩
    replace A := hide ((unhide A).keep g.below)
    replace X := hide ((unhide X).keep g.below)
    replace Qq := hide ((unhide Qq).keep g.below)
    replace Ss := hide ((unhide Ss).keep g.below)
    replace Pp := hide ((unhide Pp).keep g.below)
    replace Rr := hide ((unhide Rr).keep g.below)
    replace HB := hide (below_via (unhide HB) g.below)
    have Ru2 := hide g.row
    clear g
    have hF := hide (fsame_any _ _ [] [] w12 (unhide Ru2) (unhide Rr))
    rw [sameF_refl] at hF
    go_wp2_with fail
    refine (unhide hF).mono ?_
    rintro e w13 ⟨rfl, n13, rfl⟩
    replace A := hide ((unhide A).later (w' := w12.drewN n13) (fun _ _ h => h))
    replace X := hide ((unhide X).later (w' := w12.drewN n13) (fun _ _ h => h))
    replace Qq := hide ((unhide Qq).later (w' := w12.drewN n13) (fun _ _ h => h))
    replace Ss := hide ((unhide Ss).later (w' := w12.drewN n13) (fun _ _ h => h))
    replace Pp := hide ((unhide Pp).later (w' := w12.drewN n13) (fun _ _ h => h))
    replace Rr := hide ((unhide Rr).later (w' := w12.drewN n13) (fun _ _ h => h))
    replace Ru2 := hide ((unhide Ru2).later (w' := w12.drewN n13) (fun _ _ h => h))
    replace HB := hide (below_drewN (unhide HB) n13)
    clear hF
    generalize w12.drewN n13 = v13 at *
    clear Ru2 Pp Rr
    go_wp2_with fail
    refine (from_any _ V v13 (unhide Qq) (unhide LV)).mono ?_
    rintro e w14 ⟨u3, rfl, g⟩
    replace A := hide ((unhide A).keep g.below)
    replace X := hide ((unhide X).keep g.below)
    replace Qq := hide ((unhide Qq).keep g.below)
    replace Ss := hide ((unhide Ss).keep g.below)
    replace HB := hide (below_via (unhide HB) g.below)
    have Ru3 := hide g.row
    clear g
    have hF := hide (fsame_any _ _ V V w14 (unhide Ru3) (unhide Ss))
    rw [sameF_refl] at hF
    go_wp2_with fail
    refine (unhide hF).mono ?_
    rintro e w15 ⟨rfl, n15, rfl⟩
    replace A := hide ((unhide A).later (w' := w14.drewN n15) (fun _ _ h => h))
    replace X := hide ((unhide X).later (w' := w14.drewN n15) (fun _ _ h => h))
    replace Qq := hide ((unhide Qq).later (w' := w14.drewN n15) (fun _ _ h => h))
    replace Ss := hide ((unhide Ss).later (w' := w14.drewN n15) (fun _ _ h => h))
    replace Ru3 := hide ((unhide Ru3).later (w' := w14.drewN n15) (fun _ _ h => h))
    replace HB := hide (below_drewN (unhide HB) n15)
    clear hF
    generalize w14.drewN n15 = v15 at *
    clear Ru3 Qq Ss
    go_wp2_with fail
    refine (check_any _ z0 v15 (unhide X)).mono ?_
    rintro e w16 ⟨rfl, b⟩
    replace A := hide ((unhide A).keep b)
    replace X := hide ((unhide X).keep b)
    replace HB := hide (below_via (unhide HB) b)
    clear b
    go_wp2_with fail
    refine (rcheck_any _ z0 w16 (unhide A)).mono ?_
    rintro e w17 ⟨rfl, b⟩
    replace A := hide ((unhide A).keep b)
    replace X := hide ((unhide X).keep b)
    replace HB := hide (below_via (unhide HB) b)
    clear b
    have s4 : (chkE z0 == chkE z0) = true := by simp
    generalize chkE z0 = ce at *
    go_wp2_with fail
    refine (from_any _ z0 w17 (unhide X) (unhide LA)).mono ?_
    rintro e w18 ⟨u4, rfl, g⟩
    replace A := hide ((unhide A).keep g.below)
    replace X := hide ((unhide X).keep g.below)
    replace HB := hide (below_via (unhide HB) g.below)
    have Ru4 := hide g.row
    clear g
    have hF := hide (fsame_any _ _ z0 z0 w18 (unhide Ru4) (unhide A))
    rw [sameF_refl] at hF
    go_wp2_with fail
    refine (unhide hF).mono ?_
    rintro e w19 ⟨rfl, n19, rfl⟩
    replace A := hide ((unhide A).later (w' := w18.drewN n19) (fun _ _ h => h))
    replace X := hide ((unhide X).later (w' := w18.drewN n19) (fun _ _ h => h))
    replace Ru4 := hide ((unhide Ru4).later (w' := w18.drewN n19) (fun _ _ h => h))
    replace HB := hide (below_drewN (unhide HB) n19)
    clear hF
    generalize w18.drewN n19 = v19 at *
    go_wp2_with fail
    go_ret
    exact ⟨rfl, unhide HB⟩
theorem walk (a0 : Option Addr) (l0 c0 : Nat) (z0 : List (Int × Int)) (a1 : Option Addr) (l1 c1 : Nat) (z1 : List (Int × Int)) (D : Int) (w : World) (h0 : RowF w (.slice a0 l0 c0) z0) (h1 : RowF w (.slice a1 l1 c1) z1) (_hD : (Lit.int .i64 D).wf = true) : Calls Try.prog 3 #[.slice a0 l0 c0, .slice a1 l1 c1, .int .i64 D] w fun e w' => e = .returned (.bool true) ∧ Below w.heap.size w w' := by
  have hal := hide alive_any
  have e0 := rowF_len h0
  have e1 := rowF_len h1
  by_cases q0 : (700 : Int) < (l0 : Int)
  · exact l_1 a0 l0 c0 a1 l1 c1 D (decide_eq_true q0) hal w
  · by_cases q1 : (700 : Int) < (l1 : Int)
    · exact l_2 a0 l0 c0 a1 l1 c1 D (decide_eq_false q0) (decide_eq_true q1) hal w
    · exact main_ a0 l0 c0 z0 a1 l1 c1 z1 D (decide_eq_false q0) (decide_eq_false q1) hal w (hide h0) (hide h1) (hide (by omega)) (hide (by omega))
theorem own : ownKnob Try.prog.godebug = none := by kernel_rfl
theorem laidOut : laidOutB Try.prog = true := by kernel_rfl
set_option linter.unusedVariables false in
set_option maxRecDepth 100000 in
theorem lifted (os : Os) (started : os.Started) (H : Type) (enc : TypeId × Value → H) :
    ReturnsInHanded {} Try.checked os 3 .any (Rows.flowMergesSpec.pre6 enc Try.prog Try.f3 Rows.flowMergesRow.domain false) (Rows.flowMergesSpec.post enc Try.prog Try.f3 false true false false) := by
  refine returnsInHanded_of_change (C := Try.checked) own started (by kernel_rfl) Try.func3
    (ChangeSpec.witness6 (enc := enc) (C := Try.checked) false ⟨#[], #[.slice none 0 0, .slice none 0 0, .int .i64 0], []⟩ 8 (by kernel_rfl) (by kernel_rfl) (by kernel_rfl) (by kernel_rfl)) ?_
  intro W base args ds gs before hval0 hW hcnd _
  have hval : ∀ (j : Nat) t v, Try.f3.params[j]? = some t → args[j]? = some v → Value.okWide Try.prog W .any base t v := hval0
  have hW' := hW
  obtain ⟨p, q, hA0, hV, rfl, hfz, hnd⟩ := hW
  have hA : DataW.TrodAll enc Try.prog W 0 (fun _ => true) true Try.f3.params.toList args.toList ds p := hA0
  rw [Try.params3] at hA hval
  obtain ⟨v0, vs0, d0, ds0, p0, q0, hargs, rfl, rfl, h0, r0⟩ := trodAll_cons hA
  obtain ⟨v1, vs1, d1, ds1, p1, q1, rfl, rfl, rfl, h1, r1⟩ := trodAll_cons r0
  obtain ⟨v2, vs2, d2, ds2, p2, q2, rfl, rfl, rfl, h2, r2⟩ := trodAll_cons r1
  obtain ⟨rfl, rfl, rfl⟩ := trodAll_nil r2
  obtain rfl : args = #[v0, v1, v2] := by cases args; simp_all
  obtain ⟨rfl, rfl⟩ := trodVars_none hV
  obtain ⟨a0, len0, cap0, rfl⟩ := okWide_slice Try.underlying22 (hval 0 22 v0 rfl rfl)
  have k0 := h0
  have lt0 : ∀ x ∈ p0, x.block < W.heap.size := by obtain ⟨m, hm⟩ := k0; exact DataW.trod_lt m _ _ _ hm
  obtain ⟨z0, w0⟩ : ∃ l : List (Int × Int), RowF W (.slice a0 len0 cap0) l := by
    obtain ⟨fuel, hf⟩ := h0
    exact rowF_open Try.underlying22 Try.underlying40 (by kernel_rfl) rfl rfl (by kernel_rfl) (by kernel_rfl) Try.underlying3 Try.underlying2 hf
  obtain ⟨a1, len1, cap1, rfl⟩ := okWide_slice Try.underlying22 (hval 1 22 v1 rfl rfl)
  have k1 := h1
  have lt1 : ∀ x ∈ p1, x.block < W.heap.size := by obtain ⟨m, hm⟩ := k1; exact DataW.trod_lt m _ _ _ hm
  obtain ⟨z1, w1⟩ : ∃ l : List (Int × Int), RowF W (.slice a1 len1 cap1) l := by
    obtain ⟨fuel, hf⟩ := h1
    exact rowF_open Try.underlying22 Try.underlying40 (by kernel_rfl) rfl rfl (by kernel_rfl) (by kernel_rfl) Try.underlying3 Try.underlying2 hf
  obtain ⟨a2, rfl, rfl, rfl, w2⟩ := open_int Try.underlying3 (hval 2 3 v2 rfl rfl) h2
  clear hA0 hval0
  refine (walk a0 len0 cap0 z0 a1 len1 cap1 z1 a2 W w0 w1 w2).mono fun e W' ⟨he, bel⟩ => ?_
  subst he
  exact ⟨_, rfl, _, _, _, [], _, [], hW', trodAll_mk1 (shut_bool Try.underlying4 _), (trodAll_cons_mk (Below.trod laidOut (by kernel_rfl) (of_decide_eq_true (by kernel_rfl)) k0 bel lt0) (trodAll_cons_mk (Below.trod laidOut (by kernel_rfl) (of_decide_eq_true (by kernel_rfl)) k1 bel lt1) (trodAll_cons_mk (shut_int Try.underlying3 w2) trodAll_mk0))), rfl, bel.frame _, fun h => by cases h⟩
theorem over : Rows.flowMergesRow.holds Try.pinned (OpenSpec.ofChange Rows.flowMergesSpec) :=
  OpenClaim.holds_of_wide 3 Try.f3 rfl rfl rfl rfl rfl rfl rfl ⟨rfl, rfl, rfl, rfl, rfl⟩ rfl rfl rfl rfl rfl (by kernel_rfl) Try.func3 (by kernel_rfl)
    (of_decide_eq_true (by kernel_rfl)) (by unfold Func.isWrapper; first | (rw [if_pos (by decide +kernel)]; kernel_rfl) | (rw [if_neg (by decide +kernel)]; exact ⟨rfl, rfl⟩))
    (fun os started H enc _ => lifted os started H enc)
/-- The statement. -/
theorem proved : Rows.FlowMergesSaid := over
#print axioms proved
end Go.Proofs.Ytkjbkppjebljpaa.flowMerges
namespace Go.Proofs.Ytkjbkppjebljpaa
theorem flowMerges_holds : Rows.FlowMergesSaid := flowMerges.proved
end Go.Proofs.Ytkjbkppjebljpaa
