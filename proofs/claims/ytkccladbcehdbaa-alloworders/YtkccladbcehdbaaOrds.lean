/- Proved here: AllowOrders: in whatever order changes stand, the stages end the same. No condition. -/
import Derived.Test.YtkccladbcehdbaaAl
import Derived.Test.YtkccladbcehdbaaAr
import Derived.Test.YtkccladbcehdbaaEq
import Derived.Test.YtkccladbcehdbaaLo
import Derived.Deep.RegionHeld
import Derived.Deep.Cut
import Derived.Deep.CutRange
namespace Go.Proofs.Ytkccladbcehdbaa.allowOrders
open Go.ChangeShapes Go.WideShapes Go.ChangeAt Go.RowKit
set_option linter.unusedVariables false
set_option linter.unusedSimpArgs false
theorem s_long (a b c : Int) (x : Option Addr) (n cap A : Nat) (d1 : decide ((500 : Int) < (n : Int)) = true) (hal : Hid Alive) (w : World) : Calls Try.prog 8 #[.agg #[.int .i64 a, .int .i64 b, .int .i64 c], .slice x n cap, .int .u8 (A : Int)] w fun e w' => e = .returned (.bool true) ∧ Below w.heap.size w w' := by
  have HB0 := hide (below1 w (.cells #[.int .i64 a, .int .i64 b, .int .i64 c] 22))
  go_enter Try.func8, Try.ntmps8
  go_wp2_with fail
  refine (unhide hal _).mono ?_
  rintro e w1 ⟨rfl, hb⟩
  replace hb := hide (below_via (unhide HB0) hb)
  go_wp2_with fail
  go_ret
  exact ⟨rfl, unhide hb⟩
set_option maxHeartbeats 16000000 in
theorem s_ok (a b c : Int) (x : Option Addr) (n cap A k : Nat) (l : List Ch) (d1 : decide ((500 : Int) < (n : Int)) = false) (hn : n ≤ 500) (hA : A ≤ 255) (ht : Int.tmod (A : Int) ((n : Int) + 1) = (k : Int)) (kn : (k : Int) ≤ (n : Int)) (kc : (k : Int) ≤ (cap : Int)) (hl : Hid (l.length ≤ 500)) (hl2 : Hid ((l.drop k).length ≤ 500)) (hl3 : Hid ((l.take k).length ≤ 500)) (hal : Hid Alive) (w : World) (hR : Hid (RowG 5 w (.slice x n cap) (l.map chL))) (hRlo : Hid (RowG 5 w (.slice (loA x k cap) (n - k) (cap - k)) ((l.drop k).map chL))) (hRhi : Hid (RowG 5 w (.slice x k cap) ((l.take k).map chL))) : Calls Try.prog 8 #[.agg #[.int .i64 a, .int .i64 b, .int .i64 c], .slice x n cap, .int .u8 (A : Int)] w fun e w' => e = .returned (.bool true) ∧ Below w.heap.size w w' := by
  have HO := hide (Blk.new w #[.int .i64 a, .int .i64 b, .int .i64 c] 22)
  replace hR := hide ((unhide hR).alloc (.cells #[.int .i64 a, .int .i64 b, .int .i64 c] 22))
  replace hRlo := hide ((unhide hRlo).alloc (.cells #[.int .i64 a, .int .i64 b, .int .i64 c] 22))
  replace hRhi := hide ((unhide hRhi).alloc (.cells #[.int .i64 a, .int .i64 b, .int .i64 c] 22))
  have hne : ((n : Int) + 1) ≠ 0 := by omega
  go_enter Try.func8, Try.ntmps8
  go_wp2_with fail
  refine (unhide hal _).mono ?_
  rintro e w1 ⟨rfl, hb⟩
  have HB := hide (below_via (below1 w _) hb)
  replace HO := hide ((show Blk _ _ _ _ from unhide HO).keep hb)
  have HR := hide ((show RowG _ _ _ _ from unhide hR).keep hb)
  have HRlo := hide ((show RowG _ _ _ _ from unhide hRlo).keep hb)
  have HRhi := hide ((show RowG _ _ _ _ from unhide hRhi).keep hb)
  clear hb hR hRlo hRhi hal
  go_wp2_with fail
  go_cut [8, 9] from 12 to 51 (fun t5 t6 wx => ∃ nb r s t e, t5 = .pointer (some ⟨nb, 0, none⟩) ∧ t6 = .int .i64 e ∧ Hid (Blk wx nb (cells18 r s t) 27) ∧ Hid (RollR a b c l r s t e) ∧ Hid (Below w1.heap.size w1 wx))
  case first =>
    refine wp_region_held_drew (S := fun W => Below w1.heap.size w1 W) (by kernel_rfl) (Below.refl _ _).drew (fun hS => ?_)
    generalize hV : w1.drew = V0 at *
    clear hV
    refine wpAnyH_take (i := 0) (v := .agg #[.int .i64 a, .int .i64 b, .int .i64 c]) rfl (by kernel_rfl) (by kernel_rfl) (by kernel_rfl) (fun _ _ _ h => h) (Or.inl ⟨by rfl, fun W hS => by have f0 := ((show Blk _ _ _ _ from unhide HO).keep hS).at 0 _ rfl; have f1 := ((show Blk _ _ _ _ from unhide HO).keep hS).at 1 _ rfl; have f2 := ((show Blk _ _ _ _ from unhide HO).keep hS).at 2 _ rfl; go_simp⟩) hS ?_
    refine wpAnyH_take (i := 1) (v := .slice x n cap) rfl (by kernel_rfl) (by kernel_rfl) (by kernel_rfl) (fun _ _ _ h => h) (Or.inl ⟨by rfl, fun W hS => by go_simp⟩) hS ?_
    refine wpAnyH_all (rs := [2, 7]) (by kernel_rfl) (by simp) (AllReadyH.cons (i := 2) rfl (fun KK hK => ?_) (AllReadyH.cons (i := 7) rfl (fun KK hK => ?_) AllReadyH.nil))
    · rw [if_pos (by rfl)]
      have HQ := hide (to_any _ _ V0 ((show RowG _ _ _ _ from unhide HR).keep hS) (by have := unhide hl; omega))
      have hzHG := hide hS.size
      have hS1 := hide hS
      clear hS
      go_wp2_with fail
      refine (unhide HQ).mono ?_
      rintro e Z1 ⟨uHG, rfl, hg⟩
      have hb := hg.below
      have HG := hide hg
      clear hg HQ
      have hS2 := hide (below_keep (unhide hS1) hb (unhide hS1).size)
      clear hS1 hb
      go_wp2_with fail
      refine hK.out _ _ (unhide hS2) (fun hS => ?_)
      clear hK hS2
      refine wpAnyH_all (rs := [3, 7]) (by kernel_rfl) (by simp) (AllReadyH.cons (i := 3) rfl (fun KK hK => ?_) (AllReadyH.cons (i := 7) rfl (fun KK hK => ?_) AllReadyH.nil))
      · rw [if_pos (by rfl)]
        have HQ := hide (roll_any Z1 _ a b c l ((show GrowG _ _ _ _ _ _ from unhide HG).row))
        have hS1 := hide hS
        clear hS
        go_wp2_with fail
        refine (unhide HQ).mono ?_
        rintro e Z2 ⟨r, s, t, e1, rfl, hb, hr⟩
        have HRR := hide hr
        clear hr HQ
        replace HG := hide ((show GrowG _ _ V0 _ _ _ from unhide HG).keep hb)
        have hS2 := hide (below_keep (unhide hS1) hb (unhide hS1).size)
        clear hS1 hb
        go_wp2_with fail
        refine hK.out _ _ (unhide hS2) (fun hS => ?_)
        clear hK hS2
        refine wpAnyH_take (i := 4) (v := .tuple #[.agg (cells18 r s t), .int .i64 e1]) rfl (by kernel_rfl) (by kernel_rfl) (by kernel_rfl) (fun _ _ _ h => h) (Or.inl ⟨by rfl, fun W hS => by go_simp⟩) hS ?_
        refine wpAnyH_take (i := 5) (v := .agg (cells18 r s t)) rfl (by kernel_rfl) (by kernel_rfl) (by kernel_rfl) (fun _ _ _ h => h) (Or.inl ⟨by rfl, fun W hS => by go_simp⟩) hS ?_
        refine wpAnyH_take (i := 6) (v := .int .i64 e1) rfl (by kernel_rfl) (by kernel_rfl) (by kernel_rfl) (fun _ _ _ h => h) (Or.inl ⟨by rfl, fun W hS => by go_simp⟩) hS ?_
        refine wpAnyH_all (rs := [7]) (by kernel_rfl) (by simp) (AllReadyH.cons (i := 7) rfl (fun KK hK => ?_) AllReadyH.nil)
        rw [if_pos (by rfl)]
        have HD := hide (Blk.new Z2 #[.int .i64 0, .int .i64 0, .int .i64 0, .int .i64 0, .int .i64 0, .int .i64 0, .int .i64 0, .int .i64 0, .int .i64 0, .int .i64 0, .int .i64 0, .int .i64 0, .int .i64 0, .int .i64 0, .int .i64 0, .int .i64 0, .int .i64 0, .int .i64 0] 27)
        have hlt := hide hS.size
        have hS1 := hide (below_keep hS (below1 Z2 (.cells #[.int .i64 0, .int .i64 0, .int .i64 0, .int .i64 0, .int .i64 0, .int .i64 0, .int .i64 0, .int .i64 0, .int .i64 0, .int .i64 0, .int .i64 0, .int .i64 0, .int .i64 0, .int .i64 0, .int .i64 0, .int .i64 0, .int .i64 0, .int .i64 0] 27)) hS.size)
        replace HG := hide ((show GrowG _ _ V0 _ _ _ from unhide HG).keep (below1 Z2 (.cells #[.int .i64 0, .int .i64 0, .int .i64 0, .int .i64 0, .int .i64 0, .int .i64 0, .int .i64 0, .int .i64 0, .int .i64 0, .int .i64 0, .int .i64 0, .int .i64 0, .int .i64 0, .int .i64 0, .int .i64 0, .int .i64 0, .int .i64 0, .int .i64 0] 27)))
        clear hS
        go_wp2_with fail
        refine hK.out _ _ (unhide hS1) (fun hS => ?_)
        clear hK hS1
        generalize Z2.alloc (.cells #[.int .i64 0, .int .i64 0, .int .i64 0, .int .i64 0, .int .i64 0, .int .i64 0, .int .i64 0, .int .i64 0, .int .i64 0, .int .i64 0, .int .i64 0, .int .i64 0, .int .i64 0, .int .i64 0, .int .i64 0, .int .i64 0, .int .i64 0, .int .i64 0] 27) = Z3 at *
        generalize Z2.heap.size = nb at *
        refine wpAnyH_all (rs := [8]) (by kernel_rfl) (by simp) (AllReadyH.cons (i := 8) rfl (fun KK hK => ?_) AllReadyH.nil)
        rw [if_pos (by rfl)]
        refine storeO_blk 27 _ _ rfl (show Blk _ _ _ _ from unhide HD) rfl rfl size27 rfl rfl rfl ?_
        intro Y1 k1 kp
        have hS1 := hide (kp.bel (unhide hlt) hS)
        have HX := hide k1
        clear hS kp k1 HD
        refine hK.out _ _ (unhide hS1) (fun hS => ?_)
        clear hK hS1
        refine wpAnyH_all (rs := [9]) (by kernel_rfl) (by simp) (AllReadyH.cons (i := 9) rfl (fun KK hK => ?_) AllReadyH.nil)
        rw [if_pos (by rfl)]
        have hS1 := hide hS
        clear hS
        go_wp2_with fail
        refine hK.out _ _ (unhide hS1) (fun hS => ?_)
        clear hK hS1
        refine wpAnyH_done (by kernel_rfl) ?_ _
        have hS1 := hide hS
        clear hS
        go_wp2_with fail
        go_meet
        exact ⟨_, r, s, t, e1, rfl, rfl, HX, HRR, hS1⟩
      · rw [if_pos (by rfl)]
        have HD := hide (Blk.new Z1 #[.int .i64 0, .int .i64 0, .int .i64 0, .int .i64 0, .int .i64 0, .int .i64 0, .int .i64 0, .int .i64 0, .int .i64 0, .int .i64 0, .int .i64 0, .int .i64 0, .int .i64 0, .int .i64 0, .int .i64 0, .int .i64 0, .int .i64 0, .int .i64 0] 27)
        have hlt := hide hS.size
        have hS1 := hide (below_keep hS (below1 Z1 (.cells #[.int .i64 0, .int .i64 0, .int .i64 0, .int .i64 0, .int .i64 0, .int .i64 0, .int .i64 0, .int .i64 0, .int .i64 0, .int .i64 0, .int .i64 0, .int .i64 0, .int .i64 0, .int .i64 0, .int .i64 0, .int .i64 0, .int .i64 0, .int .i64 0] 27)) hS.size)
        replace HG := hide ((show GrowG _ _ V0 _ _ _ from unhide HG).keep (below1 Z1 (.cells #[.int .i64 0, .int .i64 0, .int .i64 0, .int .i64 0, .int .i64 0, .int .i64 0, .int .i64 0, .int .i64 0, .int .i64 0, .int .i64 0, .int .i64 0, .int .i64 0, .int .i64 0, .int .i64 0, .int .i64 0, .int .i64 0, .int .i64 0, .int .i64 0] 27)))
        clear hS
        go_wp2_with fail
        refine hK.out _ _ (unhide hS1) (fun hS => ?_)
        clear hK hS1
        generalize Z1.alloc (.cells #[.int .i64 0, .int .i64 0, .int .i64 0, .int .i64 0, .int .i64 0, .int .i64 0, .int .i64 0, .int .i64 0, .int .i64 0, .int .i64 0, .int .i64 0, .int .i64 0, .int .i64 0, .int .i64 0, .int .i64 0, .int .i64 0, .int .i64 0, .int .i64 0] 27) = Z4 at *
        generalize Z1.heap.size = nb at *
        refine wpAnyH_all (rs := [3]) (by kernel_rfl) (by simp) (AllReadyH.cons (i := 3) rfl (fun KK hK => ?_) AllReadyH.nil)
        rw [if_pos (by rfl)]
        have HQ := hide (roll_any Z4 _ a b c l ((show GrowG _ _ _ _ _ _ from unhide HG).row))
        have hS1 := hide hS
        clear hS
        go_wp2_with fail
        refine (unhide HQ).mono ?_
        rintro e Z5 ⟨r, s, t, e1, rfl, hb, hr⟩
        have HRR := hide hr
        clear hr HQ
        replace HG := hide ((show GrowG _ _ V0 _ _ _ from unhide HG).keep hb)
        replace HD := hide ((show Blk _ _ _ _ from unhide HD).keep hb)
        have hS2 := hide (below_keep (unhide hS1) hb (unhide hS1).size)
        clear hS1 hb
        go_wp2_with fail
        refine hK.out _ _ (unhide hS2) (fun hS => ?_)
        clear hK hS2
        refine wpAnyH_take (i := 4) (v := .tuple #[.agg (cells18 r s t), .int .i64 e1]) rfl (by kernel_rfl) (by kernel_rfl) (by kernel_rfl) (fun _ _ _ h => h) (Or.inl ⟨by rfl, fun W hS => by go_simp⟩) hS ?_
        refine wpAnyH_take (i := 5) (v := .agg (cells18 r s t)) rfl (by kernel_rfl) (by kernel_rfl) (by kernel_rfl) (fun _ _ _ h => h) (Or.inl ⟨by rfl, fun W hS => by go_simp⟩) hS ?_
        refine wpAnyH_take (i := 6) (v := .int .i64 e1) rfl (by kernel_rfl) (by kernel_rfl) (by kernel_rfl) (fun _ _ _ h => h) (Or.inl ⟨by rfl, fun W hS => by go_simp⟩) hS ?_
        refine wpAnyH_all (rs := [8]) (by kernel_rfl) (by simp) (AllReadyH.cons (i := 8) rfl (fun KK hK => ?_) AllReadyH.nil)
        rw [if_pos (by rfl)]
        refine storeO_blk 27 _ _ rfl (show Blk _ _ _ _ from unhide HD) rfl rfl size27 rfl rfl rfl ?_
        intro Y1 k1 kp
        have hS1 := hide (kp.bel (unhide hlt) hS)
        have HX := hide k1
        clear hS kp k1 HD
        refine hK.out _ _ (unhide hS1) (fun hS => ?_)
        clear hK hS1
        refine wpAnyH_all (rs := [9]) (by kernel_rfl) (by simp) (AllReadyH.cons (i := 9) rfl (fun KK hK => ?_) AllReadyH.nil)
        rw [if_pos (by rfl)]
        have hS1 := hide hS
        clear hS
        go_wp2_with fail
        refine hK.out _ _ (unhide hS1) (fun hS => ?_)
        clear hK hS1
        refine wpAnyH_done (by kernel_rfl) ?_ _
        have hS1 := hide hS
        clear hS
        go_wp2_with fail
        go_meet
        exact ⟨_, r, s, t, e1, rfl, rfl, HX, HRR, hS1⟩
    · rw [if_pos (by rfl)]
      have HD := hide (Blk.new V0 #[.int .i64 0, .int .i64 0, .int .i64 0, .int .i64 0, .int .i64 0, .int .i64 0, .int .i64 0, .int .i64 0, .int .i64 0, .int .i64 0, .int .i64 0, .int .i64 0, .int .i64 0, .int .i64 0, .int .i64 0, .int .i64 0, .int .i64 0, .int .i64 0] 27)
      have hlt := hide hS.size
      have hS1 := hide (below_keep hS (below1 V0 (.cells #[.int .i64 0, .int .i64 0, .int .i64 0, .int .i64 0, .int .i64 0, .int .i64 0, .int .i64 0, .int .i64 0, .int .i64 0, .int .i64 0, .int .i64 0, .int .i64 0, .int .i64 0, .int .i64 0, .int .i64 0, .int .i64 0, .int .i64 0, .int .i64 0] 27)) hS.size)
      clear hS
      go_wp2_with fail
      refine hK.out _ _ (unhide hS1) (fun hS => ?_)
      clear hK hS1
      generalize V0.alloc (.cells #[.int .i64 0, .int .i64 0, .int .i64 0, .int .i64 0, .int .i64 0, .int .i64 0, .int .i64 0, .int .i64 0, .int .i64 0, .int .i64 0, .int .i64 0, .int .i64 0, .int .i64 0, .int .i64 0, .int .i64 0, .int .i64 0, .int .i64 0, .int .i64 0] 27) = Z6 at *
      generalize V0.heap.size = nb at *
      refine wpAnyH_all (rs := [2]) (by kernel_rfl) (by simp) (AllReadyH.cons (i := 2) rfl (fun KK hK => ?_) AllReadyH.nil)
      rw [if_pos (by rfl)]
      have HQ := hide (to_any _ _ Z6 ((show RowG _ _ _ _ from unhide HR).keep hS) (by have := unhide hl; omega))
      have hzHG := hide hS.size
      have hS1 := hide hS
      clear hS
      go_wp2_with fail
      refine (unhide HQ).mono ?_
      rintro e Z7 ⟨uHG, rfl, hg⟩
      have hb := hg.below
      have HG := hide hg
      clear hg HQ
      replace HD := hide ((show Blk _ _ _ _ from unhide HD).keep hb)
      have hS2 := hide (below_keep (unhide hS1) hb (unhide hS1).size)
      clear hS1 hb
      go_wp2_with fail
      refine hK.out _ _ (unhide hS2) (fun hS => ?_)
      clear hK hS2
      refine wpAnyH_all (rs := [3]) (by kernel_rfl) (by simp) (AllReadyH.cons (i := 3) rfl (fun KK hK => ?_) AllReadyH.nil)
      rw [if_pos (by rfl)]
      have HQ := hide (roll_any Z7 _ a b c l ((show GrowG _ _ _ _ _ _ from unhide HG).row))
      have hS1 := hide hS
      clear hS
      go_wp2_with fail
      refine (unhide HQ).mono ?_
      rintro e Z8 ⟨r, s, t, e1, rfl, hb, hr⟩
      have HRR := hide hr
      clear hr HQ
      replace HG := hide ((show GrowG _ _ Z6 _ _ _ from unhide HG).keep hb)
      replace HD := hide ((show Blk _ _ _ _ from unhide HD).keep hb)
      have hS2 := hide (below_keep (unhide hS1) hb (unhide hS1).size)
      clear hS1 hb
      go_wp2_with fail
      refine hK.out _ _ (unhide hS2) (fun hS => ?_)
      clear hK hS2
      refine wpAnyH_take (i := 4) (v := .tuple #[.agg (cells18 r s t), .int .i64 e1]) rfl (by kernel_rfl) (by kernel_rfl) (by kernel_rfl) (fun _ _ _ h => h) (Or.inl ⟨by rfl, fun W hS => by go_simp⟩) hS ?_
      refine wpAnyH_take (i := 5) (v := .agg (cells18 r s t)) rfl (by kernel_rfl) (by kernel_rfl) (by kernel_rfl) (fun _ _ _ h => h) (Or.inl ⟨by rfl, fun W hS => by go_simp⟩) hS ?_
      refine wpAnyH_take (i := 6) (v := .int .i64 e1) rfl (by kernel_rfl) (by kernel_rfl) (by kernel_rfl) (fun _ _ _ h => h) (Or.inl ⟨by rfl, fun W hS => by go_simp⟩) hS ?_
      refine wpAnyH_all (rs := [8]) (by kernel_rfl) (by simp) (AllReadyH.cons (i := 8) rfl (fun KK hK => ?_) AllReadyH.nil)
      rw [if_pos (by rfl)]
      refine storeO_blk 27 _ _ rfl (show Blk _ _ _ _ from unhide HD) rfl rfl size27 rfl rfl rfl ?_
      intro Y1 k1 kp
      have hS1 := hide (kp.bel (unhide hlt) hS)
      have HX := hide k1
      clear hS kp k1 HD
      refine hK.out _ _ (unhide hS1) (fun hS => ?_)
      clear hK hS1
      refine wpAnyH_all (rs := [9]) (by kernel_rfl) (by simp) (AllReadyH.cons (i := 9) rfl (fun KK hK => ?_) AllReadyH.nil)
      rw [if_pos (by rfl)]
      have hS1 := hide hS
      clear hS
      go_wp2_with fail
      refine hK.out _ _ (unhide hS1) (fun hS => ?_)
      clear hK hS1
      refine wpAnyH_done (by kernel_rfl) ?_ _
      have hS1 := hide hS
      clear hS
      go_wp2_with fail
      go_meet
      exact ⟨_, r, s, t, e1, rfl, rfl, HX, HRR, hS1⟩
  case rest =>
    obtain ⟨xb, r, s, t, e1, rfl, rfl, HX1, HRR1, HW⟩ := hcut
    replace HB := hide (below_via (unhide HB) (unhide HW))
    replace HO := hide ((show Blk _ _ _ _ from unhide HO).keep (unhide HW))
    replace HRlo := hide ((show RowG _ _ _ _ from unhide HRlo).keep (unhide HW))
    replace HRhi := hide ((show RowG _ _ _ _ from unhide HRhi).keep (unhide HW))
    clear HW HR
    generalize hwc : wc = w2 at *
    clear hwc
    go_wp2_with fail
    go_cut [10, 11] from 12 to 51 (fun t5 t6 wx => ∃ nb r s t e, t5 = .pointer (some ⟨nb, 0, none⟩) ∧ t6 = .int .i64 e ∧ Hid (Blk wx nb (cells18 r s t) 27) ∧ Hid (RollR a b c (l.drop k ++ l.take k) r s t e) ∧ Hid (Below w2.heap.size w2 wx))
    case first =>
      refine wp_region_held_drew (S := fun W => Below w2.heap.size w2 W) (by kernel_rfl) (Below.refl _ _).drew (fun hS => ?_)
      generalize hV : w2.drew = V0 at *
      clear hV
      refine wpAnyH_take (i := 0) (v := .agg #[.int .i64 a, .int .i64 b, .int .i64 c]) rfl (by kernel_rfl) (by kernel_rfl) (by kernel_rfl) (fun _ _ _ h => h) (Or.inl ⟨by rfl, fun W hS => by have f0 := ((show Blk _ _ _ _ from unhide HO).keep hS).at 0 _ rfl; have f1 := ((show Blk _ _ _ _ from unhide HO).keep hS).at 1 _ rfl; have f2 := ((show Blk _ _ _ _ from unhide HO).keep hS).at 2 _ rfl; go_simp⟩) hS ?_
      refine wpAnyH_take (i := 1) (v := .slice x n cap) rfl (by kernel_rfl) (by kernel_rfl) (by kernel_rfl) (fun _ _ _ h => h) (Or.inl ⟨by rfl, fun W hS => by go_simp⟩) hS ?_
      refine wpAnyH_take (i := 2) (v := .int .i64 (k : Int)) rfl (by kernel_rfl) (by kernel_rfl) (by kernel_rfl) (fun _ _ _ h => h) (Or.inl ⟨by rfl, fun W hS => by go_simp⟩) hS ?_
      refine wpAnyH_take (i := 3) (v := .slice (loA x k cap) (n - k) (cap - k)) rfl (by kernel_rfl) (by kernel_rfl) (by kernel_rfl) (fun _ _ _ h => h) (Or.inl ⟨by rfl, fun W hS => by have f1 := sl_lo x n cap k kn W; go_simp⟩) hS ?_
      refine wpAnyH_take (i := 5) (v := .slice x n cap) rfl (by kernel_rfl) (by kernel_rfl) (by kernel_rfl) (fun _ _ _ h => h) (Or.inl ⟨by rfl, fun W hS => by go_simp⟩) hS ?_
      refine wpAnyH_take (i := 6) (v := .int .i64 (k : Int)) rfl (by kernel_rfl) (by kernel_rfl) (by kernel_rfl) (fun _ _ _ h => h) (Or.inl ⟨by rfl, fun W hS => by go_simp⟩) hS ?_
      refine wpAnyH_take (i := 7) (v := .slice x k cap) rfl (by kernel_rfl) (by kernel_rfl) (by kernel_rfl) (fun _ _ _ h => h) (Or.inl ⟨by rfl, fun W hS => by have f1 := sl_hi x n cap k kc W; go_simp⟩) hS ?_
      refine wpAnyH_all (rs := [4, 14]) (by kernel_rfl) (by simp) (AllReadyH.cons (i := 4) rfl (fun KK hK => ?_) (AllReadyH.cons (i := 14) rfl (fun KK hK => ?_) AllReadyH.nil))
      · rw [if_pos (by rfl)]
        have HQ := hide (to_any _ _ V0 ((show RowG _ _ _ _ from unhide HRlo).keep hS) (by have := unhide hl2; omega))
        have hzHG := hide hS.size
        have hS1 := hide hS
        clear hS
        go_wp2_with fail
        refine (unhide HQ).mono ?_
        rintro e Z1 ⟨uHG, rfl, hg⟩
        have hb := hg.below
        have HG := hide hg
        clear hg HQ
        have hS2 := hide (below_keep (unhide hS1) hb (unhide hS1).size)
        clear hS1 hb
        go_wp2_with fail
        refine hK.out _ _ (unhide hS2) (fun hS => ?_)
        clear hK hS2
        refine wpAnyH_all (rs := [8, 14]) (by kernel_rfl) (by simp) (AllReadyH.cons (i := 8) rfl (fun KK hK => ?_) (AllReadyH.cons (i := 14) rfl (fun KK hK => ?_) AllReadyH.nil))
        · rw [if_pos (by rfl)]
          have HQ := hide (to_any _ _ Z1 ((show RowG _ _ _ _ from unhide HRhi).keep hS) (by have := unhide hl3; omega))
          have hzHG2 := hide hS.size
          have hS1 := hide hS
          clear hS
          go_wp2_with fail
          refine (unhide HQ).mono ?_
          rintro e Z2 ⟨uHG2, rfl, hg⟩
          have hb := hg.below
          have HG2 := hide hg
          clear hg HQ
          replace HG := hide ((show GrowG _ _ V0 _ _ _ from unhide HG).keep hb)
          have hS2 := hide (below_keep (unhide hS1) hb (unhide hS1).size)
          clear hS1 hb
          go_wp2_with fail
          refine hK.out _ _ (unhide hS2) (fun hS => ?_)
          clear hK hS2
          refine wpAnyH_all (rs := [9, 14]) (by kernel_rfl) (by simp) (AllReadyH.cons (i := 9) rfl (fun KK hK => ?_) (AllReadyH.cons (i := 14) rfl (fun KK hK => ?_) AllReadyH.nil))
          · rw [if_pos (by rfl)]
            have hS1 := hide hS
            clear hS
            have HR2 := hide (show GrowG _ _ _ _ _ _ from unhide HG2).row
            refine wp_pushA 50 31 5 40 (.agg #[.int .i64 0, .int .i64 0, .int .i64 0, .int .i64 0, .int .i64 0]) (by decide) (by decide) rfl Try.underlying31 info50 _ _ rfl _ Z2 uHG uHG2 ((l.drop k).map chL) ((l.take k).map chL) (show GrowG _ _ _ _ _ _ from unhide HG) rfl rfl (show RowG _ _ _ _ from unhide HR2) (by have := unhide hl2; have := unhide hl3; rw [List.length_map, List.length_map]; omega) ?_
            intro uHG3 Z3 hg hgr
            have HG3 := hide hg
            have hS2 := hide (below_push (unhide hS1) hgr (show GrowG _ _ _ _ _ _ from unhide HG).owns (unhide hzHG))
            clear hS1 hgr hg
            refine hK.out _ _ (unhide hS2) (fun hS => ?_)
            clear hK hS2
            refine wpAnyH_all (rs := [10, 14]) (by kernel_rfl) (by simp) (AllReadyH.cons (i := 10) rfl (fun KK hK => ?_) (AllReadyH.cons (i := 14) rfl (fun KK hK => ?_) AllReadyH.nil))
            · rw [if_pos (by rfl)]
              have HQ := hide (roll_any Z3 _ a b c (l.drop k ++ l.take k) ((by have q := (show GrowG _ _ _ _ _ _ from unhide HG3).row; rw [← List.map_append] at q; exact q)))
              have hS1 := hide hS
              clear hS
              go_wp2_with fail
              refine (unhide HQ).mono ?_
              rintro e Z4 ⟨r, s, t, e1, rfl, hb, hr⟩
              have HRR := hide hr
              clear hr HQ
              replace HG3 := hide ((show GrowG _ _ _ _ _ _ from unhide HG3).keep hb)
              have hS2 := hide (below_keep (unhide hS1) hb (unhide hS1).size)
              clear hS1 hb
              go_wp2_with fail
              refine hK.out _ _ (unhide hS2) (fun hS => ?_)
              clear hK hS2
              refine wpAnyH_take (i := 11) (v := .tuple #[.agg (cells18 r s t), .int .i64 e1]) rfl (by kernel_rfl) (by kernel_rfl) (by kernel_rfl) (fun _ _ _ h => h) (Or.inl ⟨by rfl, fun W hS => by go_simp⟩) hS ?_
              refine wpAnyH_take (i := 12) (v := .agg (cells18 r s t)) rfl (by kernel_rfl) (by kernel_rfl) (by kernel_rfl) (fun _ _ _ h => h) (Or.inl ⟨by rfl, fun W hS => by go_simp⟩) hS ?_
              refine wpAnyH_take (i := 13) (v := .int .i64 e1) rfl (by kernel_rfl) (by kernel_rfl) (by kernel_rfl) (fun _ _ _ h => h) (Or.inl ⟨by rfl, fun W hS => by go_simp⟩) hS ?_
              refine wpAnyH_all (rs := [14]) (by kernel_rfl) (by simp) (AllReadyH.cons (i := 14) rfl (fun KK hK => ?_) AllReadyH.nil)
              rw [if_pos (by rfl)]
              have HD := hide (Blk.new Z4 #[.int .i64 0, .int .i64 0, .int .i64 0, .int .i64 0, .int .i64 0, .int .i64 0, .int .i64 0, .int .i64 0, .int .i64 0, .int .i64 0, .int .i64 0, .int .i64 0, .int .i64 0, .int .i64 0, .int .i64 0, .int .i64 0, .int .i64 0, .int .i64 0] 27)
              have hlt := hide hS.size
              have hS1 := hide (below_keep hS (below1 Z4 (.cells #[.int .i64 0, .int .i64 0, .int .i64 0, .int .i64 0, .int .i64 0, .int .i64 0, .int .i64 0, .int .i64 0, .int .i64 0, .int .i64 0, .int .i64 0, .int .i64 0, .int .i64 0, .int .i64 0, .int .i64 0, .int .i64 0, .int .i64 0, .int .i64 0] 27)) hS.size)
              replace HG3 := hide ((show GrowG _ _ _ _ _ _ from unhide HG3).keep (below1 Z4 (.cells #[.int .i64 0, .int .i64 0, .int .i64 0, .int .i64 0, .int .i64 0, .int .i64 0, .int .i64 0, .int .i64 0, .int .i64 0, .int .i64 0, .int .i64 0, .int .i64 0, .int .i64 0, .int .i64 0, .int .i64 0, .int .i64 0, .int .i64 0, .int .i64 0] 27)))
              clear hS
              go_wp2_with fail
              refine hK.out _ _ (unhide hS1) (fun hS => ?_)
              clear hK hS1
              generalize Z4.alloc (.cells #[.int .i64 0, .int .i64 0, .int .i64 0, .int .i64 0, .int .i64 0, .int .i64 0, .int .i64 0, .int .i64 0, .int .i64 0, .int .i64 0, .int .i64 0, .int .i64 0, .int .i64 0, .int .i64 0, .int .i64 0, .int .i64 0, .int .i64 0, .int .i64 0] 27) = Z5 at *
              generalize Z4.heap.size = nb at *
              refine wpAnyH_all (rs := [15]) (by kernel_rfl) (by simp) (AllReadyH.cons (i := 15) rfl (fun KK hK => ?_) AllReadyH.nil)
              rw [if_pos (by rfl)]
              refine storeO_blk 27 _ _ rfl (show Blk _ _ _ _ from unhide HD) rfl rfl size27 rfl rfl rfl ?_
              intro Y1 k1 kp
              have hS1 := hide (kp.bel (unhide hlt) hS)
              have HX := hide k1
              clear hS kp k1 HD
              refine hK.out _ _ (unhide hS1) (fun hS => ?_)
              clear hK hS1
              refine wpAnyH_all (rs := [16]) (by kernel_rfl) (by simp) (AllReadyH.cons (i := 16) rfl (fun KK hK => ?_) AllReadyH.nil)
              rw [if_pos (by rfl)]
              have hS1 := hide hS
              clear hS
              go_wp2_with fail
              refine hK.out _ _ (unhide hS1) (fun hS => ?_)
              clear hK hS1
              refine wpAnyH_done (by kernel_rfl) ?_ _
              have hS1 := hide hS
              clear hS
              go_wp2_with fail
              go_meet
              exact ⟨_, r, s, t, e1, rfl, rfl, HX, HRR, hS1⟩
            · rw [if_pos (by rfl)]
              have HD := hide (Blk.new Z3 #[.int .i64 0, .int .i64 0, .int .i64 0, .int .i64 0, .int .i64 0, .int .i64 0, .int .i64 0, .int .i64 0, .int .i64 0, .int .i64 0, .int .i64 0, .int .i64 0, .int .i64 0, .int .i64 0, .int .i64 0, .int .i64 0, .int .i64 0, .int .i64 0] 27)
              have hlt := hide hS.size
              have hS1 := hide (below_keep hS (below1 Z3 (.cells #[.int .i64 0, .int .i64 0, .int .i64 0, .int .i64 0, .int .i64 0, .int .i64 0, .int .i64 0, .int .i64 0, .int .i64 0, .int .i64 0, .int .i64 0, .int .i64 0, .int .i64 0, .int .i64 0, .int .i64 0, .int .i64 0, .int .i64 0, .int .i64 0] 27)) hS.size)
              replace HG3 := hide ((show GrowG _ _ _ _ _ _ from unhide HG3).keep (below1 Z3 (.cells #[.int .i64 0, .int .i64 0, .int .i64 0, .int .i64 0, .int .i64 0, .int .i64 0, .int .i64 0, .int .i64 0, .int .i64 0, .int .i64 0, .int .i64 0, .int .i64 0, .int .i64 0, .int .i64 0, .int .i64 0, .int .i64 0, .int .i64 0, .int .i64 0] 27)))
              clear hS
              go_wp2_with fail
              refine hK.out _ _ (unhide hS1) (fun hS => ?_)
              clear hK hS1
              generalize Z3.alloc (.cells #[.int .i64 0, .int .i64 0, .int .i64 0, .int .i64 0, .int .i64 0, .int .i64 0, .int .i64 0, .int .i64 0, .int .i64 0, .int .i64 0, .int .i64 0, .int .i64 0, .int .i64 0, .int .i64 0, .int .i64 0, .int .i64 0, .int .i64 0, .int .i64 0] 27) = Z6 at *
              generalize Z3.heap.size = nb at *
              refine wpAnyH_all (rs := [10]) (by kernel_rfl) (by simp) (AllReadyH.cons (i := 10) rfl (fun KK hK => ?_) AllReadyH.nil)
              rw [if_pos (by rfl)]
              have HQ := hide (roll_any Z6 _ a b c (l.drop k ++ l.take k) ((by have q := (show GrowG _ _ _ _ _ _ from unhide HG3).row; rw [← List.map_append] at q; exact q)))
              have hS1 := hide hS
              clear hS
              go_wp2_with fail
              refine (unhide HQ).mono ?_
              rintro e Z7 ⟨r, s, t, e1, rfl, hb, hr⟩
              have HRR := hide hr
              clear hr HQ
              replace HG3 := hide ((show GrowG _ _ _ _ _ _ from unhide HG3).keep hb)
              replace HD := hide ((show Blk _ _ _ _ from unhide HD).keep hb)
              have hS2 := hide (below_keep (unhide hS1) hb (unhide hS1).size)
              clear hS1 hb
              go_wp2_with fail
              refine hK.out _ _ (unhide hS2) (fun hS => ?_)
              clear hK hS2
              refine wpAnyH_take (i := 11) (v := .tuple #[.agg (cells18 r s t), .int .i64 e1]) rfl (by kernel_rfl) (by kernel_rfl) (by kernel_rfl) (fun _ _ _ h => h) (Or.inl ⟨by rfl, fun W hS => by go_simp⟩) hS ?_
              refine wpAnyH_take (i := 12) (v := .agg (cells18 r s t)) rfl (by kernel_rfl) (by kernel_rfl) (by kernel_rfl) (fun _ _ _ h => h) (Or.inl ⟨by rfl, fun W hS => by go_simp⟩) hS ?_
              refine wpAnyH_take (i := 13) (v := .int .i64 e1) rfl (by kernel_rfl) (by kernel_rfl) (by kernel_rfl) (fun _ _ _ h => h) (Or.inl ⟨by rfl, fun W hS => by go_simp⟩) hS ?_
              refine wpAnyH_all (rs := [15]) (by kernel_rfl) (by simp) (AllReadyH.cons (i := 15) rfl (fun KK hK => ?_) AllReadyH.nil)
              rw [if_pos (by rfl)]
              refine storeO_blk 27 _ _ rfl (show Blk _ _ _ _ from unhide HD) rfl rfl size27 rfl rfl rfl ?_
              intro Y1 k1 kp
              have hS1 := hide (kp.bel (unhide hlt) hS)
              have HX := hide k1
              clear hS kp k1 HD
              refine hK.out _ _ (unhide hS1) (fun hS => ?_)
              clear hK hS1
              refine wpAnyH_all (rs := [16]) (by kernel_rfl) (by simp) (AllReadyH.cons (i := 16) rfl (fun KK hK => ?_) AllReadyH.nil)
              rw [if_pos (by rfl)]
              have hS1 := hide hS
              clear hS
              go_wp2_with fail
              refine hK.out _ _ (unhide hS1) (fun hS => ?_)
              clear hK hS1
              refine wpAnyH_done (by kernel_rfl) ?_ _
              have hS1 := hide hS
              clear hS
              go_wp2_with fail
              go_meet
              exact ⟨_, r, s, t, e1, rfl, rfl, HX, HRR, hS1⟩
          · rw [if_pos (by rfl)]
            have HD := hide (Blk.new Z2 #[.int .i64 0, .int .i64 0, .int .i64 0, .int .i64 0, .int .i64 0, .int .i64 0, .int .i64 0, .int .i64 0, .int .i64 0, .int .i64 0, .int .i64 0, .int .i64 0, .int .i64 0, .int .i64 0, .int .i64 0, .int .i64 0, .int .i64 0, .int .i64 0] 27)
            have hlt := hide hS.size
            have hS1 := hide (below_keep hS (below1 Z2 (.cells #[.int .i64 0, .int .i64 0, .int .i64 0, .int .i64 0, .int .i64 0, .int .i64 0, .int .i64 0, .int .i64 0, .int .i64 0, .int .i64 0, .int .i64 0, .int .i64 0, .int .i64 0, .int .i64 0, .int .i64 0, .int .i64 0, .int .i64 0, .int .i64 0] 27)) hS.size)
            have hneHG : Hid (∀ j, uHG.ownBlock = some j → j ≠ Z2.heap.size) := hide (fun j hj => by have := ((show GrowG _ _ _ _ _ _ from unhide HG).owns.lt j hj).2; omega)
            replace HG := hide ((show GrowG _ _ V0 _ _ _ from unhide HG).keep (below1 Z2 (.cells #[.int .i64 0, .int .i64 0, .int .i64 0, .int .i64 0, .int .i64 0, .int .i64 0, .int .i64 0, .int .i64 0, .int .i64 0, .int .i64 0, .int .i64 0, .int .i64 0, .int .i64 0, .int .i64 0, .int .i64 0, .int .i64 0, .int .i64 0, .int .i64 0] 27)))
            replace HG2 := hide ((show GrowG _ _ Z1 _ _ _ from unhide HG2).keep (below1 Z2 (.cells #[.int .i64 0, .int .i64 0, .int .i64 0, .int .i64 0, .int .i64 0, .int .i64 0, .int .i64 0, .int .i64 0, .int .i64 0, .int .i64 0, .int .i64 0, .int .i64 0, .int .i64 0, .int .i64 0, .int .i64 0, .int .i64 0, .int .i64 0, .int .i64 0] 27)))
            clear hS
            go_wp2_with fail
            refine hK.out _ _ (unhide hS1) (fun hS => ?_)
            clear hK hS1
            generalize Z2.alloc (.cells #[.int .i64 0, .int .i64 0, .int .i64 0, .int .i64 0, .int .i64 0, .int .i64 0, .int .i64 0, .int .i64 0, .int .i64 0, .int .i64 0, .int .i64 0, .int .i64 0, .int .i64 0, .int .i64 0, .int .i64 0, .int .i64 0, .int .i64 0, .int .i64 0] 27) = Z8 at *
            generalize Z2.heap.size = nb at *
            refine wpAnyH_all (rs := [9]) (by kernel_rfl) (by simp) (AllReadyH.cons (i := 9) rfl (fun KK hK => ?_) AllReadyH.nil)
            rw [if_pos (by rfl)]
            have hS1 := hide hS
            clear hS
            have HR2 := hide (show GrowG _ _ _ _ _ _ from unhide HG2).row
            refine wp_pushA 50 31 5 40 (.agg #[.int .i64 0, .int .i64 0, .int .i64 0, .int .i64 0, .int .i64 0]) (by decide) (by decide) rfl Try.underlying31 info50 _ _ rfl _ Z8 uHG uHG2 ((l.drop k).map chL) ((l.take k).map chL) (show GrowG _ _ _ _ _ _ from unhide HG) rfl rfl (show RowG _ _ _ _ from unhide HR2) (by have := unhide hl2; have := unhide hl3; rw [List.length_map, List.length_map]; omega) ?_
            intro uHG3 Z9 hg hgr
            have HG3 := hide hg
            have HD1 := hide (blk_kept hgr (show Blk _ _ _ _ from unhide HD) (unhide hneHG))
            have hS2 := hide (below_push (unhide hS1) hgr (show GrowG _ _ _ _ _ _ from unhide HG).owns (unhide hzHG))
            clear hS1 hgr hg
            have HD := HD1
            clear HD1
            refine hK.out _ _ (unhide hS2) (fun hS => ?_)
            clear hK hS2
            refine wpAnyH_all (rs := [10]) (by kernel_rfl) (by simp) (AllReadyH.cons (i := 10) rfl (fun KK hK => ?_) AllReadyH.nil)
            rw [if_pos (by rfl)]
            have HQ := hide (roll_any Z9 _ a b c (l.drop k ++ l.take k) ((by have q := (show GrowG _ _ _ _ _ _ from unhide HG3).row; rw [← List.map_append] at q; exact q)))
            have hS1 := hide hS
            clear hS
            go_wp2_with fail
            refine (unhide HQ).mono ?_
            rintro e Z10 ⟨r, s, t, e1, rfl, hb, hr⟩
            have HRR := hide hr
            clear hr HQ
            replace HG3 := hide ((show GrowG _ _ _ _ _ _ from unhide HG3).keep hb)
            replace HD := hide ((show Blk _ _ _ _ from unhide HD).keep hb)
            have hS2 := hide (below_keep (unhide hS1) hb (unhide hS1).size)
            clear hS1 hb
            go_wp2_with fail
            refine hK.out _ _ (unhide hS2) (fun hS => ?_)
            clear hK hS2
            refine wpAnyH_take (i := 11) (v := .tuple #[.agg (cells18 r s t), .int .i64 e1]) rfl (by kernel_rfl) (by kernel_rfl) (by kernel_rfl) (fun _ _ _ h => h) (Or.inl ⟨by rfl, fun W hS => by go_simp⟩) hS ?_
            refine wpAnyH_take (i := 12) (v := .agg (cells18 r s t)) rfl (by kernel_rfl) (by kernel_rfl) (by kernel_rfl) (fun _ _ _ h => h) (Or.inl ⟨by rfl, fun W hS => by go_simp⟩) hS ?_
            refine wpAnyH_take (i := 13) (v := .int .i64 e1) rfl (by kernel_rfl) (by kernel_rfl) (by kernel_rfl) (fun _ _ _ h => h) (Or.inl ⟨by rfl, fun W hS => by go_simp⟩) hS ?_
            refine wpAnyH_all (rs := [15]) (by kernel_rfl) (by simp) (AllReadyH.cons (i := 15) rfl (fun KK hK => ?_) AllReadyH.nil)
            rw [if_pos (by rfl)]
            refine storeO_blk 27 _ _ rfl (show Blk _ _ _ _ from unhide HD) rfl rfl size27 rfl rfl rfl ?_
            intro Y1 k1 kp
            have hS1 := hide (kp.bel (unhide hlt) hS)
            have HX := hide k1
            clear hS kp k1 HD
            refine hK.out _ _ (unhide hS1) (fun hS => ?_)
            clear hK hS1
            refine wpAnyH_all (rs := [16]) (by kernel_rfl) (by simp) (AllReadyH.cons (i := 16) rfl (fun KK hK => ?_) AllReadyH.nil)
            rw [if_pos (by rfl)]
            have hS1 := hide hS
            clear hS
            go_wp2_with fail
            refine hK.out _ _ (unhide hS1) (fun hS => ?_)
            clear hK hS1
            refine wpAnyH_done (by kernel_rfl) ?_ _
            have hS1 := hide hS
            clear hS
            go_wp2_with fail
            go_meet
            exact ⟨_, r, s, t, e1, rfl, rfl, HX, HRR, hS1⟩
        · rw [if_pos (by rfl)]
          have HD := hide (Blk.new Z1 #[.int .i64 0, .int .i64 0, .int .i64 0, .int .i64 0, .int .i64 0, .int .i64 0, .int .i64 0, .int .i64 0, .int .i64 0, .int .i64 0, .int .i64 0, .int .i64 0, .int .i64 0, .int .i64 0, .int .i64 0, .int .i64 0, .int .i64 0, .int .i64 0] 27)
          have hlt := hide hS.size
          have hS1 := hide (below_keep hS (below1 Z1 (.cells #[.int .i64 0, .int .i64 0, .int .i64 0, .int .i64 0, .int .i64 0, .int .i64 0, .int .i64 0, .int .i64 0, .int .i64 0, .int .i64 0, .int .i64 0, .int .i64 0, .int .i64 0, .int .i64 0, .int .i64 0, .int .i64 0, .int .i64 0, .int .i64 0] 27)) hS.size)
          have hneHG : Hid (∀ j, uHG.ownBlock = some j → j ≠ Z1.heap.size) := hide (fun j hj => by have := ((show GrowG _ _ _ _ _ _ from unhide HG).owns.lt j hj).2; omega)
          replace HG := hide ((show GrowG _ _ V0 _ _ _ from unhide HG).keep (below1 Z1 (.cells #[.int .i64 0, .int .i64 0, .int .i64 0, .int .i64 0, .int .i64 0, .int .i64 0, .int .i64 0, .int .i64 0, .int .i64 0, .int .i64 0, .int .i64 0, .int .i64 0, .int .i64 0, .int .i64 0, .int .i64 0, .int .i64 0, .int .i64 0, .int .i64 0] 27)))
          clear hS
          go_wp2_with fail
          refine hK.out _ _ (unhide hS1) (fun hS => ?_)
          clear hK hS1
          generalize Z1.alloc (.cells #[.int .i64 0, .int .i64 0, .int .i64 0, .int .i64 0, .int .i64 0, .int .i64 0, .int .i64 0, .int .i64 0, .int .i64 0, .int .i64 0, .int .i64 0, .int .i64 0, .int .i64 0, .int .i64 0, .int .i64 0, .int .i64 0, .int .i64 0, .int .i64 0] 27) = Z11 at *
          generalize Z1.heap.size = nb at *
          refine wpAnyH_all (rs := [8]) (by kernel_rfl) (by simp) (AllReadyH.cons (i := 8) rfl (fun KK hK => ?_) AllReadyH.nil)
          rw [if_pos (by rfl)]
          have HQ := hide (to_any _ _ Z11 ((show RowG _ _ _ _ from unhide HRhi).keep hS) (by have := unhide hl3; omega))
          have hzHG2 := hide hS.size
          have hS1 := hide hS
          clear hS
          go_wp2_with fail
          refine (unhide HQ).mono ?_
          rintro e Z12 ⟨uHG2, rfl, hg⟩
          have hb := hg.below
          have HG2 := hide hg
          clear hg HQ
          replace HG := hide ((show GrowG _ _ V0 _ _ _ from unhide HG).keep hb)
          replace HD := hide ((show Blk _ _ _ _ from unhide HD).keep hb)
          have hS2 := hide (below_keep (unhide hS1) hb (unhide hS1).size)
          clear hS1 hb
          go_wp2_with fail
          refine hK.out _ _ (unhide hS2) (fun hS => ?_)
          clear hK hS2
          refine wpAnyH_all (rs := [9]) (by kernel_rfl) (by simp) (AllReadyH.cons (i := 9) rfl (fun KK hK => ?_) AllReadyH.nil)
          rw [if_pos (by rfl)]
          have hS1 := hide hS
          clear hS
          have HR2 := hide (show GrowG _ _ _ _ _ _ from unhide HG2).row
          refine wp_pushA 50 31 5 40 (.agg #[.int .i64 0, .int .i64 0, .int .i64 0, .int .i64 0, .int .i64 0]) (by decide) (by decide) rfl Try.underlying31 info50 _ _ rfl _ Z12 uHG uHG2 ((l.drop k).map chL) ((l.take k).map chL) (show GrowG _ _ _ _ _ _ from unhide HG) rfl rfl (show RowG _ _ _ _ from unhide HR2) (by have := unhide hl2; have := unhide hl3; rw [List.length_map, List.length_map]; omega) ?_
          intro uHG3 Z13 hg hgr
          have HG3 := hide hg
          have HD1 := hide (blk_kept hgr (show Blk _ _ _ _ from unhide HD) (unhide hneHG))
          have hS2 := hide (below_push (unhide hS1) hgr (show GrowG _ _ _ _ _ _ from unhide HG).owns (unhide hzHG))
          clear hS1 hgr hg
          have HD := HD1
          clear HD1
          refine hK.out _ _ (unhide hS2) (fun hS => ?_)
          clear hK hS2
          refine wpAnyH_all (rs := [10]) (by kernel_rfl) (by simp) (AllReadyH.cons (i := 10) rfl (fun KK hK => ?_) AllReadyH.nil)
          rw [if_pos (by rfl)]
          have HQ := hide (roll_any Z13 _ a b c (l.drop k ++ l.take k) ((by have q := (show GrowG _ _ _ _ _ _ from unhide HG3).row; rw [← List.map_append] at q; exact q)))
          have hS1 := hide hS
          clear hS
          go_wp2_with fail
          refine (unhide HQ).mono ?_
          rintro e Z14 ⟨r, s, t, e1, rfl, hb, hr⟩
          have HRR := hide hr
          clear hr HQ
          replace HG3 := hide ((show GrowG _ _ _ _ _ _ from unhide HG3).keep hb)
          replace HD := hide ((show Blk _ _ _ _ from unhide HD).keep hb)
          have hS2 := hide (below_keep (unhide hS1) hb (unhide hS1).size)
          clear hS1 hb
          go_wp2_with fail
          refine hK.out _ _ (unhide hS2) (fun hS => ?_)
          clear hK hS2
          refine wpAnyH_take (i := 11) (v := .tuple #[.agg (cells18 r s t), .int .i64 e1]) rfl (by kernel_rfl) (by kernel_rfl) (by kernel_rfl) (fun _ _ _ h => h) (Or.inl ⟨by rfl, fun W hS => by go_simp⟩) hS ?_
          refine wpAnyH_take (i := 12) (v := .agg (cells18 r s t)) rfl (by kernel_rfl) (by kernel_rfl) (by kernel_rfl) (fun _ _ _ h => h) (Or.inl ⟨by rfl, fun W hS => by go_simp⟩) hS ?_
          refine wpAnyH_take (i := 13) (v := .int .i64 e1) rfl (by kernel_rfl) (by kernel_rfl) (by kernel_rfl) (fun _ _ _ h => h) (Or.inl ⟨by rfl, fun W hS => by go_simp⟩) hS ?_
          refine wpAnyH_all (rs := [15]) (by kernel_rfl) (by simp) (AllReadyH.cons (i := 15) rfl (fun KK hK => ?_) AllReadyH.nil)
          rw [if_pos (by rfl)]
          refine storeO_blk 27 _ _ rfl (show Blk _ _ _ _ from unhide HD) rfl rfl size27 rfl rfl rfl ?_
          intro Y1 k1 kp
          have hS1 := hide (kp.bel (unhide hlt) hS)
          have HX := hide k1
          clear hS kp k1 HD
          refine hK.out _ _ (unhide hS1) (fun hS => ?_)
          clear hK hS1
          refine wpAnyH_all (rs := [16]) (by kernel_rfl) (by simp) (AllReadyH.cons (i := 16) rfl (fun KK hK => ?_) AllReadyH.nil)
          rw [if_pos (by rfl)]
          have hS1 := hide hS
          clear hS
          go_wp2_with fail
          refine hK.out _ _ (unhide hS1) (fun hS => ?_)
          clear hK hS1
          refine wpAnyH_done (by kernel_rfl) ?_ _
          have hS1 := hide hS
          clear hS
          go_wp2_with fail
          go_meet
          exact ⟨_, r, s, t, e1, rfl, rfl, HX, HRR, hS1⟩
      · rw [if_pos (by rfl)]
        have HD := hide (Blk.new V0 #[.int .i64 0, .int .i64 0, .int .i64 0, .int .i64 0, .int .i64 0, .int .i64 0, .int .i64 0, .int .i64 0, .int .i64 0, .int .i64 0, .int .i64 0, .int .i64 0, .int .i64 0, .int .i64 0, .int .i64 0, .int .i64 0, .int .i64 0, .int .i64 0] 27)
        have hlt := hide hS.size
        have hS1 := hide (below_keep hS (below1 V0 (.cells #[.int .i64 0, .int .i64 0, .int .i64 0, .int .i64 0, .int .i64 0, .int .i64 0, .int .i64 0, .int .i64 0, .int .i64 0, .int .i64 0, .int .i64 0, .int .i64 0, .int .i64 0, .int .i64 0, .int .i64 0, .int .i64 0, .int .i64 0, .int .i64 0] 27)) hS.size)
        clear hS
        go_wp2_with fail
        refine hK.out _ _ (unhide hS1) (fun hS => ?_)
        clear hK hS1
        generalize V0.alloc (.cells #[.int .i64 0, .int .i64 0, .int .i64 0, .int .i64 0, .int .i64 0, .int .i64 0, .int .i64 0, .int .i64 0, .int .i64 0, .int .i64 0, .int .i64 0, .int .i64 0, .int .i64 0, .int .i64 0, .int .i64 0, .int .i64 0, .int .i64 0, .int .i64 0] 27) = Z15 at *
        generalize V0.heap.size = nb at *
        refine wpAnyH_all (rs := [4]) (by kernel_rfl) (by simp) (AllReadyH.cons (i := 4) rfl (fun KK hK => ?_) AllReadyH.nil)
        rw [if_pos (by rfl)]
        have HQ := hide (to_any _ _ Z15 ((show RowG _ _ _ _ from unhide HRlo).keep hS) (by have := unhide hl2; omega))
        have hzHG := hide hS.size
        have hS1 := hide hS
        clear hS
        go_wp2_with fail
        refine (unhide HQ).mono ?_
        rintro e Z16 ⟨uHG, rfl, hg⟩
        have hb := hg.below
        have hneHG : Hid (∀ j, uHG.ownBlock = some j → j ≠ nb) := hide (fun j hj => by have := (hg.owns.lt j hj).1; have := (show Blk _ _ _ _ from unhide HD).lt; omega)
        have HG := hide hg
        clear hg HQ
        replace HD := hide ((show Blk _ _ _ _ from unhide HD).keep hb)
        have hS2 := hide (below_keep (unhide hS1) hb (unhide hS1).size)
        clear hS1 hb
        go_wp2_with fail
        refine hK.out _ _ (unhide hS2) (fun hS => ?_)
        clear hK hS2
        refine wpAnyH_all (rs := [8]) (by kernel_rfl) (by simp) (AllReadyH.cons (i := 8) rfl (fun KK hK => ?_) AllReadyH.nil)
        rw [if_pos (by rfl)]
        have HQ := hide (to_any _ _ Z16 ((show RowG _ _ _ _ from unhide HRhi).keep hS) (by have := unhide hl3; omega))
        have hzHG2 := hide hS.size
        have hS1 := hide hS
        clear hS
        go_wp2_with fail
        refine (unhide HQ).mono ?_
        rintro e Z17 ⟨uHG2, rfl, hg⟩
        have hb := hg.below
        have HG2 := hide hg
        clear hg HQ
        replace HG := hide ((show GrowG _ _ Z15 _ _ _ from unhide HG).keep hb)
        replace HD := hide ((show Blk _ _ _ _ from unhide HD).keep hb)
        have hS2 := hide (below_keep (unhide hS1) hb (unhide hS1).size)
        clear hS1 hb
        go_wp2_with fail
        refine hK.out _ _ (unhide hS2) (fun hS => ?_)
        clear hK hS2
        refine wpAnyH_all (rs := [9]) (by kernel_rfl) (by simp) (AllReadyH.cons (i := 9) rfl (fun KK hK => ?_) AllReadyH.nil)
        rw [if_pos (by rfl)]
        have hS1 := hide hS
        clear hS
        have HR2 := hide (show GrowG _ _ _ _ _ _ from unhide HG2).row
        refine wp_pushA 50 31 5 40 (.agg #[.int .i64 0, .int .i64 0, .int .i64 0, .int .i64 0, .int .i64 0]) (by decide) (by decide) rfl Try.underlying31 info50 _ _ rfl _ Z17 uHG uHG2 ((l.drop k).map chL) ((l.take k).map chL) (show GrowG _ _ _ _ _ _ from unhide HG) rfl rfl (show RowG _ _ _ _ from unhide HR2) (by have := unhide hl2; have := unhide hl3; rw [List.length_map, List.length_map]; omega) ?_
        intro uHG3 Z18 hg hgr
        have HG3 := hide hg
        have HD1 := hide (blk_kept hgr (show Blk _ _ _ _ from unhide HD) (unhide hneHG))
        have hS2 := hide (below_push (unhide hS1) hgr (show GrowG _ _ _ _ _ _ from unhide HG).owns (unhide hzHG))
        clear hS1 hgr hg
        have HD := HD1
        clear HD1
        refine hK.out _ _ (unhide hS2) (fun hS => ?_)
        clear hK hS2
        refine wpAnyH_all (rs := [10]) (by kernel_rfl) (by simp) (AllReadyH.cons (i := 10) rfl (fun KK hK => ?_) AllReadyH.nil)
        rw [if_pos (by rfl)]
        have HQ := hide (roll_any Z18 _ a b c (l.drop k ++ l.take k) ((by have q := (show GrowG _ _ _ _ _ _ from unhide HG3).row; rw [← List.map_append] at q; exact q)))
        have hS1 := hide hS
        clear hS
        go_wp2_with fail
        refine (unhide HQ).mono ?_
        rintro e Z19 ⟨r, s, t, e1, rfl, hb, hr⟩
        have HRR := hide hr
        clear hr HQ
        replace HG3 := hide ((show GrowG _ _ _ _ _ _ from unhide HG3).keep hb)
        replace HD := hide ((show Blk _ _ _ _ from unhide HD).keep hb)
        have hS2 := hide (below_keep (unhide hS1) hb (unhide hS1).size)
        clear hS1 hb
        go_wp2_with fail
        refine hK.out _ _ (unhide hS2) (fun hS => ?_)
        clear hK hS2
        refine wpAnyH_take (i := 11) (v := .tuple #[.agg (cells18 r s t), .int .i64 e1]) rfl (by kernel_rfl) (by kernel_rfl) (by kernel_rfl) (fun _ _ _ h => h) (Or.inl ⟨by rfl, fun W hS => by go_simp⟩) hS ?_
        refine wpAnyH_take (i := 12) (v := .agg (cells18 r s t)) rfl (by kernel_rfl) (by kernel_rfl) (by kernel_rfl) (fun _ _ _ h => h) (Or.inl ⟨by rfl, fun W hS => by go_simp⟩) hS ?_
        refine wpAnyH_take (i := 13) (v := .int .i64 e1) rfl (by kernel_rfl) (by kernel_rfl) (by kernel_rfl) (fun _ _ _ h => h) (Or.inl ⟨by rfl, fun W hS => by go_simp⟩) hS ?_
        refine wpAnyH_all (rs := [15]) (by kernel_rfl) (by simp) (AllReadyH.cons (i := 15) rfl (fun KK hK => ?_) AllReadyH.nil)
        rw [if_pos (by rfl)]
        refine storeO_blk 27 _ _ rfl (show Blk _ _ _ _ from unhide HD) rfl rfl size27 rfl rfl rfl ?_
        intro Y1 k1 kp
        have hS1 := hide (kp.bel (unhide hlt) hS)
        have HX := hide k1
        clear hS kp k1 HD
        refine hK.out _ _ (unhide hS1) (fun hS => ?_)
        clear hK hS1
        refine wpAnyH_all (rs := [16]) (by kernel_rfl) (by simp) (AllReadyH.cons (i := 16) rfl (fun KK hK => ?_) AllReadyH.nil)
        rw [if_pos (by rfl)]
        have hS1 := hide hS
        clear hS
        go_wp2_with fail
        refine hK.out _ _ (unhide hS1) (fun hS => ?_)
        clear hK hS1
        refine wpAnyH_done (by kernel_rfl) ?_ _
        have hS1 := hide hS
        clear hS
        go_wp2_with fail
        go_meet
        exact ⟨_, r, s, t, e1, rfl, rfl, HX, HRR, hS1⟩
    case rest =>
      obtain ⟨yb, r', s', t', e', rfl, rfl, HY, HRR2, HW⟩ := hcut
      obtain ⟨rfl, rfl, rfl, rfl⟩ := (unhide HRR2).swap.only (unhide HRR1)
      replace HB := hide (below_via (unhide HB) (unhide HW))
      have HX := hide ((show Blk _ _ _ _ from unhide HX1).keep (unhide HW))
      clear HW HX1 HO HRlo HRhi HRR1 HRR2
      generalize hwc : wc = w3 at *
      clear hwc
      have f1 : ∀ W, (Op.equalIn 10000 27 (.agg (cells18 r' s' t')) (.agg (cells18 r' s' t'))).run Try.prog W = .ok true W := fun W => eqr27 9997 r' s' t' W
      go_wp2_with (first | refine load_blk rfl 27 _ rfl (show Blk _ _ _ _ from unhide HX) rfl row27 size27 rfl ?_ | refine load_blk rfl 27 _ rfl (show Blk _ _ _ _ from unhide HY) rfl row27 size27 rfl ?_)
      go_ret
      exact ⟨rfl, unhide HB⟩
theorem walk (a b c : Int) (x : Option Addr) (n cap : Nat) (l : List Ch) (z : Int) (w : World) (ia : In64 a) (ib : In64 b) (ic : In64 c) (hR : RowG 5 w (.slice x n cap) (l.map chL)) (iz : 0 ≤ z ∧ z ≤ 255) : Calls Try.prog 8 #[.agg #[.int .i64 a, .int .i64 b, .int .i64 c], .slice x n cap, .int .u8 z] w fun e w' => e = .returned (.bool true) ∧ Below w.heap.size w w' := by
  have hl := rowG_len hR
  rw [List.length_map] at hl
  obtain ⟨A, rfl⟩ := Int.eq_ofNat_of_zero_le iz.1
  by_cases h1 : 500 < n
  · exact s_long a b c x n cap A (decide_eq_true (by omega)) (hide alive_any) w
  · obtain ⟨ht, hk⟩ := part_at (n := n) (A := A) (by omega)
    have hle := rowG_le hR
    have h2 := hR.lo hk
    have h3 := hR.hi hk
    rw [← List.map_drop] at h2
    rw [← List.map_take] at h3
    exact s_ok a b c x n cap A _ l (decide_eq_false (by omega)) (by omega) (by omega) ht (by omega) (by omega) (hide (by omega)) (hide (by rw [List.length_drop]; omega)) (hide (by rw [List.length_take]; omega)) (hide alive_any) w (hide hR) (hide h2) (hide h3)
theorem own : ownKnob Try.prog.godebug = none := by kernel_rfl
theorem laidOut : laidOutB Try.prog = true := by kernel_rfl
set_option linter.unusedVariables false in
set_option maxRecDepth 100000 in
theorem lifted (os : Os) (started : os.Started) (H : Type) (enc : TypeId × Value → H) :
    ReturnsInHanded {} Try.checked os 8 .any (Rows.allowOrdersSpec.pre6 enc Try.prog Try.f8 Rows.allowOrdersRow.domain false) (Rows.allowOrdersSpec.post enc Try.prog Try.f8 false true false false) := by
  refine returnsInHanded_of_change (C := Try.checked) own started (by kernel_rfl) Try.func8
    (ChangeSpec.witness6 (enc := enc) (C := Try.checked) false ⟨#[], #[.agg #[.int .i64 0, .int .i64 0, .int .i64 0], .slice none 0 0, .int .u8 0], []⟩ 8 (by kernel_rfl) (by kernel_rfl) (by kernel_rfl) (by kernel_rfl)) ?_
  intro W base args ds gs before hval0 hW hcnd _
  have hval : ∀ (j : Nat) t v, Try.f8.params[j]? = some t → args[j]? = some v → Value.okWide Try.prog W .any base t v := hval0
  have hW' := hW
  obtain ⟨p, q, hA0, hV, rfl, hfz, hnd⟩ := hW
  have hA : DataW.TrodAll enc Try.prog W 0 (fun _ => true) true Try.f8.params.toList args.toList ds p := hA0
  rw [Try.params8] at hA hval
  obtain ⟨v0, vs0, d0, ds0, p0, q0, hargs, rfl, rfl, h0, r0⟩ := trodAll_cons hA
  obtain ⟨v1, vs1, d1, ds1, p1, q1, rfl, rfl, rfl, h1, r1⟩ := trodAll_cons r0
  obtain ⟨v2, vs2, d2, ds2, p2, q2, rfl, rfl, rfl, h2, r2⟩ := trodAll_cons r1
  obtain ⟨rfl, rfl, rfl⟩ := trodAll_nil r2
  obtain rfl : args = #[v0, v1, v2] := by cases args; simp_all
  obtain ⟨rfl, rfl⟩ := trodVars_none hV
  have k0 := h0
  have lt0 : ∀ x ∈ p0, x.block < W.heap.size := by obtain ⟨m, hm⟩ := k0; exact DataW.trod_lt m _ _ _ hm
  obtain ⟨xa0, xb0, xc0, rfl, ia0, ib0, ic0⟩ := arr3_open (hval 0 22 v0 rfl rfl) h0
  have k1 := h1
  have lt1 : ∀ x ∈ p1, x.block < W.heap.size := by obtain ⟨m, hm⟩ := k1; exact DataW.trod_lt m _ _ _ hm
  obtain ⟨a1, len1, cap1, rfl⟩ := okWide_slice Try.underlying23 (hval 1 23 v1 rfl rfl)
  obtain ⟨l1, hr1⟩ : ∃ l : List Ch, RowG 5 W (.slice a1 len1 cap1) (l.map chL) := by
    obtain ⟨fuel, hf⟩ := h1
    exact chs_open hf
  have k2 := h2
  have lt2 : ∀ x ∈ p2, x.block < W.heap.size := by obtain ⟨m, hm⟩ := k2; exact DataW.trod_lt m _ _ _ hm
  obtain ⟨xb2, rfl, ib2⟩ : ∃ n : Int, v2 = .int .u8 n ∧ (0 ≤ n ∧ n ≤ 255) := by
    obtain ⟨n, rfl⟩ := okWide_int Try.underlying5 (hval 2 5 v2 rfl rfl)
    obtain ⟨m, hm⟩ := h2
    have q := hm
    obtain ⟨z, e, _, w⟩ := DataW.trod_int Try.underlying5 (by simpa [Value.cells] using hm)
    simp at e
    subst e
    refine ⟨_, rfl, ?_⟩
    simp [Lit.wf, IntKind.min, IntKind.max, IntKind.signed, IntKind.bits] at w
    omega
  clear hA0 hval0
  refine (walk xa0 xb0 xc0 a1 len1 cap1 l1 xb2 W ia0 ib0 ic0 hr1 ib2).mono fun e W' ⟨he, bel⟩ => ?_
  subst he
  exact ⟨_, rfl, _, _, _, [], _, [], hW', trodAll_mk1 (shut_bool Try.underlying4 _), (trodAll_cons_mk (Below.trod laidOut (by kernel_rfl) (of_decide_eq_true (by kernel_rfl)) k0 bel lt0) (trodAll_cons_mk (Below.trod laidOut (by kernel_rfl) (of_decide_eq_true (by kernel_rfl)) k1 bel lt1) (trodAll_cons_mk (Below.trod laidOut (by kernel_rfl) (of_decide_eq_true (by kernel_rfl)) k2 bel lt2) trodAll_mk0))), rfl, bel.frame _, fun h => by cases h⟩
theorem over : Rows.allowOrdersRow.holds Try.pinned (OpenSpec.ofChange Rows.allowOrdersSpec) :=
  OpenClaim.holds_of_wide 8 Try.f8 rfl rfl rfl rfl rfl rfl rfl ⟨rfl, rfl, rfl, rfl, rfl⟩ rfl rfl rfl rfl rfl (by kernel_rfl) Try.func8 (by kernel_rfl)
    (of_decide_eq_true (by kernel_rfl)) (by unfold Func.isWrapper; first | (rw [if_pos (by decide +kernel)]; kernel_rfl) | (rw [if_neg (by decide +kernel)]; exact ⟨rfl, rfl⟩))
    (fun os started H enc _ => lifted os started H enc)
theorem proved : Rows.AllowOrdersSaid := over
end Go.Proofs.Ytkccladbcehdbaa.allowOrders
namespace Go.Proofs.Ytkccladbcehdbaa
theorem allowOrders_holds : Rows.AllowOrdersSaid := allowOrders.proved
end Go.Proofs.Ytkccladbcehdbaa
