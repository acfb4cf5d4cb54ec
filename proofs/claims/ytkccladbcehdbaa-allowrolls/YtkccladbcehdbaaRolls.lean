/- Proved here: AllowRolls: what any changes make of any stages, or the error, is the document's. No condition. -/
import Derived.Test.YtkccladbcehdbaaAl
import Derived.Test.YtkccladbcehdbaaAr
import Derived.Test.YtkccladbcehdbaaEq
import Derived.Test.YtkccladbcehdbaaRd
import Derived.Deep.RegionHeld
import Derived.Deep.Cut
import Derived.Deep.CutRange
namespace Go.Proofs.Ytkccladbcehdbaa.allowRolls
open Go.ChangeShapes Go.WideShapes Go.ChangeAt Go.RowKit
set_option linter.unusedVariables false
set_option linter.unusedSimpArgs false
theorem s_long (a b c : Int) (x : Option Addr) (n cap : Nat) (d1 : decide ((5000 : Int) < (n : Int)) = true) (hal : Hid Alive) (w : World) : Calls Try.prog 3 #[.agg #[.int .i64 a, .int .i64 b, .int .i64 c], .slice x n cap] w fun e w' => e = .returned (.bool true) ∧ Below w.heap.size w w' := by
  have HB0 := hide (below1 w (.cells #[.int .i64 a, .int .i64 b, .int .i64 c] 22))
  go_enter Try.func3, Try.ntmps3
  go_wp2_with fail
  refine (unhide hal _).mono ?_
  rintro e w1 ⟨rfl, hb⟩
  replace hb := hide (below_via (unhide HB0) hb)
  go_wp2_with fail
  go_ret
  exact ⟨rfl, unhide hb⟩
set_option maxHeartbeats 8000000 in
theorem s_ok (a b c : Int) (x : Option Addr) (n cap : Nat) (l : List Ch) (d1 : decide ((5000 : Int) < (n : Int)) = false) (hl : Hid (l.length ≤ 5000)) (hal : Hid Alive) (w : World) (hR : Hid (RowG 5 w (.slice x n cap) (l.map chL))) : Calls Try.prog 3 #[.agg #[.int .i64 a, .int .i64 b, .int .i64 c], .slice x n cap] w fun e w' => e = .returned (.bool true) ∧ Below w.heap.size w w' := by
  have HO := hide (Blk.new w #[.int .i64 a, .int .i64 b, .int .i64 c] 22)
  replace hR := hide ((unhide hR).alloc (.cells #[.int .i64 a, .int .i64 b, .int .i64 c] 22))
  go_enter Try.func3, Try.ntmps3
  go_wp2_with fail
  refine (unhide hal _).mono ?_
  rintro e w1 ⟨rfl, hb⟩
  have HB := hide (below_via (below1 w _) hb)
  replace HO := hide ((show Blk _ _ _ _ from unhide HO).keep hb)
  have HR := hide ((show RowG _ _ _ _ from unhide hR).keep hb)
  clear hb hR hal
  go_wp2_with fail
  go_cut [5, 6] from 9 to 35 (fun t5 t6 wx => ∃ nb r s t e, t5 = .pointer (some ⟨nb, 0, none⟩) ∧ t6 = .int .i64 e ∧ Hid (Blk wx nb (cells18 r s t) 27) ∧ Hid (RollR a b c l r s t e) ∧ Hid (Below w1.heap.size w1 wx))
  case first =>
    refine wp_region_held_drew (S := fun W => Below w1.heap.size w1 W) (by kernel_rfl) (Below.refl _ _).drew (fun hS => ?_)
    generalize hV : w1.drew = V0 at *
    clear hV
    refine wpAnyH_take (i := 0) (v := .agg #[.int .i64 a, .int .i64 b, .int .i64 c]) rfl (by kernel_rfl) (by kernel_rfl) (by kernel_rfl) (fun _ _ _ h => h) (Or.inl ⟨by rfl, fun W hS => by have f0 := ((show Blk _ _ _ _ from unhide HO).keep hS).at 0 _ rfl; have f1 := ((show Blk _ _ _ _ from unhide HO).keep hS).at 1 _ rfl; have f2 := ((show Blk _ _ _ _ from unhide HO).keep hS).at 2 _ rfl; go_simp⟩) hS ?_
    refine wpAnyH_take (i := 1) (v := .slice x n cap) rfl (by kernel_rfl) (by kernel_rfl) (by kernel_rfl) (fun _ _ _ h => h) (Or.inl ⟨by rfl, fun W hS => by go_simp⟩) hS ?_
    refine wpAnyH_all (rs := [2, 7]) (by kernel_rfl) (by simp) (AllReadyH.cons (i := 2) rfl (fun KK hK => ?_) (AllReadyH.cons (i := 7) rfl (fun KK hK => ?_) AllReadyH.nil))
    · rw [if_pos (by rfl)]
      have HQ := hide (to_any _ _ V0 ((show RowG _ _ _ _ from unhide HR).keep hS) (by have := unhide hl; omega))
      have hS1 := hide hS
      clear hS
      go_wp2_with fail
      refine (unhide HQ).mono ?_
      rintro e Z1 ⟨uHG, rfl, hg⟩
      have hb := hg.below
      have HG := hide hg
      clear hg HQ
      have hS2 := hide (below_keep (unhide hS1) hb (unhide hS1).size)
      clear hS1 hb
      go_wp2_with fail
      refine hK.out _ _ (unhide hS2) (fun hS => ?_)
      clear hK hS2
      refine wpAnyH_all (rs := [3, 7]) (by kernel_rfl) (by simp) (AllReadyH.cons (i := 3) rfl (fun KK hK => ?_) (AllReadyH.cons (i := 7) rfl (fun KK hK => ?_) AllReadyH.nil))
      · rw [if_pos (by rfl)]
        have HQ := hide (roll_any Z1 _ a b c l ((show GrowG _ _ _ _ _ _ from unhide HG).row))
        have hS1 := hide hS
        clear hS
        go_wp2_with fail
        refine (unhide HQ).mono ?_
        rintro e Z2 ⟨r, s, t, e1, rfl, hb, hr⟩
        have HRR := hide hr
        clear hr HQ
        replace HG := hide ((show GrowG _ _ V0 _ _ _ from unhide HG).keep hb)
        have hS2 := hide (below_keep (unhide hS1) hb (unhide hS1).size)
        clear hS1 hb
        go_wp2_with fail
        refine hK.out _ _ (unhide hS2) (fun hS => ?_)
        clear hK hS2
        refine wpAnyH_take (i := 4) (v := .tuple #[.agg (cells18 r s t), .int .i64 e1]) rfl (by kernel_rfl) (by kernel_rfl) (by kernel_rfl) (fun _ _ _ h => h) (Or.inl ⟨by rfl, fun W hS => by go_simp⟩) hS ?_
        refine wpAnyH_take (i := 5) (v := .agg (cells18 r s t)) rfl (by kernel_rfl) (by kernel_rfl) (by kernel_rfl) (fun _ _ _ h => h) (Or.inl ⟨by rfl, fun W hS => by go_simp⟩) hS ?_
        refine wpAnyH_take (i := 6) (v := .int .i64 e1) rfl (by kernel_rfl) (by kernel_rfl) (by kernel_rfl) (fun _ _ _ h => h) (Or.inl ⟨by rfl, fun W hS => by go_simp⟩) hS ?_
        refine wpAnyH_all (rs := [7]) (by kernel_rfl) (by simp) (AllReadyH.cons (i := 7) rfl (fun KK hK => ?_) AllReadyH.nil)
        rw [if_pos (by rfl)]
        have HD := hide (Blk.new Z2 #[.int .i64 0, .int .i64 0, .int .i64 0, .int .i64 0, .int .i64 0, .int .i64 0, .int .i64 0, .int .i64 0, .int .i64 0, .int .i64 0, .int .i64 0, .int .i64 0, .int .i64 0, .int .i64 0, .int .i64 0, .int .i64 0, .int .i64 0, .int .i64 0] 27)
        have hlt := hide hS.size
        have hS1 := hide (below_keep hS (below1 Z2 (.cells #[.int .i64 0, .int .i64 0, .int .i64 0, .int .i64 0, .int .i64 0, .int .i64 0, .int .i64 0, .int .i64 0, .int .i64 0, .int .i64 0, .int .i64 0, .int .i64 0, .int .i64 0, .int .i64 0, .int .i64 0, .int .i64 0, .int .i64 0, .int .i64 0] 27)) hS.size)
        replace HG := hide ((show GrowG _ _ V0 _ _ _ from unhide HG).keep (below1 Z2 (.cells #[.int .i64 0, .int .i64 0, .int .i64 0, .int .i64 0, .int .i64 0, .int .i64 0, .int .i64 0, .int .i64 0, .int .i64 0, .int .i64 0, .int .i64 0, .int .i64 0, .int .i64 0, .int .i64 0, .int .i64 0, .int .i64 0, .int .i64 0, .int .i64 0] 27)))
        clear hS
        go_wp2_with fail
        refine hK.out _ _ (unhide hS1) (fun hS => ?_)
        clear hK hS1
        generalize Z2.alloc (.cells #[.int .i64 0, .int .i64 0, .int .i64 0, .int .i64 0, .int .i64 0, .int .i64 0, .int .i64 0, .int .i64 0, .int .i64 0, .int .i64 0, .int .i64 0, .int .i64 0, .int .i64 0, .int .i64 0, .int .i64 0, .int .i64 0, .int .i64 0, .int .i64 0] 27) = Z3 at *
        generalize Z2.heap.size = nb at *
        refine wpAnyH_all (rs := [8]) (by kernel_rfl) (by simp) (AllReadyH.cons (i := 8) rfl (fun KK hK => ?_) AllReadyH.nil)
        rw [if_pos (by rfl)]
        refine storeO_blk 27 _ _ rfl (show Blk _ _ _ _ from unhide HD) rfl rfl size27 rfl rfl rfl ?_
        intro Y1 k1 kp
        have hS1 := hide (kp.bel (unhide hlt) hS)
        have HX := hide k1
        clear hS kp k1 HD
        refine hK.out _ _ (unhide hS1) (fun hS => ?_)
        clear hK hS1
        refine wpAnyH_all (rs := [9]) (by kernel_rfl) (by simp) (AllReadyH.cons (i := 9) rfl (fun KK hK => ?_) AllReadyH.nil)
        rw [if_pos (by rfl)]
        have hS1 := hide hS
        clear hS
        go_wp2_with fail
        refine hK.out _ _ (unhide hS1) (fun hS => ?_)
        clear hK hS1
        refine wpAnyH_done (by kernel_rfl) ?_ _
        have hS1 := hide hS
        clear hS
        go_wp2_with fail
        go_meet
        exact ⟨_, r, s, t, e1, rfl, rfl, HX, HRR, hS1⟩
      · rw [if_pos (by rfl)]
        have HD := hide (Blk.new Z1 #[.int .i64 0, .int .i64 0, .int .i64 0, .int .i64 0, .int .i64 0, .int .i64 0, .int .i64 0, .int .i64 0, .int .i64 0, .int .i64 0, .int .i64 0, .int .i64 0, .int .i64 0, .int .i64 0, .int .i64 0, .int .i64 0, .int .i64 0, .int .i64 0] 27)
        have hlt := hide hS.size
        have hS1 := hide (below_keep hS (below1 Z1 (.cells #[.int .i64 0, .int .i64 0, .int .i64 0, .int .i64 0, .int .i64 0, .int .i64 0, .int .i64 0, .int .i64 0, .int .i64 0, .int .i64 0, .int .i64 0, .int .i64 0, .int .i64 0, .int .i64 0, .int .i64 0, .int .i64 0, .int .i64 0, .int .i64 0] 27)) hS.size)
        replace HG := hide ((show GrowG _ _ V0 _ _ _ from unhide HG).keep (below1 Z1 (.cells #[.int .i64 0, .int .i64 0, .int .i64 0, .int .i64 0, .int .i64 0, .int .i64 0, .int .i64 0, .int .i64 0, .int .i64 0, .int .i64 0, .int .i64 0, .int .i64 0, .int .i64 0, .int .i64 0, .int .i64 0, .int .i64 0, .int .i64 0, .int .i64 0] 27)))
        clear hS
        go_wp2_with fail
        refine hK.out _ _ (unhide hS1) (fun hS => ?_)
        clear hK hS1
        generalize Z1.alloc (.cells #[.int .i64 0, .int .i64 0, .int .i64 0, .int .i64 0, .int .i64 0, .int .i64 0, .int .i64 0, .int .i64 0, .int .i64 0, .int .i64 0, .int .i64 0, .int .i64 0, .int .i64 0, .int .i64 0, .int .i64 0, .int .i64 0, .int .i64 0, .int .i64 0] 27) = Z4 at *
        generalize Z1.heap.size = nb at *
        refine wpAnyH_all (rs := [3]) (by kernel_rfl) (by simp) (AllReadyH.cons (i := 3) rfl (fun KK hK => ?_) AllReadyH.nil)
        rw [if_pos (by rfl)]
        have HQ := hide (roll_any Z4 _ a b c l ((show GrowG _ _ _ _ _ _ from unhide HG).row))
        have hS1 := hide hS
        clear hS
        go_wp2_with fail
        refine (unhide HQ).mono ?_
        rintro e Z5 ⟨r, s, t, e1, rfl, hb, hr⟩
        have HRR := hide hr
        clear hr HQ
        replace HG := hide ((show GrowG _ _ V0 _ _ _ from unhide HG).keep hb)
        replace HD := hide ((show Blk _ _ _ _ from unhide HD).keep hb)
        have hS2 := hide (below_keep (unhide hS1) hb (unhide hS1).size)
        clear hS1 hb
        go_wp2_with fail
        refine hK.out _ _ (unhide hS2) (fun hS => ?_)
        clear hK hS2
        refine wpAnyH_take (i := 4) (v := .tuple #[.agg (cells18 r s t), .int .i64 e1]) rfl (by kernel_rfl) (by kernel_rfl) (by kernel_rfl) (fun _ _ _ h => h) (Or.inl ⟨by rfl, fun W hS => by go_simp⟩) hS ?_
        refine wpAnyH_take (i := 5) (v := .agg (cells18 r s t)) rfl (by kernel_rfl) (by kernel_rfl) (by kernel_rfl) (fun _ _ _ h => h) (Or.inl ⟨by rfl, fun W hS => by go_simp⟩) hS ?_
        refine wpAnyH_take (i := 6) (v := .int .i64 e1) rfl (by kernel_rfl) (by kernel_rfl) (by kernel_rfl) (fun _ _ _ h => h) (Or.inl ⟨by rfl, fun W hS => by go_simp⟩) hS ?_
        refine wpAnyH_all (rs := [8]) (by kernel_rfl) (by simp) (AllReadyH.cons (i := 8) rfl (fun KK hK => ?_) AllReadyH.nil)
        rw [if_pos (by rfl)]
        refine storeO_blk 27 _ _ rfl (show Blk _ _ _ _ from unhide HD) rfl rfl size27 rfl rfl rfl ?_
        intro Y1 k1 kp
        have hS1 := hide (kp.bel (unhide hlt) hS)
        have HX := hide k1
        clear hS kp k1 HD
        refine hK.out _ _ (unhide hS1) (fun hS => ?_)
        clear hK hS1
        refine wpAnyH_all (rs := [9]) (by kernel_rfl) (by simp) (AllReadyH.cons (i := 9) rfl (fun KK hK => ?_) AllReadyH.nil)
        rw [if_pos (by rfl)]
        have hS1 := hide hS
        clear hS
        go_wp2_with fail
        refine hK.out _ _ (unhide hS1) (fun hS => ?_)
        clear hK hS1
        refine wpAnyH_done (by kernel_rfl) ?_ _
        have hS1 := hide hS
        clear hS
        go_wp2_with fail
        go_meet
        exact ⟨_, r, s, t, e1, rfl, rfl, HX, HRR, hS1⟩
    · rw [if_pos (by rfl)]
      have HD := hide (Blk.new V0 #[.int .i64 0, .int .i64 0, .int .i64 0, .int .i64 0, .int .i64 0, .int .i64 0, .int .i64 0, .int .i64 0, .int .i64 0, .int .i64 0, .int .i64 0, .int .i64 0, .int .i64 0, .int .i64 0, .int .i64 0, .int .i64 0, .int .i64 0, .int .i64 0] 27)
      have hlt := hide hS.size
      have hS1 := hide (below_keep hS (below1 V0 (.cells #[.int .i64 0, .int .i64 0, .int .i64 0, .int .i64 0, .int .i64 0, .int .i64 0, .int .i64 0, .int .i64 0, .int .i64 0, .int .i64 0, .int .i64 0, .int .i64 0, .int .i64 0, .int .i64 0, .int .i64 0, .int .i64 0, .int .i64 0, .int .i64 0] 27)) hS.size)
      clear hS
      go_wp2_with fail
      refine hK.out _ _ (unhide hS1) (fun hS => ?_)
      clear hK hS1
      generalize V0.alloc (.cells #[.int .i64 0, .int .i64 0, .int .i64 0, .int .i64 0, .int .i64 0, .int .i64 0, .int .i64 0, .int .i64 0, .int .i64 0, .int .i64 0, .int .i64 0, .int .i64 0, .int .i64 0, .int .i64 0, .int .i64 0, .int .i64 0, .int .i64 0, .int .i64 0] 27) = Z6 at *
      generalize V0.heap.size = nb at *
      refine wpAnyH_all (rs := [2]) (by kernel_rfl) (by simp) (AllReadyH.cons (i := 2) rfl (fun KK hK => ?_) AllReadyH.nil)
      rw [if_pos (by rfl)]
      have HQ := hide (to_any _ _ Z6 ((show RowG _ _ _ _ from unhide HR).keep hS) (by have := unhide hl; omega))
      have hS1 := hide hS
      clear hS
      go_wp2_with fail
      refine (unhide HQ).mono ?_
      rintro e Z7 ⟨uHG, rfl, hg⟩
      have hb := hg.below
      have HG := hide hg
      clear hg HQ
      replace HD := hide ((show Blk _ _ _ _ from unhide HD).keep hb)
      have hS2 := hide (below_keep (unhide hS1) hb (unhide hS1).size)
      clear hS1 hb
      go_wp2_with fail
      refine hK.out _ _ (unhide hS2) (fun hS => ?_)
      clear hK hS2
      refine wpAnyH_all (rs := [3]) (by kernel_rfl) (by simp) (AllReadyH.cons (i := 3) rfl (fun KK hK => ?_) AllReadyH.nil)
      rw [if_pos (by rfl)]
      have HQ := hide (roll_any Z7 _ a b c l ((show GrowG _ _ _ _ _ _ from unhide HG).row))
      have hS1 := hide hS
      clear hS
      go_wp2_with fail
      refine (unhide HQ).mono ?_
      rintro e Z8 ⟨r, s, t, e1, rfl, hb, hr⟩
      have HRR := hide hr
      clear hr HQ
      replace HG := hide ((show GrowG _ _ Z6 _ _ _ from unhide HG).keep hb)
      replace HD := hide ((show Blk _ _ _ _ from unhide HD).keep hb)
      have hS2 := hide (below_keep (unhide hS1) hb (unhide hS1).size)
      clear hS1 hb
      go_wp2_with fail
      refine hK.out _ _ (unhide hS2) (fun hS => ?_)
      clear hK hS2
      refine wpAnyH_take (i := 4) (v := .tuple #[.agg (cells18 r s t), .int .i64 e1]) rfl (by kernel_rfl) (by kernel_rfl) (by kernel_rfl) (fun _ _ _ h => h) (Or.inl ⟨by rfl, fun W hS => by go_simp⟩) hS ?_
      refine wpAnyH_take (i := 5) (v := .agg (cells18 r s t)) rfl (by kernel_rfl) (by kernel_rfl) (by kernel_rfl) (fun _ _ _ h => h) (Or.inl ⟨by rfl, fun W hS => by go_simp⟩) hS ?_
      refine wpAnyH_take (i := 6) (v := .int .i64 e1) rfl (by kernel_rfl) (by kernel_rfl) (by kernel_rfl) (fun _ _ _ h => h) (Or.inl ⟨by rfl, fun W hS => by go_simp⟩) hS ?_
      refine wpAnyH_all (rs := [8]) (by kernel_rfl) (by simp) (AllReadyH.cons (i := 8) rfl (fun KK hK => ?_) AllReadyH.nil)
      rw [if_pos (by rfl)]
      refine storeO_blk 27 _ _ rfl (show Blk _ _ _ _ from unhide HD) rfl rfl size27 rfl rfl rfl ?_
      intro Y1 k1 kp
      have hS1 := hide (kp.bel (unhide hlt) hS)
      have HX := hide k1
      clear hS kp k1 HD
      refine hK.out _ _ (unhide hS1) (fun hS => ?_)
      clear hK hS1
      refine wpAnyH_all (rs := [9]) (by kernel_rfl) (by simp) (AllReadyH.cons (i := 9) rfl (fun KK hK => ?_) AllReadyH.nil)
      rw [if_pos (by rfl)]
      have hS1 := hide hS
      clear hS
      go_wp2_with fail
      refine hK.out _ _ (unhide hS1) (fun hS => ?_)
      clear hK hS1
      refine wpAnyH_done (by kernel_rfl) ?_ _
      have hS1 := hide hS
      clear hS
      go_wp2_with fail
      go_meet
      exact ⟨_, r, s, t, e1, rfl, rfl, HX, HRR, hS1⟩
  case rest =>
    obtain ⟨nb, r, s, t, e1, rfl, rfl, HX, HRR, HW⟩ := hcut
    replace HB := hide (below_via (unhide HB) (unhide HW))
    replace HO := hide ((show Blk _ _ _ _ from unhide HO).keep (unhide HW))
    replace HR := hide ((show RowG _ _ _ _ from unhide HR).keep (unhide HW))
    clear HW
    have HQ := hide (rroll_any _ _ a b c l (unhide HR))
    have c0 := (show Blk _ _ _ _ from unhide HO).at 0 _ rfl
    have c1 := (show Blk _ _ _ _ from unhide HO).at 1 _ rfl
    have c2 := (show Blk _ _ _ _ from unhide HO).at 2 _ rfl
    go_wp2_with fail
    refine (unhide HQ).mono ?_
    rintro e w2 ⟨r', s', t', e', rfl, hb, hr⟩
    obtain ⟨rfl, rfl, rfl, rfl⟩ := hr.only (unhide HRR)
    replace HB := hide (below_via (unhide HB) hb)
    replace HX := hide ((show Blk _ _ _ _ from unhide HX).keep hb)
    clear hb hr HRR HR HO c0 c1 c2 HQ
    have HX2 := hide ((show Blk _ _ _ _ from unhide HX).alloc (.cells #[.int .i64 0, .int .i64 0, .int .i64 0, .int .i64 0, .int .i64 0, .int .i64 0, .int .i64 0, .int .i64 0, .int .i64 0, .int .i64 0, .int .i64 0, .int .i64 0, .int .i64 0, .int .i64 0, .int .i64 0, .int .i64 0, .int .i64 0, .int .i64 0] 34))
    have HB2 := hide (below_via (unhide HB) (below1 w2 (.cells #[.int .i64 0, .int .i64 0, .int .i64 0, .int .i64 0, .int .i64 0, .int .i64 0, .int .i64 0, .int .i64 0, .int .i64 0, .int .i64 0, .int .i64 0, .int .i64 0, .int .i64 0, .int .i64 0, .int .i64 0, .int .i64 0, .int .i64 0, .int .i64 0] 34)))
    have hsz := hide (unhide HB).size
    have hnb := hide (show Blk _ _ _ _ from unhide HX).lt
    go_wp2_with (refine store_blk rfl 34 _ _ rfl (Blk.new w2 _ _) rfl rfl size34 rfl rfl rfl ?_)
    intro w3 k1 kp
    replace HX2 := hide (kp.blk (by have := unhide hnb; omega) (show Blk _ _ _ _ from unhide HX2))
    replace HB2 := hide (kp.bel (unhide hsz) (unhide HB2))
    have HY := hide k1
    clear k1 kp HB HX hsz hnb
    generalize w2.heap.size = yb at *
    go_wp2_with fail
    refine wp_region_held_drew (S := fun W => Below w3.heap.size w3 W) (by kernel_rfl) (Below.refl _ _).drew (fun hS => ?_)
    generalize hV : w3.drew = V0 at *
    clear hV
    refine wpAnyH_take (i := 0) (v := .agg (cells18 r' s' t')) rfl (by kernel_rfl) (by kernel_rfl) (by kernel_rfl) (fun _ _ _ h => h) (yl_blk (by rfl) 27 _ rfl rfl (fun W hS => (show Blk _ _ _ _ from unhide HX2).keep hS) row27 size27 rfl) hS ?_
    refine wpAnyH_take (i := 2) (v := .agg (cells18 r' s' t')) rfl (by kernel_rfl) (by kernel_rfl) (by kernel_rfl) (fun _ _ _ h => h) (yl_blk (by rfl) 34 _ rfl rfl (fun W hS => (show Blk _ _ _ _ from unhide HY).keep hS) row34 size34 rfl) hS ?_
    refine wpAnyH_all (rs := [1]) (by kernel_rfl) (by simp) (AllReadyH.cons (i := 1) rfl (fun KK hK => ?_) AllReadyH.nil)
    rw [if_pos (by rfl)]
    have hS1 := hide hS
    clear hS
    go_wp2_with fail
    refine (rows_any r' s' t' _).mono ?_
    rintro e Z1 ⟨rfl, hb⟩
    have hS2 := hide (below_keep (unhide hS1) hb (unhide hS1).size)
    clear hS1 hb
    go_wp2_with fail
    refine hK.out _ _ (unhide hS2) (fun hS => ?_)
    clear hK hS2
    refine wpAnyH_take (i := 3) (v := .bool true) rfl (by kernel_rfl) (by kernel_rfl) (by kernel_rfl) (fun _ _ _ h => h) (Or.inl ⟨by rfl, fun W hS => by have f1 : (Op.equalIn 10000 34 (.agg (cells18 r' s' t')) (.agg (cells18 r' s' t'))).run Try.prog W = .ok true W := eqr34 9997 r' s' t' W; go_simp⟩) hS ?_
    refine wpAnyH_take (i := 4) (v := .bool true) rfl (by kernel_rfl) (by kernel_rfl) (by kernel_rfl) (fun _ _ _ h => h) (Or.inl ⟨by rfl, fun W hS => by go_simp⟩) hS ?_
    refine wpAnyH_take (i := 5) (v := .int .i64 e') rfl (by kernel_rfl) (by kernel_rfl) (by kernel_rfl) (fun _ _ _ h => h) (Or.inl ⟨by rfl, fun W hS => by go_simp⟩) hS ?_
    refine wpAnyH_take (i := 6) (v := .int .i64 e') rfl (by kernel_rfl) (by kernel_rfl) (by kernel_rfl) (fun _ _ _ h => h) (Or.inl ⟨by rfl, fun W hS => by go_simp⟩) hS ?_
    refine wpAnyH_take (i := 7) (v := .bool true) rfl (by kernel_rfl) (by kernel_rfl) (by kernel_rfl) (fun _ _ _ h => h) (Or.inl ⟨by rfl, fun W hS => by go_simp⟩) hS ?_
    refine wpAnyH_take (i := 8) (v := .bool true) rfl (by kernel_rfl) (by kernel_rfl) (by kernel_rfl) (fun _ _ _ h => h) (Or.inl ⟨by rfl, fun W hS => by go_simp⟩) hS ?_
    refine wpAnyH_all (rs := [9]) (by kernel_rfl) (by simp) (AllReadyH.cons (i := 9) rfl (fun KK hK => ?_) AllReadyH.nil)
    rw [if_pos (by rfl)]
    have hS1 := hide hS
    clear hS
    go_wp2_with fail
    refine hK.out _ _ (unhide hS1) (fun hS => ?_)
    clear hK hS1
    refine wpAnyH_done (by kernel_rfl) ?_ _
    have hS1 := hide hS
    clear hS
    go_wp2_with fail
    go_ret
    exact ⟨rfl, below_keep (unhide HB2) (unhide hS1) (unhide HB2).size⟩
theorem walk (a b c : Int) (x : Option Addr) (n cap : Nat) (l : List Ch) (w : World) (ia : In64 a) (ib : In64 b) (ic : In64 c) (hR : RowG 5 w (.slice x n cap) (l.map chL)) : Calls Try.prog 3 #[.agg #[.int .i64 a, .int .i64 b, .int .i64 c], .slice x n cap] w fun e w' => e = .returned (.bool true) ∧ Below w.heap.size w w' := by
  have hl := rowG_len hR
  rw [List.length_map] at hl
  by_cases h1 : 5000 < n
  · exact s_long a b c x n cap (decide_eq_true (by omega)) (hide alive_any) w
  · exact s_ok a b c x n cap l (decide_eq_false (by omega)) (hide (by omega)) (hide alive_any) w (hide hR)
theorem own : ownKnob Try.prog.godebug = none := by kernel_rfl
theorem laidOut : laidOutB Try.prog = true := by kernel_rfl
set_option linter.unusedVariables false in
set_option maxRecDepth 100000 in
theorem lifted (os : Os) (started : os.Started) (H : Type) (enc : TypeId × Value → H) :
    ReturnsInHanded {} Try.checked os 3 .any (Rows.allowRollsSpec.pre6 enc Try.prog Try.f3 Rows.allowRollsRow.domain false) (Rows.allowRollsSpec.post enc Try.prog Try.f3 false true false false) := by
  refine returnsInHanded_of_change (C := Try.checked) own started (by kernel_rfl) Try.func3
    (ChangeSpec.witness6 (enc := enc) (C := Try.checked) false ⟨#[], #[.agg #[.int .i64 0, .int .i64 0, .int .i64 0], .slice none 0 0], []⟩ 8 (by kernel_rfl) (by kernel_rfl) (by kernel_rfl) (by kernel_rfl)) ?_
  intro W base args ds gs before hval0 hW hcnd _
  have hval : ∀ (j : Nat) t v, Try.f3.params[j]? = some t → args[j]? = some v → Value.okWide Try.prog W .any base t v := hval0
  have hW' := hW
  obtain ⟨p, q, hA0, hV, rfl, hfz, hnd⟩ := hW
  have hA : DataW.TrodAll enc Try.prog W 0 (fun _ => true) true Try.f3.params.toList args.toList ds p := hA0
  rw [Try.params3] at hA hval
  obtain ⟨v0, vs0, d0, ds0, p0, q0, hargs, rfl, rfl, h0, r0⟩ := trodAll_cons hA
  obtain ⟨v1, vs1, d1, ds1, p1, q1, rfl, rfl, rfl, h1, r1⟩ := trodAll_cons r0
  obtain ⟨rfl, rfl, rfl⟩ := trodAll_nil r1
  obtain rfl : args = #[v0, v1] := by cases args; simp_all
  obtain ⟨rfl, rfl⟩ := trodVars_none hV
  have k0 := h0
  have lt0 : ∀ x ∈ p0, x.block < W.heap.size := by obtain ⟨m, hm⟩ := k0; exact DataW.trod_lt m _ _ _ hm
  obtain ⟨xa0, xb0, xc0, rfl, ia0, ib0, ic0⟩ := arr3_open (hval 0 22 v0 rfl rfl) h0
  have k1 := h1
  have lt1 : ∀ x ∈ p1, x.block < W.heap.size := by obtain ⟨m, hm⟩ := k1; exact DataW.trod_lt m _ _ _ hm
  obtain ⟨a1, len1, cap1, rfl⟩ := okWide_slice Try.underlying23 (hval 1 23 v1 rfl rfl)
  obtain ⟨l1, hr1⟩ : ∃ l : List Ch, RowG 5 W (.slice a1 len1 cap1) (l.map chL) := by
    obtain ⟨fuel, hf⟩ := h1
    exact chs_open hf
  clear hA0 hval0
  refine (walk xa0 xb0 xc0 a1 len1 cap1 l1 W ia0 ib0 ic0 hr1).mono fun e W' ⟨he, bel⟩ => ?_
  subst he
  exact ⟨_, rfl, _, _, _, [], _, [], hW', trodAll_mk1 (shut_bool Try.underlying4 _), (trodAll_cons_mk (Below.trod laidOut (by kernel_rfl) (of_decide_eq_true (by kernel_rfl)) k0 bel lt0) (trodAll_cons_mk (Below.trod laidOut (by kernel_rfl) (of_decide_eq_true (by kernel_rfl)) k1 bel lt1) trodAll_mk0)), rfl, bel.frame _, fun h => by cases h⟩
theorem over : Rows.allowRollsRow.holds Try.pinned (OpenSpec.ofChange Rows.allowRollsSpec) :=
  OpenClaim.holds_of_wide 3 Try.f3 rfl rfl rfl rfl rfl rfl rfl ⟨rfl, rfl, rfl, rfl, rfl⟩ rfl rfl rfl rfl rfl (by kernel_rfl) Try.func3 (by kernel_rfl)
    (of_decide_eq_true (by kernel_rfl)) (by unfold Func.isWrapper; first | (rw [if_pos (by decide +kernel)]; kernel_rfl) | (rw [if_neg (by decide +kernel)]; exact ⟨rfl, rfl⟩))
    (fun os started H enc _ => lifted os started H enc)
theorem proved : Rows.AllowRollsSaid := over
end Go.Proofs.Ytkccladbcehdbaa.allowRolls
namespace Go.Proofs.Ytkccladbcehdbaa
theorem allowRolls_holds : Rows.AllowRollsSaid := allowRolls.proved
end Go.Proofs.Ytkccladbcehdbaa
