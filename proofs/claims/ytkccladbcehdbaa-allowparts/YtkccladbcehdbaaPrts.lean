/- Proved here: AllowParts: changes in two parts, the second one from where the first one ended, end as all at once. No condition. -/
import Derived.Test.YtkccladbcehdbaaAl
import Derived.Test.YtkccladbcehdbaaAr
import Derived.Test.YtkccladbcehdbaaEq
import Derived.Test.YtkccladbcehdbaaLo
import Derived.Deep.RegionHeld
import Derived.Deep.Cut
import Derived.Deep.CutRange
import Derived.BigQuiet
import Derived.Deep.QuietTactic
namespace Go.Proofs.Ytkccladbcehdbaa.allowParts
open Go.ChangeShapes Go.WideShapes Go.ChangeAt Go.RowKit
set_option linter.unusedVariables false
set_option linter.unusedSimpArgs false
/-- Two parts' rows and the rows of all. -/
structure PF (r1 r2 r : Rw) : Prop where
  z : (r2.z != r.z) = false
  i : (r1.i + r2.i != r.i) = false
  n : (r1.n + r2.n != r.n) = false
  wi : IntKind.i64.wrap (r1.i + r2.i) = r1.i + r2.i
  wn : IntKind.i64.wrap (r1.n + r2.n) = r1.n + r2.n
theorem roll_ok {a b c : Int} {l : List Ch} {r s t : Rw} (h : RollR a b c l r s t 0) : l.length ≤ 4096 ∧ mayB a b c l = true ∧ r = rwS l 1 a ∧ s = rwS l 2 b ∧ t = rwS l 3 c := by
  rcases h with ⟨_, _, _, _, e⟩ | ⟨_, _, _, _, _, e⟩ | ⟨h1, h2, h3, h4, h5, _⟩
  · cases e
  · cases e
  · exact ⟨h1, h2, h3, h4, h5⟩
theorem pf_of {l : List Ch} {k : Nat} (h : AllOk l) (hl : l.length ≤ 4096) {s o : Int} (ho : 0 ≤ o ∧ o ≤ 1152921504606846976) : PF (rwS (l.take k) s o) (rwS (l.drop k) s (rwS (l.take k) s o).z) (rwS l s o) := by
  have e : ∀ c, putS l s c = putS (l.take k) s c + putS (l.drop k) s c := fun c => by rw [← putS_append, List.take_append_drop]
  have b := rwS_bd h hl ho s
  obtain ⟨_, ⟨b1, b2⟩, _, ⟨b3, b4⟩, _, _⟩ := b
  have e0 := e 0
  have e1 := e 1
  have e2 := e 2
  have e3 := e 3
  simp only [rwS] at b1 b2 b3 b4
  refine ⟨?_, ?_, ?_, wrap_in' ?_, wrap_in' ?_⟩
  · simp only [rwS, bne_eq_false_iff_eq]; omega
  · simp only [rwS, bne_eq_false_iff_eq]; omega
  · simp only [rwS, bne_eq_false_iff_eq]; omega
  · simp only [rwS]; exact ⟨by omega, by omega⟩
  · simp only [rwS]; exact ⟨by omega, by omega⟩
theorem parts_ok {a b c : Int} {l : List Ch} {k : Nat} {r s t r1 s1 t1 r2 s2 t2 : Rw} (h : RollR a b c l r s t 0) (h1 : RollR a b c (l.take k) r1 s1 t1 0) (h2 : RollR r1.z s1.z t1.z (l.drop k) r2 s2 t2 0) : PF r1 r2 r ∧ PF s1 s2 s ∧ PF t1 t2 t := by
  obtain ⟨hl, hm, rfl, rfl, rfl⟩ := roll_ok h
  obtain ⟨_, _, rfl, rfl, rfl⟩ := roll_ok h1
  obtain ⟨_, _, rfl, rfl, rfl⟩ := roll_ok h2
  obtain ⟨o1, o2, o3, ok⟩ := mayB_iff.1 hm
  exact ⟨pf_of ok hl o1, pf_of ok hl o2, pf_of ok hl o3⟩
theorem s_long (a b c : Int) (x : Option Addr) (n cap A : Nat) (d1 : decide ((300 : Int) < (n : Int)) = true) (hal : Hid Alive) (w : World) : Calls Try.prog 7 #[.agg #[.int .i64 a, .int .i64 b, .int .i64 c], .slice x n cap, .int .u8 (A : Int)] w fun e w' => e = .returned (.bool true) ∧ Below w.heap.size w w' := by
  have HB0 := hide (below1 w (.cells #[.int .i64 a, .int .i64 b, .int .i64 c] 22))
  go_enter Try.func7, Try.ntmps7
  go_wp2_with fail
  refine (unhide hal _).mono ?_
  rintro e w1 ⟨rfl, hb⟩
  replace hb := hide (below_via (unhide HB0) hb)
  go_wp2_with fail
  go_ret
  exact ⟨rfl, unhide hb⟩
set_option maxHeartbeats 32000000 in
set_option maxRecDepth 10000 in
theorem s_ok (a b c : Int) (x : Option Addr) (n cap A k : Nat) (l : List Ch) (d1 : decide ((300 : Int) < (n : Int)) = false) (hn : n ≤ 300) (hA : A ≤ 255) (ht : Int.tmod (A : Int) ((n : Int) + 1) = (k : Int)) (kn : (k : Int) ≤ (n : Int)) (kc : (k : Int) ≤ (cap : Int)) (hl : Hid (l.length ≤ 500)) (hl2 : Hid ((l.drop k).length ≤ 500)) (hl3 : Hid ((l.take k).length ≤ 500)) (hal : Hid Alive) (w : World) (hR : Hid (RowG 5 w (.slice x n cap) (l.map chL))) (hRlo : Hid (RowG 5 w (.slice (loA x k cap) (n - k) (cap - k)) ((l.drop k).map chL))) (hRhi : Hid (RowG 5 w (.slice x k cap) ((l.take k).map chL))) : Calls Try.prog 7 #[.agg #[.int .i64 a, .int .i64 b, .int .i64 c], .slice x n cap, .int .u8 (A : Int)] w fun e w' => e = .returned (.bool true) ∧ Below w.heap.size w w' := by
  have HO := hide (Blk.new w #[.int .i64 a, .int .i64 b, .int .i64 c] 22)
  replace hR := hide ((unhide hR).alloc (.cells #[.int .i64 a, .int .i64 b, .int .i64 c] 22))
  replace hRlo := hide ((unhide hRlo).alloc (.cells #[.int .i64 a, .int .i64 b, .int .i64 c] 22))
  replace hRhi := hide ((unhide hRhi).alloc (.cells #[.int .i64 a, .int .i64 b, .int .i64 c] 22))
  have hne : ((n : Int) + 1) ≠ 0 := by omega
  go_enter Try.func7, Try.ntmps7
  go_wp2_with fail
  refine (unhide hal _).mono ?_
  rintro e w1 ⟨rfl, hb⟩
  have HB := hide (below_via (below1 w _) hb)
  replace HO := hide ((show Blk _ _ _ _ from unhide HO).keep hb)
  have HR := hide ((show RowG _ _ _ _ from unhide hR).keep hb)
  have HRlo := hide ((show RowG _ _ _ _ from unhide hRlo).keep hb)
  have HRhi := hide ((show RowG _ _ _ _ from unhide hRhi).keep hb)
  clear hb hR hRlo hRhi hal
  go_wp2_with fail
  go_cut [8, 9] from 15 to 112 (fun t5 t6 wx => ∃ nb r s t e, t5 = .pointer (some ⟨nb, 0, none⟩) ∧ t6 = .int .i64 e ∧ Hid (Blk wx nb (cells18 r s t) 27) ∧ Hid (RollR a b c l r s t e) ∧ Hid (Below w1.heap.size w1 wx))
  case first =>
    refine wp_region_held_drew (S := fun W => Below w1.heap.size w1 W) (by kernel_rfl) (Below.refl _ _).drew (fun hS => ?_)
    generalize hV : w1.drew = V0 at *
    clear hV
    refine wpAnyH_take (i := 0) (v := .agg #[.int .i64 a, .int .i64 b, .int .i64 c]) rfl (by kernel_rfl) (by kernel_rfl) (by kernel_rfl) (fun _ _ _ h => h) (Or.inl ⟨by rfl, fun W hS => by have f0 := ((show Blk _ _ _ _ from unhide HO).keep hS).at 0 _ rfl; have f1 := ((show Blk _ _ _ _ from unhide HO).keep hS).at 1 _ rfl; have f2 := ((show Blk _ _ _ _ from unhide HO).keep hS).at 2 _ rfl; go_simp⟩) hS ?_
    refine wpAnyH_take (i := 1) (v := .slice x n cap) rfl (by kernel_rfl) (by kernel_rfl) (by kernel_rfl) (fun _ _ _ h => h) (Or.inl ⟨by rfl, fun W hS => by go_simp⟩) hS ?_
    refine wpAnyH_all (rs := [2, 7]) (by kernel_rfl) (by simp) (AllReadyH.cons (i := 2) rfl (fun KK hK => ?_) (AllReadyH.cons (i := 7) rfl (fun KK hK => ?_) AllReadyH.nil))
    · rw [if_pos (by rfl)]
      have HQ := hide (to_any _ _ V0 ((show RowG _ _ _ _ from unhide HR).keep hS) (by have := unhide hl; omega))
      have hzHG := hide hS.size
      have hS1 := hide hS
      clear hS
      go_wp2_with fail
      refine (unhide HQ).mono ?_
      rintro e Z1 ⟨uHG, rfl, hg⟩
      have hb := hg.below
      have HG := hide hg
      clear hg HQ
      have hS2 := hide (below_keep (unhide hS1) hb (unhide hS1).size)
      clear hS1 hb
      go_wp2_with fail
      refine hK.out _ _ (unhide hS2) (fun hS => ?_)
      clear hK hS2
      refine wpAnyH_all (rs := [3, 7]) (by kernel_rfl) (by simp) (AllReadyH.cons (i := 3) rfl (fun KK hK => ?_) (AllReadyH.cons (i := 7) rfl (fun KK hK => ?_) AllReadyH.nil))
      · rw [if_pos (by rfl)]
        have HQ := hide (roll_any Z1 _ a b c l ((show GrowG _ _ _ _ _ _ from unhide HG).row))
        have hS1 := hide hS
        clear hS
        go_wp2_with fail
        refine (unhide HQ).mono ?_
        rintro e Z2 ⟨r, s, t, e1, rfl, hb, hr⟩
        have HRR := hide hr
        clear hr HQ
        replace HG := hide ((show GrowG _ _ V0 _ _ _ from unhide HG).keep hb)
        have hS2 := hide (below_keep (unhide hS1) hb (unhide hS1).size)
        clear hS1 hb
        go_wp2_with fail
        refine hK.out _ _ (unhide hS2) (fun hS => ?_)
        clear hK hS2
        refine wpAnyH_take (i := 4) (v := .tuple #[.agg (cells18 r s t), .int .i64 e1]) rfl (by kernel_rfl) (by kernel_rfl) (by kernel_rfl) (fun _ _ _ h => h) (Or.inl ⟨by rfl, fun W hS => by go_simp⟩) hS ?_
        refine wpAnyH_take (i := 5) (v := .agg (cells18 r s t)) rfl (by kernel_rfl) (by kernel_rfl) (by kernel_rfl) (fun _ _ _ h => h) (Or.inl ⟨by rfl, fun W hS => by go_simp⟩) hS ?_
        refine wpAnyH_take (i := 6) (v := .int .i64 e1) rfl (by kernel_rfl) (by kernel_rfl) (by kernel_rfl) (fun _ _ _ h => h) (Or.inl ⟨by rfl, fun W hS => by go_simp⟩) hS ?_
        refine wpAnyH_all (rs := [7]) (by kernel_rfl) (by simp) (AllReadyH.cons (i := 7) rfl (fun KK hK => ?_) AllReadyH.nil)
        rw [if_pos (by rfl)]
        have HD := hide (Blk.new Z2 #[.int .i64 0, .int .i64 0, .int .i64 0, .int .i64 0, .int .i64 0, .int .i64 0, .int .i64 0, .int .i64 0, .int .i64 0, .int .i64 0, .int .i64 0, .int .i64 0, .int .i64 0, .int .i64 0, .int .i64 0, .int .i64 0, .int .i64 0, .int .i64 0] 27)
        have hlt := hide hS.size
        have hS1 := hide (below_keep hS (below1 Z2 (.cells #[.int .i64 0, .int .i64 0, .int .i64 0, .int .i64 0, .int .i64 0, .int .i64 0, .int .i64 0, .int .i64 0, .int .i64 0, .int .i64 0, .int .i64 0, .int .i64 0, .int .i64 0, .int .i64 0, .int .i64 0, .int .i64 0, .int .i64 0, .int .i64 0] 27)) hS.size)
        replace HG := hide ((show GrowG _ _ V0 _ _ _ from unhide HG).keep (below1 Z2 (.cells #[.int .i64 0, .int .i64 0, .int .i64 0, .int .i64 0, .int .i64 0, .int .i64 0, .int .i64 0, .int .i64 0, .int .i64 0, .int .i64 0, .int .i64 0, .int .i64 0, .int .i64 0, .int .i64 0, .int .i64 0, .int .i64 0, .int .i64 0, .int .i64 0] 27)))
        clear hS
        go_wp2_with fail
        refine hK.out _ _ (unhide hS1) (fun hS => ?_)
        clear hK hS1
        generalize Z2.alloc (.cells #[.int .i64 0, .int .i64 0, .int .i64 0, .int .i64 0, .int .i64 0, .int .i64 0, .int .i64 0, .int .i64 0, .int .i64 0, .int .i64 0, .int .i64 0, .int .i64 0, .int .i64 0, .int .i64 0, .int .i64 0, .int .i64 0, .int .i64 0, .int .i64 0] 27) = Z3 at *
        generalize Z2.heap.size = nb at *
        refine wpAnyH_all (rs := [8]) (by kernel_rfl) (by simp) (AllReadyH.cons (i := 8) rfl (fun KK hK => ?_) AllReadyH.nil)
        rw [if_pos (by rfl)]
        refine storeO_blk 27 _ _ rfl (show Blk _ _ _ _ from unhide HD) rfl rfl size27 rfl rfl rfl ?_
        intro Y1 k1 kp
        have hS1 := hide (kp.bel (unhide hlt) hS)
        have HX := hide k1
        clear hS kp k1 HD
        refine hK.out _ _ (unhide hS1) (fun hS => ?_)
        clear hK hS1
        refine wpAnyH_all (rs := [9]) (by kernel_rfl) (by simp) (AllReadyH.cons (i := 9) rfl (fun KK hK => ?_) AllReadyH.nil)
        rw [if_pos (by rfl)]
        have hS1 := hide hS
        clear hS
        go_wp2_with fail
        refine hK.out _ _ (unhide hS1) (fun hS => ?_)
        clear hK hS1
        refine wpAnyH_done (by kernel_rfl) ?_ _
        have hS1 := hide hS
        clear hS
        go_wp2_with fail
        go_meet
        exact ⟨_, r, s, t, e1, rfl, rfl, HX, HRR, hS1⟩
      · rw [if_pos (by rfl)]
        have HD := hide (Blk.new Z1 #[.int .i64 0, .int .i64 0, .int .i64 0, .int .i64 0, .int .i64 0, .int .i64 0, .int .i64 0, .int .i64 0, .int .i64 0, .int .i64 0, .int .i64 0, .int .i64 0, .int .i64 0, .int .i64 0, .int .i64 0, .int .i64 0, .int .i64 0, .int .i64 0] 27)
        have hlt := hide hS.size
        have hS1 := hide (below_keep hS (below1 Z1 (.cells #[.int .i64 0, .int .i64 0, .int .i64 0, .int .i64 0, .int .i64 0, .int .i64 0, .int .i64 0, .int .i64 0, .int .i64 0, .int .i64 0, .int .i64 0, .int .i64 0, .int .i64 0, .int .i64 0, .int .i64 0, .int .i64 0, .int .i64 0, .int .i64 0] 27)) hS.size)
        replace HG := hide ((show GrowG _ _ V0 _ _ _ from unhide HG).keep (below1 Z1 (.cells #[.int .i64 0, .int .i64 0, .int .i64 0, .int .i64 0, .int .i64 0, .int .i64 0, .int .i64 0, .int .i64 0, .int .i64 0, .int .i64 0, .int .i64 0, .int .i64 0, .int .i64 0, .int .i64 0, .int .i64 0, .int .i64 0, .int .i64 0, .int .i64 0] 27)))
        clear hS
        go_wp2_with fail
        refine hK.out _ _ (unhide hS1) (fun hS => ?_)
        clear hK hS1
        generalize Z1.alloc (.cells #[.int .i64 0, .int .i64 0, .int .i64 0, .int .i64 0, .int .i64 0, .int .i64 0, .int .i64 0, .int .i64 0, .int .i64 0, .int .i64 0, .int .i64 0, .int .i64 0, .int .i64 0, .int .i64 0, .int .i64 0, .int .i64 0, .int .i64 0, .int .i64 0] 27) = Z4 at *
        generalize Z1.heap.size = nb at *
        refine wpAnyH_all (rs := [3]) (by kernel_rfl) (by simp) (AllReadyH.cons (i := 3) rfl (fun KK hK => ?_) AllReadyH.nil)
        rw [if_pos (by rfl)]
        have HQ := hide (roll_any Z4 _ a b c l ((show GrowG _ _ _ _ _ _ from unhide HG).row))
        have hS1 := hide hS
        clear hS
        go_wp2_with fail
        refine (unhide HQ).mono ?_
        rintro e Z5 ⟨r, s, t, e1, rfl, hb, hr⟩
        have HRR := hide hr
        clear hr HQ
        replace HG := hide ((show GrowG _ _ V0 _ _ _ from unhide HG).keep hb)
        replace HD := hide ((show Blk _ _ _ _ from unhide HD).keep hb)
        have hS2 := hide (below_keep (unhide hS1) hb (unhide hS1).size)
        clear hS1 hb
        go_wp2_with fail
        refine hK.out _ _ (unhide hS2) (fun hS => ?_)
        clear hK hS2
        refine wpAnyH_take (i := 4) (v := .tuple #[.agg (cells18 r s t), .int .i64 e1]) rfl (by kernel_rfl) (by kernel_rfl) (by kernel_rfl) (fun _ _ _ h => h) (Or.inl ⟨by rfl, fun W hS => by go_simp⟩) hS ?_
        refine wpAnyH_take (i := 5) (v := .agg (cells18 r s t)) rfl (by kernel_rfl) (by kernel_rfl) (by kernel_rfl) (fun _ _ _ h => h) (Or.inl ⟨by rfl, fun W hS => by go_simp⟩) hS ?_
        refine wpAnyH_take (i := 6) (v := .int .i64 e1) rfl (by kernel_rfl) (by kernel_rfl) (by kernel_rfl) (fun _ _ _ h => h) (Or.inl ⟨by rfl, fun W hS => by go_simp⟩) hS ?_
        refine wpAnyH_all (rs := [8]) (by kernel_rfl) (by simp) (AllReadyH.cons (i := 8) rfl (fun KK hK => ?_) AllReadyH.nil)
        rw [if_pos (by rfl)]
        refine storeO_blk 27 _ _ rfl (show Blk _ _ _ _ from unhide HD) rfl rfl size27 rfl rfl rfl ?_
        intro Y1 k1 kp
        have hS1 := hide (kp.bel (unhide hlt) hS)
        have HX := hide k1
        clear hS kp k1 HD
        refine hK.out _ _ (unhide hS1) (fun hS => ?_)
        clear hK hS1
        refine wpAnyH_all (rs := [9]) (by kernel_rfl) (by simp) (AllReadyH.cons (i := 9) rfl (fun KK hK => ?_) AllReadyH.nil)
        rw [if_pos (by rfl)]
        have hS1 := hide hS
        clear hS
        go_wp2_with fail
        refine hK.out _ _ (unhide hS1) (fun hS => ?_)
        clear hK hS1
        refine wpAnyH_done (by kernel_rfl) ?_ _
        have hS1 := hide hS
        clear hS
        go_wp2_with fail
        go_meet
        exact ⟨_, r, s, t, e1, rfl, rfl, HX, HRR, hS1⟩
    · rw [if_pos (by rfl)]
      have HD := hide (Blk.new V0 #[.int .i64 0, .int .i64 0, .int .i64 0, .int .i64 0, .int .i64 0, .int .i64 0, .int .i64 0, .int .i64 0, .int .i64 0, .int .i64 0, .int .i64 0, .int .i64 0, .int .i64 0, .int .i64 0, .int .i64 0, .int .i64 0, .int .i64 0, .int .i64 0] 27)
      have hlt := hide hS.size
      have hS1 := hide (below_keep hS (below1 V0 (.cells #[.int .i64 0, .int .i64 0, .int .i64 0, .int .i64 0, .int .i64 0, .int .i64 0, .int .i64 0, .int .i64 0, .int .i64 0, .int .i64 0, .int .i64 0, .int .i64 0, .int .i64 0, .int .i64 0, .int .i64 0, .int .i64 0, .int .i64 0, .int .i64 0] 27)) hS.size)
      clear hS
      go_wp2_with fail
      refine hK.out _ _ (unhide hS1) (fun hS => ?_)
      clear hK hS1
      generalize V0.alloc (.cells #[.int .i64 0, .int .i64 0, .int .i64 0, .int .i64 0, .int .i64 0, .int .i64 0, .int .i64 0, .int .i64 0, .int .i64 0, .int .i64 0, .int .i64 0, .int .i64 0, .int .i64 0, .int .i64 0, .int .i64 0, .int .i64 0, .int .i64 0, .int .i64 0] 27) = Z6 at *
      generalize V0.heap.size = nb at *
      refine wpAnyH_all (rs := [2]) (by kernel_rfl) (by simp) (AllReadyH.cons (i := 2) rfl (fun KK hK => ?_) AllReadyH.nil)
      rw [if_pos (by rfl)]
      have HQ := hide (to_any _ _ Z6 ((show RowG _ _ _ _ from unhide HR).keep hS) (by have := unhide hl; omega))
      have hzHG := hide hS.size
      have hS1 := hide hS
      clear hS
      go_wp2_with fail
      refine (unhide HQ).mono ?_
      rintro e Z7 ⟨uHG, rfl, hg⟩
      have hb := hg.below
      have HG := hide hg
      clear hg HQ
      replace HD := hide ((show Blk _ _ _ _ from unhide HD).keep hb)
      have hS2 := hide (below_keep (unhide hS1) hb (unhide hS1).size)
      clear hS1 hb
      go_wp2_with fail
      refine hK.out _ _ (unhide hS2) (fun hS => ?_)
      clear hK hS2
      refine wpAnyH_all (rs := [3]) (by kernel_rfl) (by simp) (AllReadyH.cons (i := 3) rfl (fun KK hK => ?_) AllReadyH.nil)
      rw [if_pos (by rfl)]
      have HQ := hide (roll_any Z7 _ a b c l ((show GrowG _ _ _ _ _ _ from unhide HG).row))
      have hS1 := hide hS
      clear hS
      go_wp2_with fail
      refine (unhide HQ).mono ?_
      rintro e Z8 ⟨r, s, t, e1, rfl, hb, hr⟩
      have HRR := hide hr
      clear hr HQ
      replace HG := hide ((show GrowG _ _ Z6 _ _ _ from unhide HG).keep hb)
      replace HD := hide ((show Blk _ _ _ _ from unhide HD).keep hb)
      have hS2 := hide (below_keep (unhide hS1) hb (unhide hS1).size)
      clear hS1 hb
      go_wp2_with fail
      refine hK.out _ _ (unhide hS2) (fun hS => ?_)
      clear hK hS2
      refine wpAnyH_take (i := 4) (v := .tuple #[.agg (cells18 r s t), .int .i64 e1]) rfl (by kernel_rfl) (by kernel_rfl) (by kernel_rfl) (fun _ _ _ h => h) (Or.inl ⟨by rfl, fun W hS => by go_simp⟩) hS ?_
      refine wpAnyH_take (i := 5) (v := .agg (cells18 r s t)) rfl (by kernel_rfl) (by kernel_rfl) (by kernel_rfl) (fun _ _ _ h => h) (Or.inl ⟨by rfl, fun W hS => by go_simp⟩) hS ?_
      refine wpAnyH_take (i := 6) (v := .int .i64 e1) rfl (by kernel_rfl) (by kernel_rfl) (by kernel_rfl) (fun _ _ _ h => h) (Or.inl ⟨by rfl, fun W hS => by go_simp⟩) hS ?_
      refine wpAnyH_all (rs := [8]) (by kernel_rfl) (by simp) (AllReadyH.cons (i := 8) rfl (fun KK hK => ?_) AllReadyH.nil)
      rw [if_pos (by rfl)]
      refine storeO_blk 27 _ _ rfl (show Blk _ _ _ _ from unhide HD) rfl rfl size27 rfl rfl rfl ?_
      intro Y1 k1 kp
      have hS1 := hide (kp.bel (unhide hlt) hS)
      have HX := hide k1
      clear hS kp k1 HD
      refine hK.out _ _ (unhide hS1) (fun hS => ?_)
      clear hK hS1
      refine wpAnyH_all (rs := [9]) (by kernel_rfl) (by simp) (AllReadyH.cons (i := 9) rfl (fun KK hK => ?_) AllReadyH.nil)
      rw [if_pos (by rfl)]
      have hS1 := hide hS
      clear hS
      go_wp2_with fail
      refine hK.out _ _ (unhide hS1) (fun hS => ?_)
      clear hK hS1
      refine wpAnyH_done (by kernel_rfl) ?_ _
      have hS1 := hide hS
      clear hS
      go_wp2_with fail
      go_meet
      exact ⟨_, r, s, t, e1, rfl, rfl, HX, HRR, hS1⟩
  case rest =>
    obtain ⟨xb, r, s, t, e1, rfl, rfl, HX, HRR1, HW⟩ := hcut
    replace HB := hide (below_via (unhide HB) (unhide HW))
    replace HO := hide ((show Blk _ _ _ _ from unhide HO).keep (unhide HW))
    replace HRlo := hide ((show RowG _ _ _ _ from unhide HRlo).keep (unhide HW))
    replace HRhi := hide ((show RowG _ _ _ _ from unhide HRhi).keep (unhide HW))
    clear HW HR
    generalize hwc : wc = w2 at *
    clear hwc
    go_wp2_with fail
    go_cut [10, 11] from 15 to 112 (fun t5 t6 wx => ∃ nb r s t e, t5 = .pointer (some ⟨nb, 0, none⟩) ∧ t6 = .int .i64 e ∧ Hid (Blk wx nb (cells18 r s t) 27) ∧ Hid (RollR a b c (l.take k) r s t e) ∧ Hid (Below w2.heap.size w2 wx))
    case first =>
      refine wp_region_held_drew (S := fun W => Below w2.heap.size w2 W) (by kernel_rfl) (Below.refl _ _).drew (fun hS => ?_)
      generalize hV : w2.drew = V0 at *
      clear hV
      refine wpAnyH_take (i := 0) (v := .agg #[.int .i64 a, .int .i64 b, .int .i64 c]) rfl (by kernel_rfl) (by kernel_rfl) (by kernel_rfl) (fun _ _ _ h => h) (Or.inl ⟨by rfl, fun W hS => by have f0 := ((show Blk _ _ _ _ from unhide HO).keep hS).at 0 _ rfl; have f1 := ((show Blk _ _ _ _ from unhide HO).keep hS).at 1 _ rfl; have f2 := ((show Blk _ _ _ _ from unhide HO).keep hS).at 2 _ rfl; go_simp⟩) hS ?_
      refine wpAnyH_take (i := 1) (v := .slice x n cap) rfl (by kernel_rfl) (by kernel_rfl) (by kernel_rfl) (fun _ _ _ h => h) (Or.inl ⟨by rfl, fun W hS => by go_simp⟩) hS ?_
      refine wpAnyH_take (i := 2) (v := .int .i64 (k : Int)) rfl (by kernel_rfl) (by kernel_rfl) (by kernel_rfl) (fun _ _ _ h => h) (Or.inl ⟨by rfl, fun W hS => by go_simp⟩) hS ?_
      refine wpAnyH_take (i := 3) (v := .slice x k cap) rfl (by kernel_rfl) (by kernel_rfl) (by kernel_rfl) (fun _ _ _ h => h) (Or.inl ⟨by rfl, fun W hS => by have f1 := sl_hi x n cap k kc W; go_simp⟩) hS ?_
      refine wpAnyH_all (rs := [4, 9]) (by kernel_rfl) (by simp) (AllReadyH.cons (i := 4) rfl (fun KK hK => ?_) (AllReadyH.cons (i := 9) rfl (fun KK hK => ?_) AllReadyH.nil))
      · rw [if_pos (by rfl)]
        have HQ := hide (to_any _ _ V0 ((show RowG _ _ _ _ from unhide HRhi).keep hS) (by have := unhide hl3; omega))
        have hzHG := hide hS.size
        have hS1 := hide hS
        clear hS
        go_wp2_with fail
        refine (unhide HQ).mono ?_
        rintro e Z1 ⟨uHG, rfl, hg⟩
        have hb := hg.below
        have HG := hide hg
        clear hg HQ
        have hS2 := hide (below_keep (unhide hS1) hb (unhide hS1).size)
        clear hS1 hb
        go_wp2_with fail
        refine hK.out _ _ (unhide hS2) (fun hS => ?_)
        clear hK hS2
        refine wpAnyH_all (rs := [5, 9]) (by kernel_rfl) (by simp) (AllReadyH.cons (i := 5) rfl (fun KK hK => ?_) (AllReadyH.cons (i := 9) rfl (fun KK hK => ?_) AllReadyH.nil))
        · rw [if_pos (by rfl)]
          have HQ := hide (roll_any Z1 _ a b c (l.take k) ((show GrowG _ _ _ _ _ _ from unhide HG).row))
          have hS1 := hide hS
          clear hS
          go_wp2_with fail
          refine (unhide HQ).mono ?_
          rintro e Z2 ⟨r, s, t, e1, rfl, hb, hr⟩
          have HRR := hide hr
          clear hr HQ
          replace HG := hide ((show GrowG _ _ V0 _ _ _ from unhide HG).keep hb)
          have hS2 := hide (below_keep (unhide hS1) hb (unhide hS1).size)
          clear hS1 hb
          go_wp2_with fail
          refine hK.out _ _ (unhide hS2) (fun hS => ?_)
          clear hK hS2
          refine wpAnyH_take (i := 6) (v := .tuple #[.agg (cells18 r s t), .int .i64 e1]) rfl (by kernel_rfl) (by kernel_rfl) (by kernel_rfl) (fun _ _ _ h => h) (Or.inl ⟨by rfl, fun W hS => by go_simp⟩) hS ?_
          refine wpAnyH_take (i := 7) (v := .agg (cells18 r s t)) rfl (by kernel_rfl) (by kernel_rfl) (by kernel_rfl) (fun _ _ _ h => h) (Or.inl ⟨by rfl, fun W hS => by go_simp⟩) hS ?_
          refine wpAnyH_take (i := 8) (v := .int .i64 e1) rfl (by kernel_rfl) (by kernel_rfl) (by kernel_rfl) (fun _ _ _ h => h) (Or.inl ⟨by rfl, fun W hS => by go_simp⟩) hS ?_
          refine wpAnyH_all (rs := [9]) (by kernel_rfl) (by simp) (AllReadyH.cons (i := 9) rfl (fun KK hK => ?_) AllReadyH.nil)
          rw [if_pos (by rfl)]
          have HD := hide (Blk.new Z2 #[.int .i64 0, .int .i64 0, .int .i64 0, .int .i64 0, .int .i64 0, .int .i64 0, .int .i64 0, .int .i64 0, .int .i64 0, .int .i64 0, .int .i64 0, .int .i64 0, .int .i64 0, .int .i64 0, .int .i64 0, .int .i64 0, .int .i64 0, .int .i64 0] 27)
          have hlt := hide hS.size
          have hS1 := hide (below_keep hS (below1 Z2 (.cells #[.int .i64 0, .int .i64 0, .int .i64 0, .int .i64 0, .int .i64 0, .int .i64 0, .int .i64 0, .int .i64 0, .int .i64 0, .int .i64 0, .int .i64 0, .int .i64 0, .int .i64 0, .int .i64 0, .int .i64 0, .int .i64 0, .int .i64 0, .int .i64 0] 27)) hS.size)
          replace HG := hide ((show GrowG _ _ V0 _ _ _ from unhide HG).keep (below1 Z2 (.cells #[.int .i64 0, .int .i64 0, .int .i64 0, .int .i64 0, .int .i64 0, .int .i64 0, .int .i64 0, .int .i64 0, .int .i64 0, .int .i64 0, .int .i64 0, .int .i64 0, .int .i64 0, .int .i64 0, .int .i64 0, .int .i64 0, .int .i64 0, .int .i64 0] 27)))
          clear hS
          go_wp2_with fail
          refine hK.out _ _ (unhide hS1) (fun hS => ?_)
          clear hK hS1
          generalize Z2.alloc (.cells #[.int .i64 0, .int .i64 0, .int .i64 0, .int .i64 0, .int .i64 0, .int .i64 0, .int .i64 0, .int .i64 0, .int .i64 0, .int .i64 0, .int .i64 0, .int .i64 0, .int .i64 0, .int .i64 0, .int .i64 0, .int .i64 0, .int .i64 0, .int .i64 0] 27) = Z3 at *
          generalize Z2.heap.size = nb at *
          refine wpAnyH_all (rs := [10]) (by kernel_rfl) (by simp) (AllReadyH.cons (i := 10) rfl (fun KK hK => ?_) AllReadyH.nil)
          rw [if_pos (by rfl)]
          refine storeO_blk 27 _ _ rfl (show Blk _ _ _ _ from unhide HD) rfl rfl size27 rfl rfl rfl ?_
          intro Y1 k1 kp
          have hS1 := hide (kp.bel (unhide hlt) hS)
          have HX := hide k1
          clear hS kp k1 HD
          refine hK.out _ _ (unhide hS1) (fun hS => ?_)
          clear hK hS1
          refine wpAnyH_all (rs := [11]) (by kernel_rfl) (by simp) (AllReadyH.cons (i := 11) rfl (fun KK hK => ?_) AllReadyH.nil)
          rw [if_pos (by rfl)]
          have hS1 := hide hS
          clear hS
          go_wp2_with fail
          refine hK.out _ _ (unhide hS1) (fun hS => ?_)
          clear hK hS1
          refine wpAnyH_done (by kernel_rfl) ?_ _
          have hS1 := hide hS
          clear hS
          go_wp2_with fail
          go_meet
          exact ⟨_, r, s, t, e1, rfl, rfl, HX, HRR, hS1⟩
        · rw [if_pos (by rfl)]
          have HD := hide (Blk.new Z1 #[.int .i64 0, .int .i64 0, .int .i64 0, .int .i64 0, .int .i64 0, .int .i64 0, .int .i64 0, .int .i64 0, .int .i64 0, .int .i64 0, .int .i64 0, .int .i64 0, .int .i64 0, .int .i64 0, .int .i64 0, .int .i64 0, .int .i64 0, .int .i64 0] 27)
          have hlt := hide hS.size
          have hS1 := hide (below_keep hS (below1 Z1 (.cells #[.int .i64 0, .int .i64 0, .int .i64 0, .int .i64 0, .int .i64 0, .int .i64 0, .int .i64 0, .int .i64 0, .int .i64 0, .int .i64 0, .int .i64 0, .int .i64 0, .int .i64 0, .int .i64 0, .int .i64 0, .int .i64 0, .int .i64 0, .int .i64 0] 27)) hS.size)
          replace HG := hide ((show GrowG _ _ V0 _ _ _ from unhide HG).keep (below1 Z1 (.cells #[.int .i64 0, .int .i64 0, .int .i64 0, .int .i64 0, .int .i64 0, .int .i64 0, .int .i64 0, .int .i64 0, .int .i64 0, .int .i64 0, .int .i64 0, .int .i64 0, .int .i64 0, .int .i64 0, .int .i64 0, .int .i64 0, .int .i64 0, .int .i64 0] 27)))
          clear hS
          go_wp2_with fail
          refine hK.out _ _ (unhide hS1) (fun hS => ?_)
          clear hK hS1
          generalize Z1.alloc (.cells #[.int .i64 0, .int .i64 0, .int .i64 0, .int .i64 0, .int .i64 0, .int .i64 0, .int .i64 0, .int .i64 0, .int .i64 0, .int .i64 0, .int .i64 0, .int .i64 0, .int .i64 0, .int .i64 0, .int .i64 0, .int .i64 0, .int .i64 0, .int .i64 0] 27) = Z4 at *
          generalize Z1.heap.size = nb at *
          refine wpAnyH_all (rs := [5]) (by kernel_rfl) (by simp) (AllReadyH.cons (i := 5) rfl (fun KK hK => ?_) AllReadyH.nil)
          rw [if_pos (by rfl)]
          have HQ := hide (roll_any Z4 _ a b c (l.take k) ((show GrowG _ _ _ _ _ _ from unhide HG).row))
          have hS1 := hide hS
          clear hS
          go_wp2_with fail
          refine (unhide HQ).mono ?_
          rintro e Z5 ⟨r, s, t, e1, rfl, hb, hr⟩
          have HRR := hide hr
          clear hr HQ
          replace HG := hide ((show GrowG _ _ V0 _ _ _ from unhide HG).keep hb)
          replace HD := hide ((show Blk _ _ _ _ from unhide HD).keep hb)
          have hS2 := hide (below_keep (unhide hS1) hb (unhide hS1).size)
          clear hS1 hb
          go_wp2_with fail
          refine hK.out _ _ (unhide hS2) (fun hS => ?_)
          clear hK hS2
          refine wpAnyH_take (i := 6) (v := .tuple #[.agg (cells18 r s t), .int .i64 e1]) rfl (by kernel_rfl) (by kernel_rfl) (by kernel_rfl) (fun _ _ _ h => h) (Or.inl ⟨by rfl, fun W hS => by go_simp⟩) hS ?_
          refine wpAnyH_take (i := 7) (v := .agg (cells18 r s t)) rfl (by kernel_rfl) (by kernel_rfl) (by kernel_rfl) (fun _ _ _ h => h) (Or.inl ⟨by rfl, fun W hS => by go_simp⟩) hS ?_
          refine wpAnyH_take (i := 8) (v := .int .i64 e1) rfl (by kernel_rfl) (by kernel_rfl) (by kernel_rfl) (fun _ _ _ h => h) (Or.inl ⟨by rfl, fun W hS => by go_simp⟩) hS ?_
          refine wpAnyH_all (rs := [10]) (by kernel_rfl) (by simp) (AllReadyH.cons (i := 10) rfl (fun KK hK => ?_) AllReadyH.nil)
          rw [if_pos (by rfl)]
          refine storeO_blk 27 _ _ rfl (show Blk _ _ _ _ from unhide HD) rfl rfl size27 rfl rfl rfl ?_
          intro Y1 k1 kp
          have hS1 := hide (kp.bel (unhide hlt) hS)
          have HX := hide k1
          clear hS kp k1 HD
          refine hK.out _ _ (unhide hS1) (fun hS => ?_)
          clear hK hS1
          refine wpAnyH_all (rs := [11]) (by kernel_rfl) (by simp) (AllReadyH.cons (i := 11) rfl (fun KK hK => ?_) AllReadyH.nil)
          rw [if_pos (by rfl)]
          have hS1 := hide hS
          clear hS
          go_wp2_with fail
          refine hK.out _ _ (unhide hS1) (fun hS => ?_)
          clear hK hS1
          refine wpAnyH_done (by kernel_rfl) ?_ _
          have hS1 := hide hS
          clear hS
          go_wp2_with fail
          go_meet
          exact ⟨_, r, s, t, e1, rfl, rfl, HX, HRR, hS1⟩
      · rw [if_pos (by rfl)]
        have HD := hide (Blk.new V0 #[.int .i64 0, .int .i64 0, .int .i64 0, .int .i64 0, .int .i64 0, .int .i64 0, .int .i64 0, .int .i64 0, .int .i64 0, .int .i64 0, .int .i64 0, .int .i64 0, .int .i64 0, .int .i64 0, .int .i64 0, .int .i64 0, .int .i64 0, .int .i64 0] 27)
        have hlt := hide hS.size
        have hS1 := hide (below_keep hS (below1 V0 (.cells #[.int .i64 0, .int .i64 0, .int .i64 0, .int .i64 0, .int .i64 0, .int .i64 0, .int .i64 0, .int .i64 0, .int .i64 0, .int .i64 0, .int .i64 0, .int .i64 0, .int .i64 0, .int .i64 0, .int .i64 0, .int .i64 0, .int .i64 0, .int .i64 0] 27)) hS.size)
        clear hS
        go_wp2_with fail
        refine hK.out _ _ (unhide hS1) (fun hS => ?_)
        clear hK hS1
        generalize V0.alloc (.cells #[.int .i64 0, .int .i64 0, .int .i64 0, .int .i64 0, .int .i64 0, .int .i64 0, .int .i64 0, .int .i64 0, .int .i64 0, .int .i64 0, .int .i64 0, .int .i64 0, .int .i64 0, .int .i64 0, .int .i64 0, .int .i64 0, .int .i64 0, .int .i64 0] 27) = Z6 at *
        generalize V0.heap.size = nb at *
        refine wpAnyH_all (rs := [4]) (by kernel_rfl) (by simp) (AllReadyH.cons (i := 4) rfl (fun KK hK => ?_) AllReadyH.nil)
        rw [if_pos (by rfl)]
        have HQ := hide (to_any _ _ Z6 ((show RowG _ _ _ _ from unhide HRhi).keep hS) (by have := unhide hl3; omega))
        have hzHG := hide hS.size
        have hS1 := hide hS
        clear hS
        go_wp2_with fail
        refine (unhide HQ).mono ?_
        rintro e Z7 ⟨uHG, rfl, hg⟩
        have hb := hg.below
        have HG := hide hg
        clear hg HQ
        replace HD := hide ((show Blk _ _ _ _ from unhide HD).keep hb)
        have hS2 := hide (below_keep (unhide hS1) hb (unhide hS1).size)
        clear hS1 hb
        go_wp2_with fail
        refine hK.out _ _ (unhide hS2) (fun hS => ?_)
        clear hK hS2
        refine wpAnyH_all (rs := [5]) (by kernel_rfl) (by simp) (AllReadyH.cons (i := 5) rfl (fun KK hK => ?_) AllReadyH.nil)
        rw [if_pos (by rfl)]
        have HQ := hide (roll_any Z7 _ a b c (l.take k) ((show GrowG _ _ _ _ _ _ from unhide HG).row))
        have hS1 := hide hS
        clear hS
        go_wp2_with fail
        refine (unhide HQ).mono ?_
        rintro e Z8 ⟨r, s, t, e1, rfl, hb, hr⟩
        have HRR := hide hr
        clear hr HQ
        replace HG := hide ((show GrowG _ _ Z6 _ _ _ from unhide HG).keep hb)
        replace HD := hide ((show Blk _ _ _ _ from unhide HD).keep hb)
        have hS2 := hide (below_keep (unhide hS1) hb (unhide hS1).size)
        clear hS1 hb
        go_wp2_with fail
        refine hK.out _ _ (unhide hS2) (fun hS => ?_)
        clear hK hS2
        refine wpAnyH_take (i := 6) (v := .tuple #[.agg (cells18 r s t), .int .i64 e1]) rfl (by kernel_rfl) (by kernel_rfl) (by kernel_rfl) (fun _ _ _ h => h) (Or.inl ⟨by rfl, fun W hS => by go_simp⟩) hS ?_
        refine wpAnyH_take (i := 7) (v := .agg (cells18 r s t)) rfl (by kernel_rfl) (by kernel_rfl) (by kernel_rfl) (fun _ _ _ h => h) (Or.inl ⟨by rfl, fun W hS => by go_simp⟩) hS ?_
        refine wpAnyH_take (i := 8) (v := .int .i64 e1) rfl (by kernel_rfl) (by kernel_rfl) (by kernel_rfl) (fun _ _ _ h => h) (Or.inl ⟨by rfl, fun W hS => by go_simp⟩) hS ?_
        refine wpAnyH_all (rs := [10]) (by kernel_rfl) (by simp) (AllReadyH.cons (i := 10) rfl (fun KK hK => ?_) AllReadyH.nil)
        rw [if_pos (by rfl)]
        refine storeO_blk 27 _ _ rfl (show Blk _ _ _ _ from unhide HD) rfl rfl size27 rfl rfl rfl ?_
        intro Y1 k1 kp
        have hS1 := hide (kp.bel (unhide hlt) hS)
        have HX := hide k1
        clear hS kp k1 HD
        refine hK.out _ _ (unhide hS1) (fun hS => ?_)
        clear hK hS1
        refine wpAnyH_all (rs := [11]) (by kernel_rfl) (by simp) (AllReadyH.cons (i := 11) rfl (fun KK hK => ?_) AllReadyH.nil)
        rw [if_pos (by rfl)]
        have hS1 := hide hS
        clear hS
        go_wp2_with fail
        refine hK.out _ _ (unhide hS1) (fun hS => ?_)
        clear hK hS1
        refine wpAnyH_done (by kernel_rfl) ?_ _
        have hS1 := hide hS
        clear hS
        go_wp2_with fail
        go_meet
        exact ⟨_, r, s, t, e1, rfl, rfl, HX, HRR, hS1⟩
    case rest =>
      obtain ⟨yb, r1, s1, t1, e2, rfl, rfl, HY, HRR2, HW⟩ := hcut
      replace HB := hide (below_via (unhide HB) (unhide HW))
      replace HX := hide ((show Blk _ _ _ _ from unhide HX).keep (unhide HW))
      replace HRlo := hide ((show RowG _ _ _ _ from unhide HRlo).keep (unhide HW))
      clear HW HRhi HO
      generalize hwc : wc = w3 at *
      clear hwc
      by_cases g1 : e1 = 0
      · by_cases g2 : e2 = 0
        · subst g1 g2
          go_wp2_with fail
          go_cut [12, 13] from 15 to 112 (fun t5 t6 wx => ∃ nb r s t e, t5 = .pointer (some ⟨nb, 0, none⟩) ∧ t6 = .int .i64 e ∧ Hid (Blk wx nb (cells18 r s t) 27) ∧ Hid (RollR r1.z s1.z t1.z (l.drop k) r s t e) ∧ Hid (Below w3.heap.size w3 wx))
          case first =>
            refine wp_region_held_drew (S := fun W => Below w3.heap.size w3 W) (by kernel_rfl) (Below.refl _ _).drew (fun hS => ?_)
            generalize hV : w3.drew = V0 at *
            clear hV
            refine wpAnyH_take (i := 0) (v := .pointer (some ⟨yb, 0, none⟩)) rfl (by kernel_rfl) (by kernel_rfl) (by kernel_rfl) (fun _ _ _ h => h) (Or.inl ⟨by rfl, fun W hS => by go_simp⟩) hS ?_
            refine wpAnyH_take (i := 1) (v := .pointer (some ⟨yb, 5, none⟩)) rfl (by kernel_rfl) (by kernel_rfl) (by kernel_rfl) (fun _ _ _ h => h) (Or.inl ⟨by rfl, fun W hS => by go_simp⟩) hS ?_
            refine wpAnyH_take (i := 2) (v := .int .i64 r1.z) rfl (by kernel_rfl) (by kernel_rfl) (by kernel_rfl) (fun _ _ _ h => h) (Or.inl ⟨by rfl, fun W hS => by have f0 := ((show Blk _ _ _ _ from unhide HY).keep hS).at 5 _ rfl; go_simp⟩) hS ?_
            refine wpAnyH_take (i := 3) (v := .pointer (some ⟨yb, 6, none⟩)) rfl (by kernel_rfl) (by kernel_rfl) (by kernel_rfl) (fun _ _ _ h => h) (Or.inl ⟨by rfl, fun W hS => by go_simp⟩) hS ?_
            refine wpAnyH_take (i := 4) (v := .pointer (some ⟨yb, 11, none⟩)) rfl (by kernel_rfl) (by kernel_rfl) (by kernel_rfl) (fun _ _ _ h => h) (Or.inl ⟨by rfl, fun W hS => by go_simp⟩) hS ?_
            refine wpAnyH_take (i := 5) (v := .int .i64 s1.z) rfl (by kernel_rfl) (by kernel_rfl) (by kernel_rfl) (fun _ _ _ h => h) (Or.inl ⟨by rfl, fun W hS => by have f0 := ((show Blk _ _ _ _ from unhide HY).keep hS).at 11 _ rfl; go_simp⟩) hS ?_
            refine wpAnyH_take (i := 6) (v := .pointer (some ⟨yb, 12, none⟩)) rfl (by kernel_rfl) (by kernel_rfl) (by kernel_rfl) (fun _ _ _ h => h) (Or.inl ⟨by rfl, fun W hS => by go_simp⟩) hS ?_
            refine wpAnyH_take (i := 7) (v := .pointer (some ⟨yb, 17, none⟩)) rfl (by kernel_rfl) (by kernel_rfl) (by kernel_rfl) (fun _ _ _ h => h) (Or.inl ⟨by rfl, fun W hS => by go_simp⟩) hS ?_
            refine wpAnyH_take (i := 8) (v := .int .i64 t1.z) rfl (by kernel_rfl) (by kernel_rfl) (by kernel_rfl) (fun _ _ _ h => h) (Or.inl ⟨by rfl, fun W hS => by have f0 := ((show Blk _ _ _ _ from unhide HY).keep hS).at 17 _ rfl; go_simp⟩) hS ?_
            refine wpAnyH_take (i := 9) (v := .agg #[.int .i64 r1.z, .int .i64 s1.z, .int .i64 t1.z]) rfl (by kernel_rfl) (by kernel_rfl) (by kernel_rfl) (fun _ _ _ h => h) (Or.inl ⟨by rfl, fun W hS => by go_simp⟩) hS ?_
            refine wpAnyH_take (i := 10) (v := .slice x n cap) rfl (by kernel_rfl) (by kernel_rfl) (by kernel_rfl) (fun _ _ _ h => h) (Or.inl ⟨by rfl, fun W hS => by go_simp⟩) hS ?_
            refine wpAnyH_take (i := 11) (v := .int .i64 (k : Int)) rfl (by kernel_rfl) (by kernel_rfl) (by kernel_rfl) (fun _ _ _ h => h) (Or.inl ⟨by rfl, fun W hS => by go_simp⟩) hS ?_
            refine wpAnyH_take (i := 12) (v := .slice (loA x k cap) (n - k) (cap - k)) rfl (by kernel_rfl) (by kernel_rfl) (by kernel_rfl) (fun _ _ _ h => h) (Or.inl ⟨by rfl, fun W hS => by have f1 := sl_lo x n cap k kn W; go_simp⟩) hS ?_
            refine wpAnyH_all (rs := [13, 18]) (by kernel_rfl) (by simp) (AllReadyH.cons (i := 13) rfl (fun KK hK => ?_) (AllReadyH.cons (i := 18) rfl (fun KK hK => ?_) AllReadyH.nil))
            · rw [if_pos (by rfl)]
              have HQ := hide (to_any _ _ V0 ((show RowG _ _ _ _ from unhide HRlo).keep hS) (by have := unhide hl2; omega))
              have hzHG := hide hS.size
              have hS1 := hide hS
              clear hS
              go_wp2_with fail
              refine (unhide HQ).mono ?_
              rintro e Z1 ⟨uHG, rfl, hg⟩
              have hb := hg.below
              have HG := hide hg
              clear hg HQ
              have hS2 := hide (below_keep (unhide hS1) hb (unhide hS1).size)
              clear hS1 hb
              go_wp2_with fail
              refine hK.out _ _ (unhide hS2) (fun hS => ?_)
              clear hK hS2
              refine wpAnyH_all (rs := [14, 18]) (by kernel_rfl) (by simp) (AllReadyH.cons (i := 14) rfl (fun KK hK => ?_) (AllReadyH.cons (i := 18) rfl (fun KK hK => ?_) AllReadyH.nil))
              · rw [if_pos (by rfl)]
                have HQ := hide (roll_any Z1 _ r1.z s1.z t1.z (l.drop k) ((show GrowG _ _ _ _ _ _ from unhide HG).row))
                have hS1 := hide hS
                clear hS
                go_wp2_with fail
                refine (unhide HQ).mono ?_
                rintro e Z2 ⟨r, s, t, e1, rfl, hb, hr⟩
                have HRR := hide hr
                clear hr HQ
                replace HG := hide ((show GrowG _ _ V0 _ _ _ from unhide HG).keep hb)
                have hS2 := hide (below_keep (unhide hS1) hb (unhide hS1).size)
                clear hS1 hb
                go_wp2_with fail
                refine hK.out _ _ (unhide hS2) (fun hS => ?_)
                clear hK hS2
                refine wpAnyH_take (i := 15) (v := .tuple #[.agg (cells18 r s t), .int .i64 e1]) rfl (by kernel_rfl) (by kernel_rfl) (by kernel_rfl) (fun _ _ _ h => h) (Or.inl ⟨by rfl, fun W hS => by go_simp⟩) hS ?_
                refine wpAnyH_take (i := 16) (v := .agg (cells18 r s t)) rfl (by kernel_rfl) (by kernel_rfl) (by kernel_rfl) (fun _ _ _ h => h) (Or.inl ⟨by rfl, fun W hS => by go_simp⟩) hS ?_
                refine wpAnyH_take (i := 17) (v := .int .i64 e1) rfl (by kernel_rfl) (by kernel_rfl) (by kernel_rfl) (fun _ _ _ h => h) (Or.inl ⟨by rfl, fun W hS => by go_simp⟩) hS ?_
                refine wpAnyH_all (rs := [18]) (by kernel_rfl) (by simp) (AllReadyH.cons (i := 18) rfl (fun KK hK => ?_) AllReadyH.nil)
                rw [if_pos (by rfl)]
                have HD := hide (Blk.new Z2 #[.int .i64 0, .int .i64 0, .int .i64 0, .int .i64 0, .int .i64 0, .int .i64 0, .int .i64 0, .int .i64 0, .int .i64 0, .int .i64 0, .int .i64 0, .int .i64 0, .int .i64 0, .int .i64 0, .int .i64 0, .int .i64 0, .int .i64 0, .int .i64 0] 27)
                have hlt := hide hS.size
                have hS1 := hide (below_keep hS (below1 Z2 (.cells #[.int .i64 0, .int .i64 0, .int .i64 0, .int .i64 0, .int .i64 0, .int .i64 0, .int .i64 0, .int .i64 0, .int .i64 0, .int .i64 0, .int .i64 0, .int .i64 0, .int .i64 0, .int .i64 0, .int .i64 0, .int .i64 0, .int .i64 0, .int .i64 0] 27)) hS.size)
                replace HG := hide ((show GrowG _ _ V0 _ _ _ from unhide HG).keep (below1 Z2 (.cells #[.int .i64 0, .int .i64 0, .int .i64 0, .int .i64 0, .int .i64 0, .int .i64 0, .int .i64 0, .int .i64 0, .int .i64 0, .int .i64 0, .int .i64 0, .int .i64 0, .int .i64 0, .int .i64 0, .int .i64 0, .int .i64 0, .int .i64 0, .int .i64 0] 27)))
                clear hS
                go_wp2_with fail
                refine hK.out _ _ (unhide hS1) (fun hS => ?_)
                clear hK hS1
                generalize Z2.alloc (.cells #[.int .i64 0, .int .i64 0, .int .i64 0, .int .i64 0, .int .i64 0, .int .i64 0, .int .i64 0, .int .i64 0, .int .i64 0, .int .i64 0, .int .i64 0, .int .i64 0, .int .i64 0, .int .i64 0, .int .i64 0, .int .i64 0, .int .i64 0, .int .i64 0] 27) = Z3 at *
                generalize Z2.heap.size = nb at *
                refine wpAnyH_all (rs := [19]) (by kernel_rfl) (by simp) (AllReadyH.cons (i := 19) rfl (fun KK hK => ?_) AllReadyH.nil)
                rw [if_pos (by rfl)]
                refine storeO_blk 27 _ _ rfl (show Blk _ _ _ _ from unhide HD) rfl rfl size27 rfl rfl rfl ?_
                intro Y1 k1 kp
                have hS1 := hide (kp.bel (unhide hlt) hS)
                have HX := hide k1
                clear hS kp k1 HD
                refine hK.out _ _ (unhide hS1) (fun hS => ?_)
                clear hK hS1
                refine wpAnyH_all (rs := [20]) (by kernel_rfl) (by simp) (AllReadyH.cons (i := 20) rfl (fun KK hK => ?_) AllReadyH.nil)
                rw [if_pos (by rfl)]
                have hS1 := hide hS
                clear hS
                go_wp2_with fail
                refine hK.out _ _ (unhide hS1) (fun hS => ?_)
                clear hK hS1
                refine wpAnyH_done (by kernel_rfl) ?_ _
                have hS1 := hide hS
                clear hS
                go_wp2_with fail
                go_meet
                exact ⟨_, r, s, t, e1, rfl, rfl, HX, HRR, hS1⟩
              · rw [if_pos (by rfl)]
                have HD := hide (Blk.new Z1 #[.int .i64 0, .int .i64 0, .int .i64 0, .int .i64 0, .int .i64 0, .int .i64 0, .int .i64 0, .int .i64 0, .int .i64 0, .int .i64 0, .int .i64 0, .int .i64 0, .int .i64 0, .int .i64 0, .int .i64 0, .int .i64 0, .int .i64 0, .int .i64 0] 27)
                have hlt := hide hS.size
                have hS1 := hide (below_keep hS (below1 Z1 (.cells #[.int .i64 0, .int .i64 0, .int .i64 0, .int .i64 0, .int .i64 0, .int .i64 0, .int .i64 0, .int .i64 0, .int .i64 0, .int .i64 0, .int .i64 0, .int .i64 0, .int .i64 0, .int .i64 0, .int .i64 0, .int .i64 0, .int .i64 0, .int .i64 0] 27)) hS.size)
                replace HG := hide ((show GrowG _ _ V0 _ _ _ from unhide HG).keep (below1 Z1 (.cells #[.int .i64 0, .int .i64 0, .int .i64 0, .int .i64 0, .int .i64 0, .int .i64 0, .int .i64 0, .int .i64 0, .int .i64 0, .int .i64 0, .int .i64 0, .int .i64 0, .int .i64 0, .int .i64 0, .int .i64 0, .int .i64 0, .int .i64 0, .int .i64 0] 27)))
                clear hS
                go_wp2_with fail
                refine hK.out _ _ (unhide hS1) (fun hS => ?_)
                clear hK hS1
                generalize Z1.alloc (.cells #[.int .i64 0, .int .i64 0, .int .i64 0, .int .i64 0, .int .i64 0, .int .i64 0, .int .i64 0, .int .i64 0, .int .i64 0, .int .i64 0, .int .i64 0, .int .i64 0, .int .i64 0, .int .i64 0, .int .i64 0, .int .i64 0, .int .i64 0, .int .i64 0] 27) = Z4 at *
                generalize Z1.heap.size = nb at *
                refine wpAnyH_all (rs := [14]) (by kernel_rfl) (by simp) (AllReadyH.cons (i := 14) rfl (fun KK hK => ?_) AllReadyH.nil)
                rw [if_pos (by rfl)]
                have HQ := hide (roll_any Z4 _ r1.z s1.z t1.z (l.drop k) ((show GrowG _ _ _ _ _ _ from unhide HG).row))
                have hS1 := hide hS
                clear hS
                go_wp2_with fail
                refine (unhide HQ).mono ?_
                rintro e Z5 ⟨r, s, t, e1, rfl, hb, hr⟩
                have HRR := hide hr
                clear hr HQ
                replace HG := hide ((show GrowG _ _ V0 _ _ _ from unhide HG).keep hb)
                replace HD := hide ((show Blk _ _ _ _ from unhide HD).keep hb)
                have hS2 := hide (below_keep (unhide hS1) hb (unhide hS1).size)
                clear hS1 hb
                go_wp2_with fail
                refine hK.out _ _ (unhide hS2) (fun hS => ?_)
                clear hK hS2
                refine wpAnyH_take (i := 15) (v := .tuple #[.agg (cells18 r s t), .int .i64 e1]) rfl (by kernel_rfl) (by kernel_rfl) (by kernel_rfl) (fun _ _ _ h => h) (Or.inl ⟨by rfl, fun W hS => by go_simp⟩) hS ?_
                refine wpAnyH_take (i := 16) (v := .agg (cells18 r s t)) rfl (by kernel_rfl) (by kernel_rfl) (by kernel_rfl) (fun _ _ _ h => h) (Or.inl ⟨by rfl, fun W hS => by go_simp⟩) hS ?_
                refine wpAnyH_take (i := 17) (v := .int .i64 e1) rfl (by kernel_rfl) (by kernel_rfl) (by kernel_rfl) (fun _ _ _ h => h) (Or.inl ⟨by rfl, fun W hS => by go_simp⟩) hS ?_
                refine wpAnyH_all (rs := [19]) (by kernel_rfl) (by simp) (AllReadyH.cons (i := 19) rfl (fun KK hK => ?_) AllReadyH.nil)
                rw [if_pos (by rfl)]
                refine storeO_blk 27 _ _ rfl (show Blk _ _ _ _ from unhide HD) rfl rfl size27 rfl rfl rfl ?_
                intro Y1 k1 kp
                have hS1 := hide (kp.bel (unhide hlt) hS)
                have HX := hide k1
                clear hS kp k1 HD
                refine hK.out _ _ (unhide hS1) (fun hS => ?_)
                clear hK hS1
                refine wpAnyH_all (rs := [20]) (by kernel_rfl) (by simp) (AllReadyH.cons (i := 20) rfl (fun KK hK => ?_) AllReadyH.nil)
                rw [if_pos (by rfl)]
                have hS1 := hide hS
                clear hS
                go_wp2_with fail
                refine hK.out _ _ (unhide hS1) (fun hS => ?_)
                clear hK hS1
                refine wpAnyH_done (by kernel_rfl) ?_ _
                have hS1 := hide hS
                clear hS
                go_wp2_with fail
                go_meet
                exact ⟨_, r, s, t, e1, rfl, rfl, HX, HRR, hS1⟩
            · rw [if_pos (by rfl)]
              have HD := hide (Blk.new V0 #[.int .i64 0, .int .i64 0, .int .i64 0, .int .i64 0, .int .i64 0, .int .i64 0, .int .i64 0, .int .i64 0, .int .i64 0, .int .i64 0, .int .i64 0, .int .i64 0, .int .i64 0, .int .i64 0, .int .i64 0, .int .i64 0, .int .i64 0, .int .i64 0] 27)
              have hlt := hide hS.size
              have hS1 := hide (below_keep hS (below1 V0 (.cells #[.int .i64 0, .int .i64 0, .int .i64 0, .int .i64 0, .int .i64 0, .int .i64 0, .int .i64 0, .int .i64 0, .int .i64 0, .int .i64 0, .int .i64 0, .int .i64 0, .int .i64 0, .int .i64 0, .int .i64 0, .int .i64 0, .int .i64 0, .int .i64 0] 27)) hS.size)
              clear hS
              go_wp2_with fail
              refine hK.out _ _ (unhide hS1) (fun hS => ?_)
              clear hK hS1
              generalize V0.alloc (.cells #[.int .i64 0, .int .i64 0, .int .i64 0, .int .i64 0, .int .i64 0, .int .i64 0, .int .i64 0, .int .i64 0, .int .i64 0, .int .i64 0, .int .i64 0, .int .i64 0, .int .i64 0, .int .i64 0, .int .i64 0, .int .i64 0, .int .i64 0, .int .i64 0] 27) = Z6 at *
              generalize V0.heap.size = nb at *
              refine wpAnyH_all (rs := [13]) (by kernel_rfl) (by simp) (AllReadyH.cons (i := 13) rfl (fun KK hK => ?_) AllReadyH.nil)
              rw [if_pos (by rfl)]
              have HQ := hide (to_any _ _ Z6 ((show RowG _ _ _ _ from unhide HRlo).keep hS) (by have := unhide hl2; omega))
              have hzHG := hide hS.size
              have hS1 := hide hS
              clear hS
              go_wp2_with fail
              refine (unhide HQ).mono ?_
              rintro e Z7 ⟨uHG, rfl, hg⟩
              have hb := hg.below
              have HG := hide hg
              clear hg HQ
              replace HD := hide ((show Blk _ _ _ _ from unhide HD).keep hb)
              have hS2 := hide (below_keep (unhide hS1) hb (unhide hS1).size)
              clear hS1 hb
              go_wp2_with fail
              refine hK.out _ _ (unhide hS2) (fun hS => ?_)
              clear hK hS2
              refine wpAnyH_all (rs := [14]) (by kernel_rfl) (by simp) (AllReadyH.cons (i := 14) rfl (fun KK hK => ?_) AllReadyH.nil)
              rw [if_pos (by rfl)]
              have HQ := hide (roll_any Z7 _ r1.z s1.z t1.z (l.drop k) ((show GrowG _ _ _ _ _ _ from unhide HG).row))
              have hS1 := hide hS
              clear hS
              go_wp2_with fail
              refine (unhide HQ).mono ?_
              rintro e Z8 ⟨r, s, t, e1, rfl, hb, hr⟩
              have HRR := hide hr
              clear hr HQ
              replace HG := hide ((show GrowG _ _ Z6 _ _ _ from unhide HG).keep hb)
              replace HD := hide ((show Blk _ _ _ _ from unhide HD).keep hb)
              have hS2 := hide (below_keep (unhide hS1) hb (unhide hS1).size)
              clear hS1 hb
              go_wp2_with fail
              refine hK.out _ _ (unhide hS2) (fun hS => ?_)
              clear hK hS2
              refine wpAnyH_take (i := 15) (v := .tuple #[.agg (cells18 r s t), .int .i64 e1]) rfl (by kernel_rfl) (by kernel_rfl) (by kernel_rfl) (fun _ _ _ h => h) (Or.inl ⟨by rfl, fun W hS => by go_simp⟩) hS ?_
              refine wpAnyH_take (i := 16) (v := .agg (cells18 r s t)) rfl (by kernel_rfl) (by kernel_rfl) (by kernel_rfl) (fun _ _ _ h => h) (Or.inl ⟨by rfl, fun W hS => by go_simp⟩) hS ?_
              refine wpAnyH_take (i := 17) (v := .int .i64 e1) rfl (by kernel_rfl) (by kernel_rfl) (by kernel_rfl) (fun _ _ _ h => h) (Or.inl ⟨by rfl, fun W hS => by go_simp⟩) hS ?_
              refine wpAnyH_all (rs := [19]) (by kernel_rfl) (by simp) (AllReadyH.cons (i := 19) rfl (fun KK hK => ?_) AllReadyH.nil)
              rw [if_pos (by rfl)]
              refine storeO_blk 27 _ _ rfl (show Blk _ _ _ _ from unhide HD) rfl rfl size27 rfl rfl rfl ?_
              intro Y1 k1 kp
              have hS1 := hide (kp.bel (unhide hlt) hS)
              have HX := hide k1
              clear hS kp k1 HD
              refine hK.out _ _ (unhide hS1) (fun hS => ?_)
              clear hK hS1
              refine wpAnyH_all (rs := [20]) (by kernel_rfl) (by simp) (AllReadyH.cons (i := 20) rfl (fun KK hK => ?_) AllReadyH.nil)
              rw [if_pos (by rfl)]
              have hS1 := hide hS
              clear hS
              go_wp2_with fail
              refine hK.out _ _ (unhide hS1) (fun hS => ?_)
              clear hK hS1
              refine wpAnyH_done (by kernel_rfl) ?_ _
              have hS1 := hide hS
              clear hS
              go_wp2_with fail
              go_meet
              exact ⟨_, r, s, t, e1, rfl, rfl, HX, HRR, hS1⟩
          case rest =>
            obtain ⟨zb, r2, s2, t2, e3, rfl, rfl, HZ, HRR3, HW⟩ := hcut
            replace HB := hide (below_via (unhide HB) (unhide HW))
            replace HX := hide ((show Blk _ _ _ _ from unhide HX).keep (unhide HW))
            replace HY := hide ((show Blk _ _ _ _ from unhide HY).keep (unhide HW))
            clear HW HRlo
            generalize hwc : wc = w4 at *
            clear hwc
            by_cases g3 : e3 = 0
            · subst g3
              obtain ⟨HP, HQ, HT⟩ := parts_ok (unhide HRR1) (unhide HRR2) (unhide HRR3)
              replace HP := hide HP
              replace HQ := hide HQ
              replace HT := hide HT
              clear HRR1 HRR2 HRR3
              go_wp2_with fail
              refine wp_loop_rounds 4 ?_
              rw [rounds_succ]
              have x1 := (show Blk _ _ _ _ from unhide HX).at 1 (.int .i64 r.i) rfl
              have x3 := (show Blk _ _ _ _ from unhide HX).at 3 (.int .i64 r.n) rfl
              have x5 := (show Blk _ _ _ _ from unhide HX).at 5 (.int .i64 r.z) rfl
              have y1 := (show Blk _ _ _ _ from unhide HY).at 1 (.int .i64 r1.i) rfl
              have y3 := (show Blk _ _ _ _ from unhide HY).at 3 (.int .i64 r1.n) rfl
              have z1 := (show Blk _ _ _ _ from unhide HZ).at 1 (.int .i64 r2.i) rfl
              have z3 := (show Blk _ _ _ _ from unhide HZ).at 3 (.int .i64 r2.n) rfl
              have z5 := (show Blk _ _ _ _ from unhide HZ).at 5 (.int .i64 r2.z) rfl
              have p1 := (show PF _ _ _ from unhide HP).z
              have p2 := (show PF _ _ _ from unhide HP).i
              have p3 := (show PF _ _ _ from unhide HP).n
              have p4 := (show PF _ _ _ from unhide HP).wi
              have p5 := (show PF _ _ _ from unhide HP).wn
              go_wp2_with fail
              go_quiet (fail)
              go_wp2_with fail
              clear x1 x3 x5 y1 y3 z1 z3 z5 p1 p2 p3 p4 p5
              replace HB := hide (below_drewN (unhide HB) nq)
              skip
              have HX0 : Hid (Blk (w4.drewN nq) xb (cells18 r s t) 27) := hide (unhide HX)
              have HY0 : Hid (Blk (w4.drewN nq) yb (cells18 r1 s1 t1) 27) := hide (unhide HY)
              have HZ0 : Hid (Blk (w4.drewN nq) zb (cells18 r2 s2 t2) 27) := hide (unhide HZ)
              clear HX HY HZ
              have HX := HX0
              have HY := HY0
              have HZ := HZ0
              clear HX0 HY0 HZ0
              generalize w4.drewN nq = w5 at *
              clear nq
              rw [rounds_succ]
              have x1 := (show Blk _ _ _ _ from unhide HX).at 7 (.int .i64 s.i) rfl
              have x3 := (show Blk _ _ _ _ from unhide HX).at 9 (.int .i64 s.n) rfl
              have x5 := (show Blk _ _ _ _ from unhide HX).at 11 (.int .i64 s.z) rfl
              have y1 := (show Blk _ _ _ _ from unhide HY).at 7 (.int .i64 s1.i) rfl
              have y3 := (show Blk _ _ _ _ from unhide HY).at 9 (.int .i64 s1.n) rfl
              have z1 := (show Blk _ _ _ _ from unhide HZ).at 7 (.int .i64 s2.i) rfl
              have z3 := (show Blk _ _ _ _ from unhide HZ).at 9 (.int .i64 s2.n) rfl
              have z5 := (show Blk _ _ _ _ from unhide HZ).at 11 (.int .i64 s2.z) rfl
              have p1 := (show PF _ _ _ from unhide HQ).z
              have p2 := (show PF _ _ _ from unhide HQ).i
              have p3 := (show PF _ _ _ from unhide HQ).n
              have p4 := (show PF _ _ _ from unhide HQ).wi
              have p5 := (show PF _ _ _ from unhide HQ).wn
              go_wp2_with fail
              go_quiet (fail)
              go_wp2_with fail
              clear x1 x3 x5 y1 y3 z1 z3 z5 p1 p2 p3 p4 p5
              replace HB := hide (below_drewN (unhide HB) nq)
              skip
              have HX1 : Hid (Blk (w5.drewN nq) xb (cells18 r s t) 27) := hide (unhide HX)
              have HY1 : Hid (Blk (w5.drewN nq) yb (cells18 r1 s1 t1) 27) := hide (unhide HY)
              have HZ1 : Hid (Blk (w5.drewN nq) zb (cells18 r2 s2 t2) 27) := hide (unhide HZ)
              clear HX HY HZ
              have HX := HX1
              have HY := HY1
              have HZ := HZ1
              clear HX1 HY1 HZ1
              generalize w5.drewN nq = w6 at *
              clear nq
              rw [rounds_succ]
              have x1 := (show Blk _ _ _ _ from unhide HX).at 13 (.int .i64 t.i) rfl
              have x3 := (show Blk _ _ _ _ from unhide HX).at 15 (.int .i64 t.n) rfl
              have x5 := (show Blk _ _ _ _ from unhide HX).at 17 (.int .i64 t.z) rfl
              have y1 := (show Blk _ _ _ _ from unhide HY).at 13 (.int .i64 t1.i) rfl
              have y3 := (show Blk _ _ _ _ from unhide HY).at 15 (.int .i64 t1.n) rfl
              have z1 := (show Blk _ _ _ _ from unhide HZ).at 13 (.int .i64 t2.i) rfl
              have z3 := (show Blk _ _ _ _ from unhide HZ).at 15 (.int .i64 t2.n) rfl
              have z5 := (show Blk _ _ _ _ from unhide HZ).at 17 (.int .i64 t2.z) rfl
              have p1 := (show PF _ _ _ from unhide HT).z
              have p2 := (show PF _ _ _ from unhide HT).i
              have p3 := (show PF _ _ _ from unhide HT).n
              have p4 := (show PF _ _ _ from unhide HT).wi
              have p5 := (show PF _ _ _ from unhide HT).wn
              go_wp2_with fail
              go_quiet (fail)
              go_wp2_with fail
              clear x1 x3 x5 y1 y3 z1 z3 z5 p1 p2 p3 p4 p5
              replace HB := hide (below_drewN (unhide HB) nq)
              skip
              have HX2 : Hid (Blk (w6.drewN nq) xb (cells18 r s t) 27) := hide (unhide HX)
              have HY2 : Hid (Blk (w6.drewN nq) yb (cells18 r1 s1 t1) 27) := hide (unhide HY)
              have HZ2 : Hid (Blk (w6.drewN nq) zb (cells18 r2 s2 t2) 27) := hide (unhide HZ)
              clear HX HY HZ
              have HX := HX2
              have HY := HY2
              have HZ := HZ2
              clear HX2 HY2 HZ2
              generalize w6.drewN nq = w7 at *
              clear nq
              rw [rounds_succ]
              go_wp2_with fail
              go_ret
              exact ⟨rfl, unhide HB⟩
            · have h3 : (e3 != 0) = true := by simp [g3]
              clear g3
              go_wp2_with fail
              go_ret
              exact ⟨rfl, unhide HB⟩
        · have h1 : (e1 != 0) = false := by simp [g1]
          have h2 : (e2 != 0) = true := by simp [g2]
          clear g1 g2
          go_wp2_with fail
          go_ret
          exact ⟨rfl, unhide HB⟩
      · have h1 : (e1 != 0) = true := by simp [g1]
        clear g1
        go_wp2_with fail
        go_ret
        exact ⟨rfl, unhide HB⟩
theorem walk (a b c : Int) (x : Option Addr) (n cap : Nat) (l : List Ch) (z : Int) (w : World) (ia : In64 a) (ib : In64 b) (ic : In64 c) (hR : RowG 5 w (.slice x n cap) (l.map chL)) (iz : 0 ≤ z ∧ z ≤ 255) : Calls Try.prog 7 #[.agg #[.int .i64 a, .int .i64 b, .int .i64 c], .slice x n cap, .int .u8 z] w fun e w' => e = .returned (.bool true) ∧ Below w.heap.size w w' := by
  have hl := rowG_len hR
  rw [List.length_map] at hl
  obtain ⟨A, rfl⟩ := Int.eq_ofNat_of_zero_le iz.1
  by_cases h1 : 300 < n
  · exact s_long a b c x n cap A (decide_eq_true (by omega)) (hide alive_any) w
  · obtain ⟨ht, hk⟩ := part_at (n := n) (A := A) (by omega)
    have hle := rowG_le hR
    have h2 := hR.lo hk
    have h3 := hR.hi hk
    rw [← List.map_drop] at h2
    rw [← List.map_take] at h3
    exact s_ok a b c x n cap A _ l (decide_eq_false (by omega)) (by omega) (by omega) ht (by omega) (by omega) (hide (by omega)) (hide (by rw [List.length_drop]; omega)) (hide (by rw [List.length_take]; omega)) (hide alive_any) w (hide hR) (hide h2) (hide h3)
theorem own : ownKnob Try.prog.godebug = none := by kernel_rfl
theorem laidOut : laidOutB Try.prog = true := by kernel_rfl
set_option linter.unusedVariables false in
set_option maxRecDepth 100000 in
theorem lifted (os : Os) (started : os.Started) (H : Type) (enc : TypeId × Value → H) :
    ReturnsInHanded {} Try.checked os 7 .any (Rows.allowPartsSpec.pre6 enc Try.prog Try.f7 Rows.allowPartsRow.domain false) (Rows.allowPartsSpec.post enc Try.prog Try.f7 false true false false) := by
  refine returnsInHanded_of_change (C := Try.checked) own started (by kernel_rfl) Try.func7
    (ChangeSpec.witness6 (enc := enc) (C := Try.checked) false ⟨#[], #[.agg #[.int .i64 0, .int .i64 0, .int .i64 0], .slice none 0 0, .int .u8 0], []⟩ 8 (by kernel_rfl) (by kernel_rfl) (by kernel_rfl) (by kernel_rfl)) ?_
  intro W base args ds gs before hval0 hW hcnd _
  have hval : ∀ (j : Nat) t v, Try.f7.params[j]? = some t → args[j]? = some v → Value.okWide Try.prog W .any base t v := hval0
  have hW' := hW
  obtain ⟨p, q, hA0, hV, rfl, hfz, hnd⟩ := hW
  have hA : DataW.TrodAll enc Try.prog W 0 (fun _ => true) true Try.f7.params.toList args.toList ds p := hA0
  rw [Try.params7] at hA hval
  obtain ⟨v0, vs0, d0, ds0, p0, q0, hargs, rfl, rfl, h0, r0⟩ := trodAll_cons hA
  obtain ⟨v1, vs1, d1, ds1, p1, q1, rfl, rfl, rfl, h1, r1⟩ := trodAll_cons r0
  obtain ⟨v2, vs2, d2, ds2, p2, q2, rfl, rfl, rfl, h2, r2⟩ := trodAll_cons r1
  obtain ⟨rfl, rfl, rfl⟩ := trodAll_nil r2
  obtain rfl : args = #[v0, v1, v2] := by cases args; simp_all
  obtain ⟨rfl, rfl⟩ := trodVars_none hV
  have k0 := h0
  have lt0 : ∀ x ∈ p0, x.block < W.heap.size := by obtain ⟨m, hm⟩ := k0; exact DataW.trod_lt m _ _ _ hm
  obtain ⟨xa0, xb0, xc0, rfl, ia0, ib0, ic0⟩ := arr3_open (hval 0 22 v0 rfl rfl) h0
  have k1 := h1
  have lt1 : ∀ x ∈ p1, x.block < W.heap.size := by obtain ⟨m, hm⟩ := k1; exact DataW.trod_lt m _ _ _ hm
  obtain ⟨a1, len1, cap1, rfl⟩ := okWide_slice Try.underlying23 (hval 1 23 v1 rfl rfl)
  obtain ⟨l1, hr1⟩ : ∃ l : List Ch, RowG 5 W (.slice a1 len1 cap1) (l.map chL) := by
    obtain ⟨fuel, hf⟩ := h1
    exact chs_open hf
  have k2 := h2
  have lt2 : ∀ x ∈ p2, x.block < W.heap.size := by obtain ⟨m, hm⟩ := k2; exact DataW.trod_lt m _ _ _ hm
  obtain ⟨xb2, rfl, ib2⟩ : ∃ n : Int, v2 = .int .u8 n ∧ (0 ≤ n ∧ n ≤ 255) := by
    obtain ⟨n, rfl⟩ := okWide_int Try.underlying5 (hval 2 5 v2 rfl rfl)
    obtain ⟨m, hm⟩ := h2
    have q := hm
    obtain ⟨z, e, _, w⟩ := DataW.trod_int Try.underlying5 (by simpa [Value.cells] using hm)
    simp at e
    subst e
    refine ⟨_, rfl, ?_⟩
    simp [Lit.wf, IntKind.min, IntKind.max, IntKind.signed, IntKind.bits] at w
    omega
  clear hA0 hval0
  refine (walk xa0 xb0 xc0 a1 len1 cap1 l1 xb2 W ia0 ib0 ic0 hr1 ib2).mono fun e W' ⟨he, bel⟩ => ?_
  subst he
  exact ⟨_, rfl, _, _, _, [], _, [], hW', trodAll_mk1 (shut_bool Try.underlying4 _), (trodAll_cons_mk (Below.trod laidOut (by kernel_rfl) (of_decide_eq_true (by kernel_rfl)) k0 bel lt0) (trodAll_cons_mk (Below.trod laidOut (by kernel_rfl) (of_decide_eq_true (by kernel_rfl)) k1 bel lt1) (trodAll_cons_mk (Below.trod laidOut (by kernel_rfl) (of_decide_eq_true (by kernel_rfl)) k2 bel lt2) trodAll_mk0))), rfl, bel.frame _, fun h => by cases h⟩
theorem over : Rows.allowPartsRow.holds Try.pinned (OpenSpec.ofChange Rows.allowPartsSpec) :=
  OpenClaim.holds_of_wide 7 Try.f7 rfl rfl rfl rfl rfl rfl rfl ⟨rfl, rfl, rfl, rfl, rfl⟩ rfl rfl rfl rfl rfl (by kernel_rfl) Try.func7 (by kernel_rfl)
    (of_decide_eq_true (by kernel_rfl)) (by unfold Func.isWrapper; first | (rw [if_pos (by decide +kernel)]; kernel_rfl) | (rw [if_neg (by decide +kernel)]; exact ⟨rfl, rfl⟩))
    (fun os started H enc _ => lifted os started H enc)
theorem proved : Rows.AllowPartsSaid := over
end Go.Proofs.Ytkccladbcehdbaa.allowParts
namespace Go.Proofs.Ytkccladbcehdbaa
theorem allowParts_holds : Rows.AllowPartsSaid := allowParts.proved
end Go.Proofs.Ytkccladbcehdbaa
