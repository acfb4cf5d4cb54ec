/- Proved here: AllowTies: each row that Roll answers ties and begins as it was open; all that came in went out, and all rows together tie. No condition. -/
import Derived.Test.YtkccladbcehdbaaAl
import Derived.Test.YtkccladbcehdbaaAr
import Derived.Test.YtkccladbcehdbaaEq
import Derived.Test.YtkccladbcehdbaaNn
import Derived.Test.YtkccladbcehdbaaTr
import Derived.Deep.RegionHeld
import Derived.Deep.Cut
import Derived.Deep.CutRange
namespace Go.Proofs.Ytkccladbcehdbaa.allowTies
open Go.ChangeShapes Go.WideShapes Go.ChangeAt Go.RowKit
set_option linter.unusedVariables false
set_option linter.unusedSimpArgs false
theorem s_long (a b c : Int) (x : Option Addr) (n cap : Nat) (d1 : decide ((500 : Int) < (n : Int)) = true) (hal : Hid Alive) (w : World) : Calls Try.prog 5 #[.agg #[.int .i64 a, .int .i64 b, .int .i64 c], .slice x n cap] w fun e w' => e = .returned (.bool true) ∧ Below w.heap.size w w' := by
  have HB0 := hide (below1 w (.cells #[.int .i64 a, .int .i64 b, .int .i64 c] 22))
  go_enter Try.func5, Try.ntmps5
  go_wp2_with fail
  refine (unhide hal _).mono ?_
  rintro e w1 ⟨rfl, hb⟩
  replace hb := hide (below_via (unhide HB0) hb)
  go_wp2_with fail
  go_ret
  exact ⟨rfl, unhide hb⟩
/-- What is known where Roll answers OK. -/
structure Fine3 (a b c : Int) (r s t : Rw) : Prop where
  cr : RwC r
  cs : RwC s
  ct : RwC t
  ir : RwI6 r
  is : RwI6 s
  it : RwI6 t
  tr : tieB r.o r.i r.u r.n r.x r.z = true
  ts : tieB s.o s.i s.u s.n s.x s.z = true
  tt : tieB t.o t.i t.u t.n t.x t.z = true
  er : r.o = a
  es : s.o = b
  et : t.o = c
  io : (netR r s t).i = (netR r s t).u
theorem fine3_of {a b c : Int} {l : List Ch} (hl : l.length ≤ 500) (hm : mayB a b c l = true) : Fine3 a b c (rwS l 1 a) (rwS l 2 b) (rwS l 3 c) := by
  obtain ⟨ha, hb, hc, hA⟩ := mayB_iff.1 hm
  have br := rwS_bd hA (by omega) ha 1
  have bs := rwS_bd hA (by omega) hb 2
  have bt := rwS_bd hA (by omega) hc 3
  exact ⟨rwS_c hA hl ha 1, rwS_c hA hl hb 2, rwS_c hA hl hc 3, rwS_i6 br, rwS_i6 bs, rwS_i6 bt, rwS_tie br, rwS_tie bs, rwS_tie bt, rfl, rfl, rfl, in_out hA⟩
set_option maxHeartbeats 16000000 in
set_option maxRecDepth 20000 in
theorem s_ok (a b c : Int) (x : Option Addr) (n cap : Nat) (l : List Ch) (d1 : decide ((500 : Int) < (n : Int)) = false) (hl : Hid (l.length ≤ 500)) (hal : Hid Alive) (w : World) (hR : Hid (RowG 5 w (.slice x n cap) (l.map chL))) : Calls Try.prog 5 #[.agg #[.int .i64 a, .int .i64 b, .int .i64 c], .slice x n cap] w fun e w' => e = .returned (.bool true) ∧ Below w.heap.size w w' := by
  have HO := hide (Blk.new w #[.int .i64 a, .int .i64 b, .int .i64 c] 22)
  replace hR := hide ((unhide hR).alloc (.cells #[.int .i64 a, .int .i64 b, .int .i64 c] 22))
  go_enter Try.func5, Try.ntmps5
  go_wp2_with fail
  refine (unhide hal _).mono ?_
  rintro e w1 ⟨rfl, hb⟩
  have HB := hide (below_via (below1 w _) hb)
  replace HO := hide ((show Blk _ _ _ _ from unhide HO).keep hb)
  have HR := hide ((show RowG _ _ _ _ from unhide hR).keep hb)
  clear hb hR hal
  go_wp2_with fail
  go_cut [5, 6] from 16 to 77 (fun t5 t6 wx => ∃ nb r s t e, t5 = .pointer (some ⟨nb, 0, none⟩) ∧ t6 = .int .i64 e ∧ Hid (Blk wx nb (cells18 r s t) 27) ∧ Hid (RollR a b c l r s t e) ∧ Hid (Below w1.heap.size w1 wx))
  case first =>
    refine wp_region_held_drew (S := fun W => Below w1.heap.size w1 W) (by kernel_rfl) (Below.refl _ _).drew (fun hS => ?_)
    generalize hV : w1.drew = V0 at *
    clear hV
    refine anyH_at (i := 0) (v := .agg #[.int .i64 a, .int .i64 b, .int .i64 c]) 17 rfl (by kernel_rfl) (by kernel_rfl) (by kernel_rfl) (by kernel_rfl) (fun _ _ _ h => h) (Or.inl ⟨by kernel_rfl, fun W hS => by have f0 := ((show Blk _ _ _ _ from unhide HO).keep hS).at 0 _ rfl; have f1 := ((show Blk _ _ _ _ from unhide HO).keep hS).at 1 _ rfl; have f2 := ((show Blk _ _ _ _ from unhide HO).keep hS).at 2 _ rfl; go_simp⟩) hS ?_
    try simp only [Act.put, List.setIfInBounds_toArray, List.set_cons_zero, List.set_cons_succ]
    refine anyH_at (i := 1) (v := .slice x n cap) 18 rfl (by kernel_rfl) (by kernel_rfl) (by kernel_rfl) (by kernel_rfl) (fun _ _ _ h => h) (Or.inl ⟨by kernel_rfl, fun W hS => by go_simp⟩) hS ?_
    try simp only [Act.put, List.setIfInBounds_toArray, List.set_cons_zero, List.set_cons_succ]
    refine wpAnyH_all (rs := [2, 7]) (by kernel_rfl) (by simp) (AllReadyH.cons (i := 2) rfl (fun KK hK => ?_) (AllReadyH.cons (i := 7) rfl (fun KK hK => ?_) AllReadyH.nil))
    · rw [if_pos (by kernel_rfl)]
      have HQ := hide (to_any _ _ V0 ((show RowG _ _ _ _ from unhide HR).keep hS) (by have := unhide hl; omega))
      have hzHG := hide hS.size
      have hS1 := hide hS
      clear hS
      go_wp2_with fail
      refine (unhide HQ).mono ?_
      rintro e Z1 ⟨uHG, rfl, hg⟩
      have hb := hg.below
      have HG := hide hg
      clear hg HQ
      have hS2 := hide (below_keep (unhide hS1) hb (unhide hS1).size)
      clear hS1 hb
      go_wp2_with fail
      refine hK.out _ _ (unhide hS2) (fun hS => ?_)
      clear hK hS2
      refine wpAnyH_all (rs := [3, 7]) (by kernel_rfl) (by simp) (AllReadyH.cons (i := 3) rfl (fun KK hK => ?_) (AllReadyH.cons (i := 7) rfl (fun KK hK => ?_) AllReadyH.nil))
      · rw [if_pos (by kernel_rfl)]
        have HQ := hide (roll_any Z1 _ a b c l ((show GrowG _ _ _ _ _ _ from unhide HG).row))
        have hS1 := hide hS
        clear hS
        go_wp2_with fail
        refine (unhide HQ).mono ?_
        rintro e Z2 ⟨r, s, t, e1, rfl, hb, hr⟩
        have HRR := hide hr
        clear hr HQ
        replace HG := hide ((show GrowG _ _ V0 _ _ _ from unhide HG).keep hb)
        have hS2 := hide (below_keep (unhide hS1) hb (unhide hS1).size)
        clear hS1 hb
        go_wp2_with fail
        refine hK.out _ _ (unhide hS2) (fun hS => ?_)
        clear hK hS2
        refine anyH_at (i := 4) (v := .tuple #[.agg (cells18 r s t), .int .i64 e1]) 16 rfl (by kernel_rfl) (by kernel_rfl) (by kernel_rfl) (by kernel_rfl) (fun _ _ _ h => h) (Or.inl ⟨by kernel_rfl, fun W hS => by go_simp⟩) hS ?_
        try simp only [Act.put, List.setIfInBounds_toArray, List.set_cons_zero, List.set_cons_succ]
        refine anyH_at (i := 5) (v := .agg (cells18 r s t)) 21 rfl (by kernel_rfl) (by kernel_rfl) (by kernel_rfl) (by kernel_rfl) (fun _ _ _ h => h) (Or.inl ⟨by kernel_rfl, fun W hS => by go_simp⟩) hS ?_
        try simp only [Act.put, List.setIfInBounds_toArray, List.set_cons_zero, List.set_cons_succ]
        refine anyH_at (i := 6) (v := .int .i64 e1) 22 rfl (by kernel_rfl) (by kernel_rfl) (by kernel_rfl) (by kernel_rfl) (fun _ _ _ h => h) (Or.inl ⟨by kernel_rfl, fun W hS => by go_simp⟩) hS ?_
        try simp only [Act.put, List.setIfInBounds_toArray, List.set_cons_zero, List.set_cons_succ]
        refine wpAnyH_all (rs := [7]) (by kernel_rfl) (by simp) (AllReadyH.cons (i := 7) rfl (fun KK hK => ?_) AllReadyH.nil)
        rw [if_pos (by kernel_rfl)]
        have HD := hide (Blk.new Z2 #[.int .i64 0, .int .i64 0, .int .i64 0, .int .i64 0, .int .i64 0, .int .i64 0, .int .i64 0, .int .i64 0, .int .i64 0, .int .i64 0, .int .i64 0, .int .i64 0, .int .i64 0, .int .i64 0, .int .i64 0, .int .i64 0, .int .i64 0, .int .i64 0] 27)
        have hlt := hide hS.size
        have hS1 := hide (below_keep hS (below1 Z2 (.cells #[.int .i64 0, .int .i64 0, .int .i64 0, .int .i64 0, .int .i64 0, .int .i64 0, .int .i64 0, .int .i64 0, .int .i64 0, .int .i64 0, .int .i64 0, .int .i64 0, .int .i64 0, .int .i64 0, .int .i64 0, .int .i64 0, .int .i64 0, .int .i64 0] 27)) hS.size)
        replace HG := hide ((show GrowG _ _ V0 _ _ _ from unhide HG).keep (below1 Z2 (.cells #[.int .i64 0, .int .i64 0, .int .i64 0, .int .i64 0, .int .i64 0, .int .i64 0, .int .i64 0, .int .i64 0, .int .i64 0, .int .i64 0, .int .i64 0, .int .i64 0, .int .i64 0, .int .i64 0, .int .i64 0, .int .i64 0, .int .i64 0, .int .i64 0] 27)))
        clear hS
        go_wp2_with fail
        refine hK.out _ _ (unhide hS1) (fun hS => ?_)
        clear hK hS1
        generalize Z2.alloc (.cells #[.int .i64 0, .int .i64 0, .int .i64 0, .int .i64 0, .int .i64 0, .int .i64 0, .int .i64 0, .int .i64 0, .int .i64 0, .int .i64 0, .int .i64 0, .int .i64 0, .int .i64 0, .int .i64 0, .int .i64 0, .int .i64 0, .int .i64 0, .int .i64 0] 27) = Z3 at *
        generalize Z2.heap.size = nb at *
        refine wpAnyH_all (rs := [8]) (by kernel_rfl) (by simp) (AllReadyH.cons (i := 8) rfl (fun KK hK => ?_) AllReadyH.nil)
        rw [if_pos (by kernel_rfl)]
        refine storeO_blk 27 _ _ rfl (show Blk _ _ _ _ from unhide HD) rfl rfl size27 rfl rfl rfl ?_
        intro Y1 k1 kp
        have hS1 := hide (kp.bel (unhide hlt) hS)
        have HX := hide k1
        clear hS kp k1 HD
        refine hK.out _ _ (unhide hS1) (fun hS => ?_)
        clear hK hS1
        refine wpAnyH_all (rs := [9]) (by kernel_rfl) (by simp) (AllReadyH.cons (i := 9) rfl (fun KK hK => ?_) AllReadyH.nil)
        rw [if_pos (by kernel_rfl)]
        have hS1 := hide hS
        clear hS
        go_wp2_with fail
        refine hK.out _ _ (unhide hS1) (fun hS => ?_)
        clear hK hS1
        refine wpAnyH_done (by kernel_rfl) ?_ _
        have hS1 := hide hS
        clear hS
        go_wp2_with fail
        go_meet
        exact ⟨_, r, s, t, e1, rfl, rfl, HX, HRR, hS1⟩
      · rw [if_pos (by kernel_rfl)]
        have HD := hide (Blk.new Z1 #[.int .i64 0, .int .i64 0, .int .i64 0, .int .i64 0, .int .i64 0, .int .i64 0, .int .i64 0, .int .i64 0, .int .i64 0, .int .i64 0, .int .i64 0, .int .i64 0, .int .i64 0, .int .i64 0, .int .i64 0, .int .i64 0, .int .i64 0, .int .i64 0] 27)
        have hlt := hide hS.size
        have hS1 := hide (below_keep hS (below1 Z1 (.cells #[.int .i64 0, .int .i64 0, .int .i64 0, .int .i64 0, .int .i64 0, .int .i64 0, .int .i64 0, .int .i64 0, .int .i64 0, .int .i64 0, .int .i64 0, .int .i64 0, .int .i64 0, .int .i64 0, .int .i64 0, .int .i64 0, .int .i64 0, .int .i64 0] 27)) hS.size)
        replace HG := hide ((show GrowG _ _ V0 _ _ _ from unhide HG).keep (below1 Z1 (.cells #[.int .i64 0, .int .i64 0, .int .i64 0, .int .i64 0, .int .i64 0, .int .i64 0, .int .i64 0, .int .i64 0, .int .i64 0, .int .i64 0, .int .i64 0, .int .i64 0, .int .i64 0, .int .i64 0, .int .i64 0, .int .i64 0, .int .i64 0, .int .i64 0] 27)))
        clear hS
        go_wp2_with fail
        refine hK.out _ _ (unhide hS1) (fun hS => ?_)
        clear hK hS1
        generalize Z1.alloc (.cells #[.int .i64 0, .int .i64 0, .int .i64 0, .int .i64 0, .int .i64 0, .int .i64 0, .int .i64 0, .int .i64 0, .int .i64 0, .int .i64 0, .int .i64 0, .int .i64 0, .int .i64 0, .int .i64 0, .int .i64 0, .int .i64 0, .int .i64 0, .int .i64 0] 27) = Z4 at *
        generalize Z1.heap.size = nb at *
        refine wpAnyH_all (rs := [3]) (by kernel_rfl) (by simp) (AllReadyH.cons (i := 3) rfl (fun KK hK => ?_) AllReadyH.nil)
        rw [if_pos (by kernel_rfl)]
        have HQ := hide (roll_any Z4 _ a b c l ((show GrowG _ _ _ _ _ _ from unhide HG).row))
        have hS1 := hide hS
        clear hS
        go_wp2_with fail
        refine (unhide HQ).mono ?_
        rintro e Z5 ⟨r, s, t, e1, rfl, hb, hr⟩
        have HRR := hide hr
        clear hr HQ
        replace HG := hide ((show GrowG _ _ V0 _ _ _ from unhide HG).keep hb)
        replace HD := hide ((show Blk _ _ _ _ from unhide HD).keep hb)
        have hS2 := hide (below_keep (unhide hS1) hb (unhide hS1).size)
        clear hS1 hb
        go_wp2_with fail
        refine hK.out _ _ (unhide hS2) (fun hS => ?_)
        clear hK hS2
        refine anyH_at (i := 4) (v := .tuple #[.agg (cells18 r s t), .int .i64 e1]) 16 rfl (by kernel_rfl) (by kernel_rfl) (by kernel_rfl) (by kernel_rfl) (fun _ _ _ h => h) (Or.inl ⟨by kernel_rfl, fun W hS => by go_simp⟩) hS ?_
        try simp only [Act.put, List.setIfInBounds_toArray, List.set_cons_zero, List.set_cons_succ]
        refine anyH_at (i := 5) (v := .agg (cells18 r s t)) 21 rfl (by kernel_rfl) (by kernel_rfl) (by kernel_rfl) (by kernel_rfl) (fun _ _ _ h => h) (Or.inl ⟨by kernel_rfl, fun W hS => by go_simp⟩) hS ?_
        try simp only [Act.put, List.setIfInBounds_toArray, List.set_cons_zero, List.set_cons_succ]
        refine anyH_at (i := 6) (v := .int .i64 e1) 22 rfl (by kernel_rfl) (by kernel_rfl) (by kernel_rfl) (by kernel_rfl) (fun _ _ _ h => h) (Or.inl ⟨by kernel_rfl, fun W hS => by go_simp⟩) hS ?_
        try simp only [Act.put, List.setIfInBounds_toArray, List.set_cons_zero, List.set_cons_succ]
        refine wpAnyH_all (rs := [8]) (by kernel_rfl) (by simp) (AllReadyH.cons (i := 8) rfl (fun KK hK => ?_) AllReadyH.nil)
        rw [if_pos (by kernel_rfl)]
        refine storeO_blk 27 _ _ rfl (show Blk _ _ _ _ from unhide HD) rfl rfl size27 rfl rfl rfl ?_
        intro Y1 k1 kp
        have hS1 := hide (kp.bel (unhide hlt) hS)
        have HX := hide k1
        clear hS kp k1 HD
        refine hK.out _ _ (unhide hS1) (fun hS => ?_)
        clear hK hS1
        refine wpAnyH_all (rs := [9]) (by kernel_rfl) (by simp) (AllReadyH.cons (i := 9) rfl (fun KK hK => ?_) AllReadyH.nil)
        rw [if_pos (by kernel_rfl)]
        have hS1 := hide hS
        clear hS
        go_wp2_with fail
        refine hK.out _ _ (unhide hS1) (fun hS => ?_)
        clear hK hS1
        refine wpAnyH_done (by kernel_rfl) ?_ _
        have hS1 := hide hS
        clear hS
        go_wp2_with fail
        go_meet
        exact ⟨_, r, s, t, e1, rfl, rfl, HX, HRR, hS1⟩
    · rw [if_pos (by kernel_rfl)]
      have HD := hide (Blk.new V0 #[.int .i64 0, .int .i64 0, .int .i64 0, .int .i64 0, .int .i64 0, .int .i64 0, .int .i64 0, .int .i64 0, .int .i64 0, .int .i64 0, .int .i64 0, .int .i64 0, .int .i64 0, .int .i64 0, .int .i64 0, .int .i64 0, .int .i64 0, .int .i64 0] 27)
      have hlt := hide hS.size
      have hS1 := hide (below_keep hS (below1 V0 (.cells #[.int .i64 0, .int .i64 0, .int .i64 0, .int .i64 0, .int .i64 0, .int .i64 0, .int .i64 0, .int .i64 0, .int .i64 0, .int .i64 0, .int .i64 0, .int .i64 0, .int .i64 0, .int .i64 0, .int .i64 0, .int .i64 0, .int .i64 0, .int .i64 0] 27)) hS.size)
      clear hS
      go_wp2_with fail
      refine hK.out _ _ (unhide hS1) (fun hS => ?_)
      clear hK hS1
      generalize V0.alloc (.cells #[.int .i64 0, .int .i64 0, .int .i64 0, .int .i64 0, .int .i64 0, .int .i64 0, .int .i64 0, .int .i64 0, .int .i64 0, .int .i64 0, .int .i64 0, .int .i64 0, .int .i64 0, .int .i64 0, .int .i64 0, .int .i64 0, .int .i64 0, .int .i64 0] 27) = Z6 at *
      generalize V0.heap.size = nb at *
      refine wpAnyH_all (rs := [2]) (by kernel_rfl) (by simp) (AllReadyH.cons (i := 2) rfl (fun KK hK => ?_) AllReadyH.nil)
      rw [if_pos (by kernel_rfl)]
      have HQ := hide (to_any _ _ Z6 ((show RowG _ _ _ _ from unhide HR).keep hS) (by have := unhide hl; omega))
      have hzHG := hide hS.size
      have hS1 := hide hS
      clear hS
      go_wp2_with fail
      refine (unhide HQ).mono ?_
      rintro e Z7 ⟨uHG, rfl, hg⟩
      have hb := hg.below
      have HG := hide hg
      clear hg HQ
      replace HD := hide ((show Blk _ _ _ _ from unhide HD).keep hb)
      have hS2 := hide (below_keep (unhide hS1) hb (unhide hS1).size)
      clear hS1 hb
      go_wp2_with fail
      refine hK.out _ _ (unhide hS2) (fun hS => ?_)
      clear hK hS2
      refine wpAnyH_all (rs := [3]) (by kernel_rfl) (by simp) (AllReadyH.cons (i := 3) rfl (fun KK hK => ?_) AllReadyH.nil)
      rw [if_pos (by kernel_rfl)]
      have HQ := hide (roll_any Z7 _ a b c l ((show GrowG _ _ _ _ _ _ from unhide HG).row))
      have hS1 := hide hS
      clear hS
      go_wp2_with fail
      refine (unhide HQ).mono ?_
      rintro e Z8 ⟨r, s, t, e1, rfl, hb, hr⟩
      have HRR := hide hr
      clear hr HQ
      replace HG := hide ((show GrowG _ _ Z6 _ _ _ from unhide HG).keep hb)
      replace HD := hide ((show Blk _ _ _ _ from unhide HD).keep hb)
      have hS2 := hide (below_keep (unhide hS1) hb (unhide hS1).size)
      clear hS1 hb
      go_wp2_with fail
      refine hK.out _ _ (unhide hS2) (fun hS => ?_)
      clear hK hS2
      refine anyH_at (i := 4) (v := .tuple #[.agg (cells18 r s t), .int .i64 e1]) 16 rfl (by kernel_rfl) (by kernel_rfl) (by kernel_rfl) (by kernel_rfl) (fun _ _ _ h => h) (Or.inl ⟨by kernel_rfl, fun W hS => by go_simp⟩) hS ?_
      try simp only [Act.put, List.setIfInBounds_toArray, List.set_cons_zero, List.set_cons_succ]
      refine anyH_at (i := 5) (v := .agg (cells18 r s t)) 21 rfl (by kernel_rfl) (by kernel_rfl) (by kernel_rfl) (by kernel_rfl) (fun _ _ _ h => h) (Or.inl ⟨by kernel_rfl, fun W hS => by go_simp⟩) hS ?_
      try simp only [Act.put, List.setIfInBounds_toArray, List.set_cons_zero, List.set_cons_succ]
      refine anyH_at (i := 6) (v := .int .i64 e1) 22 rfl (by kernel_rfl) (by kernel_rfl) (by kernel_rfl) (by kernel_rfl) (fun _ _ _ h => h) (Or.inl ⟨by kernel_rfl, fun W hS => by go_simp⟩) hS ?_
      try simp only [Act.put, List.setIfInBounds_toArray, List.set_cons_zero, List.set_cons_succ]
      refine wpAnyH_all (rs := [8]) (by kernel_rfl) (by simp) (AllReadyH.cons (i := 8) rfl (fun KK hK => ?_) AllReadyH.nil)
      rw [if_pos (by kernel_rfl)]
      refine storeO_blk 27 _ _ rfl (show Blk _ _ _ _ from unhide HD) rfl rfl size27 rfl rfl rfl ?_
      intro Y1 k1 kp
      have hS1 := hide (kp.bel (unhide hlt) hS)
      have HX := hide k1
      clear hS kp k1 HD
      refine hK.out _ _ (unhide hS1) (fun hS => ?_)
      clear hK hS1
      refine wpAnyH_all (rs := [9]) (by kernel_rfl) (by simp) (AllReadyH.cons (i := 9) rfl (fun KK hK => ?_) AllReadyH.nil)
      rw [if_pos (by kernel_rfl)]
      have hS1 := hide hS
      clear hS
      go_wp2_with fail
      refine hK.out _ _ (unhide hS1) (fun hS => ?_)
      clear hK hS1
      refine wpAnyH_done (by kernel_rfl) ?_ _
      have hS1 := hide hS
      clear hS
      go_wp2_with fail
      go_meet
      exact ⟨_, r, s, t, e1, rfl, rfl, HX, HRR, hS1⟩
  case rest =>
    obtain ⟨xb, r, s, t, e1, rfl, rfl, HX, HRR, HWW⟩ := hcut
    replace HB := hide (below_via (unhide HB) (unhide HWW))
    replace HO := hide ((show Blk _ _ _ _ from unhide HO).keep (unhide HWW))
    clear HWW HR
    generalize hwc : wc = w2 at *
    clear hwc
    rcases unhide HRR with ⟨_, rfl, rfl, rfl, rfl⟩ | ⟨_, _, rfl, rfl, rfl, rfl⟩ | ⟨_, hm, rfl, rfl, rfl, rfl⟩
    · replace HX : Hid (Blk w2 xb #[.int .i64 0, .int .i64 0, .int .i64 0, .int .i64 0, .int .i64 0, .int .i64 0, .int .i64 0, .int .i64 0, .int .i64 0, .int .i64 0, .int .i64 0, .int .i64 0, .int .i64 0, .int .i64 0, .int .i64 0, .int .i64 0, .int .i64 0, .int .i64 0] 27) := HX
      have f1 : ∀ W, (Op.equalIn 10000 27 (.agg #[.int .i64 0, .int .i64 0, .int .i64 0, .int .i64 0, .int .i64 0, .int .i64 0, .int .i64 0, .int .i64 0, .int .i64 0, .int .i64 0, .int .i64 0, .int .i64 0, .int .i64 0, .int .i64 0, .int .i64 0, .int .i64 0, .int .i64 0, .int .i64 0]) (.agg #[.int .i64 0, .int .i64 0, .int .i64 0, .int .i64 0, .int .i64 0, .int .i64 0, .int .i64 0, .int .i64 0, .int .i64 0, .int .i64 0, .int .i64 0, .int .i64 0, .int .i64 0, .int .i64 0, .int .i64 0, .int .i64 0, .int .i64 0, .int .i64 0])).run Try.prog W = .ok true W := fun W => eqr27 9997 rw0 rw0 rw0 W
      go_wp2_with (first | refine load_blk rfl 27 _ rfl (show Blk _ _ _ _ from unhide HX) rfl row27 size27 rfl ?_)
      go_ret
      exact ⟨rfl, unhide HB⟩
    · replace HX : Hid (Blk w2 xb #[.int .i64 0, .int .i64 0, .int .i64 0, .int .i64 0, .int .i64 0, .int .i64 0, .int .i64 0, .int .i64 0, .int .i64 0, .int .i64 0, .int .i64 0, .int .i64 0, .int .i64 0, .int .i64 0, .int .i64 0, .int .i64 0, .int .i64 0, .int .i64 0] 27) := HX
      have f1 : ∀ W, (Op.equalIn 10000 27 (.agg #[.int .i64 0, .int .i64 0, .int .i64 0, .int .i64 0, .int .i64 0, .int .i64 0, .int .i64 0, .int .i64 0, .int .i64 0, .int .i64 0, .int .i64 0, .int .i64 0, .int .i64 0, .int .i64 0, .int .i64 0, .int .i64 0, .int .i64 0, .int .i64 0]) (.agg #[.int .i64 0, .int .i64 0, .int .i64 0, .int .i64 0, .int .i64 0, .int .i64 0, .int .i64 0, .int .i64 0, .int .i64 0, .int .i64 0, .int .i64 0, .int .i64 0, .int .i64 0, .int .i64 0, .int .i64 0, .int .i64 0, .int .i64 0, .int .i64 0])).run Try.prog W = .ok true W := fun W => eqr27 9997 rw0 rw0 rw0 W
      go_wp2_with (first | refine load_blk rfl 27 _ rfl (show Blk _ _ _ _ from unhide HX) rfl row27 size27 rfl ?_)
      go_ret
      exact ⟨rfl, unhide HB⟩
    · have HF := hide (fine3_of (unhide hl) hm)
      clear hm HRR hl
      generalize rwS l 1 a = r at *
      generalize rwS l 2 b = s at *
      generalize rwS l 3 c = t at *
      go_wp2_with (first | refine load_blk rfl 27 _ rfl (show Blk _ _ _ _ from unhide HX) rfl row27 size27 rfl ?_)
      refine wp_loop_rounds 4 ?_
      rw [rounds_succ]
      have H6 := hide (Blk.new w2 (cells6 r) 26)
      replace HX := hide ((show Blk _ _ _ _ from unhide HX).alloc (.cells (cells6 r) 26))
      replace HO := hide ((show Blk _ _ _ _ from unhide HO).alloc (.cells (cells6 r) 26))
      replace HB := hide (below_via (unhide HB) (below1 w2 (.cells (cells6 r) 26)))
      go_wp2_with (first | simp only [ix27_0])
      generalize w2.alloc (.cells (cells6 r) 26) = W0 at *
      generalize w2.heap.size = rb0 at *
      have g1 := (unhide HF).cr
      refine treg11 (j := 0) rfl (by decide) (decide_eq_false (by have := g1.i.1; omega)) (decide_eq_false (by have := g1.u.1; omega)) (decide_eq_false (by have := g1.x.1; omega)) H6 (hide (by rw [(unhide HF).er]; exact (show Blk _ _ _ _ from unhide HO).at 0 _ rfl)) (hide (unhide HF).ir) (hide (unhide HF).tr) (fun w3 hb => ?_)
      replace HX := hide ((show Blk _ _ _ _ from unhide HX).keep hb)
      replace HO := hide ((show Blk _ _ _ _ from unhide HO).keep hb)
      replace HB := hide (below_via (unhide HB) hb)
      clear hb H6 g1
      go_wp2_with fail
      rw [rounds_succ]
      have H6 := hide (Blk.new w3 (cells6 s) 26)
      replace HX := hide ((show Blk _ _ _ _ from unhide HX).alloc (.cells (cells6 s) 26))
      replace HO := hide ((show Blk _ _ _ _ from unhide HO).alloc (.cells (cells6 s) 26))
      replace HB := hide (below_via (unhide HB) (below1 w3 (.cells (cells6 s) 26)))
      go_wp2_with (first | simp only [ix27_1])
      generalize w3.alloc (.cells (cells6 s) 26) = W1 at *
      generalize w3.heap.size = rb1 at *
      have g1 := (unhide HF).cs
      refine treg11 (j := 1) rfl (by decide) (decide_eq_false (by have := g1.i.1; omega)) (decide_eq_false (by have := g1.u.1; omega)) (decide_eq_false (by have := g1.x.1; omega)) H6 (hide (by rw [(unhide HF).es]; exact (show Blk _ _ _ _ from unhide HO).at 1 _ rfl)) (hide (unhide HF).is) (hide (unhide HF).ts) (fun w4 hb => ?_)
      replace HX := hide ((show Blk _ _ _ _ from unhide HX).keep hb)
      replace HO := hide ((show Blk _ _ _ _ from unhide HO).keep hb)
      replace HB := hide (below_via (unhide HB) hb)
      clear hb H6 g1
      go_wp2_with fail
      rw [rounds_succ]
      have H6 := hide (Blk.new w4 (cells6 t) 26)
      replace HX := hide ((show Blk _ _ _ _ from unhide HX).alloc (.cells (cells6 t) 26))
      replace HO := hide ((show Blk _ _ _ _ from unhide HO).alloc (.cells (cells6 t) 26))
      replace HB := hide (below_via (unhide HB) (below1 w4 (.cells (cells6 t) 26)))
      go_wp2_with (first | simp only [ix27_2])
      generalize w4.alloc (.cells (cells6 t) 26) = W2 at *
      generalize w4.heap.size = rb2 at *
      have g1 := (unhide HF).ct
      refine treg11 (j := 2) rfl (by decide) (decide_eq_false (by have := g1.i.1; omega)) (decide_eq_false (by have := g1.u.1; omega)) (decide_eq_false (by have := g1.x.1; omega)) H6 (hide (by rw [(unhide HF).et]; exact (show Blk _ _ _ _ from unhide HO).at 2 _ rfl)) (hide (unhide HF).it) (hide (unhide HF).tt) (fun w5 hb => ?_)
      replace HX := hide ((show Blk _ _ _ _ from unhide HX).keep hb)
      replace HO := hide ((show Blk _ _ _ _ from unhide HO).keep hb)
      replace HB := hide (below_via (unhide HB) hb)
      clear hb H6 g1
      go_wp2_with fail
      rw [rounds_succ]
      obtain ⟨hok, htie, hi6⟩ := net_fine (unhide HF).cr (unhide HF).cs (unhide HF).ct
      have HNV : Hid (netV r s t = netR r s t) := hide (by unfold netV; rw [if_pos hok])
      have HNE : Hid (netE r s t = 0) := hide (by unfold netE; rw [if_pos hok])
      have dio : ((netR r s t).i == (netR r s t).u) = true := by rw [(unhide HF).io]; simp
      have HQ := hide (fun W => net14 r s t (unhide HF).ir (unhide HF).is (unhide HF).it W)
      clear hok
      replace htie := hide htie
      replace hi6 := hide hi6
      go_wp2_with (first | refine load_blk rfl 27 _ rfl (show Blk _ _ _ _ from unhide HX) rfl row27 size27 rfl ?_)
      refine (unhide HQ _).mono ?_
      rw [unhide HNV, unhide HNE]
      rintro e w6 ⟨rfl, hb⟩
      replace HB := hide (below_via (unhide HB) (below_via hb (below1 w6 (.cells (cells6 (netR r s t)) 26))))
      clear hb HQ HNV HNE HX HO
      generalize netR r s t = N at *
      have HT := hide (ti_any N.o N.i N.u N.n N.x N.z ((unhide hi6).c 0) ((unhide hi6).c 1) ((unhide hi6).c 2) ((unhide hi6).c 3) ((unhide hi6).c 4))
      rw [unhide htie] at HT
      go_wp2_with fail
      refine (unhide HT _).mono ?_
      rintro e w7 ⟨rfl, hb⟩
      replace HB := hide (below_via (unhide HB) hb)
      clear hb HT
      go_wp2_with fail
      go_ret
      exact ⟨rfl, unhide HB⟩
theorem walk (a b c : Int) (x : Option Addr) (n cap : Nat) (l : List Ch) (w : World) (ia : In64 a) (ib : In64 b) (ic : In64 c) (hR : RowG 5 w (.slice x n cap) (l.map chL)) : Calls Try.prog 5 #[.agg #[.int .i64 a, .int .i64 b, .int .i64 c], .slice x n cap] w fun e w' => e = .returned (.bool true) ∧ Below w.heap.size w w' := by
  have hl := rowG_len hR
  rw [List.length_map] at hl
  by_cases h1 : 500 < n
  · exact s_long a b c x n cap (decide_eq_true (by omega)) (hide alive_any) w
  · exact s_ok a b c x n cap l (decide_eq_false (by omega)) (hide (by omega)) (hide alive_any) w (hide hR)
theorem own : ownKnob Try.prog.godebug = none := by kernel_rfl
theorem laidOut : laidOutB Try.prog = true := by kernel_rfl
set_option linter.unusedVariables false in
set_option maxRecDepth 100000 in
theorem lifted (os : Os) (started : os.Started) (H : Type) (enc : TypeId × Value → H) :
    ReturnsInHanded {} Try.checked os 5 .any (Rows.allowTiesSpec.pre6 enc Try.prog Try.f5 Rows.allowTiesRow.domain false) (Rows.allowTiesSpec.post enc Try.prog Try.f5 false true false false) := by
  refine returnsInHanded_of_change (C := Try.checked) own started (by kernel_rfl) Try.func5
    (ChangeSpec.witness6 (enc := enc) (C := Try.checked) false ⟨#[], #[.agg #[.int .i64 0, .int .i64 0, .int .i64 0], .slice none 0 0], []⟩ 8 (by kernel_rfl) (by kernel_rfl) (by kernel_rfl) (by kernel_rfl)) ?_
  intro W base args ds gs before hval0 hW hcnd _
  have hval : ∀ (j : Nat) t v, Try.f5.params[j]? = some t → args[j]? = some v → Value.okWide Try.prog W .any base t v := hval0
  have hW' := hW
  obtain ⟨p, q, hA0, hV, rfl, hfz, hnd⟩ := hW
  have hA : DataW.TrodAll enc Try.prog W 0 (fun _ => true) true Try.f5.params.toList args.toList ds p := hA0
  rw [Try.params5] at hA hval
  obtain ⟨v0, vs0, d0, ds0, p0, q0, hargs, rfl, rfl, h0, r0⟩ := trodAll_cons hA
  obtain ⟨v1, vs1, d1, ds1, p1, q1, rfl, rfl, rfl, h1, r1⟩ := trodAll_cons r0
  obtain ⟨rfl, rfl, rfl⟩ := trodAll_nil r1
  obtain rfl : args = #[v0, v1] := by cases args; simp_all
  obtain ⟨rfl, rfl⟩ := trodVars_none hV
  have k0 := h0
  have lt0 : ∀ x ∈ p0, x.block < W.heap.size := by obtain ⟨m, hm⟩ := k0; exact DataW.trod_lt m _ _ _ hm
  obtain ⟨xa0, xb0, xc0, rfl, ia0, ib0, ic0⟩ := arr3_open (hval 0 22 v0 rfl rfl) h0
  have k1 := h1
  have lt1 : ∀ x ∈ p1, x.block < W.heap.size := by obtain ⟨m, hm⟩ := k1; exact DataW.trod_lt m _ _ _ hm
  obtain ⟨a1, len1, cap1, rfl⟩ := okWide_slice Try.underlying23 (hval 1 23 v1 rfl rfl)
  obtain ⟨l1, hr1⟩ : ∃ l : List Ch, RowG 5 W (.slice a1 len1 cap1) (l.map chL) := by
    obtain ⟨fuel, hf⟩ := h1
    exact chs_open hf
  clear hA0 hval0
  refine (walk xa0 xb0 xc0 a1 len1 cap1 l1 W ia0 ib0 ic0 hr1).mono fun e W' ⟨he, bel⟩ => ?_
  subst he
  exact ⟨_, rfl, _, _, _, [], _, [], hW', trodAll_mk1 (shut_bool Try.underlying4 _), (trodAll_cons_mk (Below.trod laidOut (by kernel_rfl) (of_decide_eq_true (by kernel_rfl)) k0 bel lt0) (trodAll_cons_mk (Below.trod laidOut (by kernel_rfl) (of_decide_eq_true (by kernel_rfl)) k1 bel lt1) trodAll_mk0)), rfl, bel.frame _, fun h => by cases h⟩
theorem over : Rows.allowTiesRow.holds Try.pinned (OpenSpec.ofChange Rows.allowTiesSpec) :=
  OpenClaim.holds_of_wide 5 Try.f5 rfl rfl rfl rfl rfl rfl rfl ⟨rfl, rfl, rfl, rfl, rfl⟩ rfl rfl rfl rfl rfl (by kernel_rfl) Try.func5 (by kernel_rfl)
    (of_decide_eq_true (by kernel_rfl)) (by unfold Func.isWrapper; first | (rw [if_pos (by decide +kernel)]; kernel_rfl) | (rw [if_neg (by decide +kernel)]; exact ⟨rfl, rfl⟩))
    (fun os started H enc _ => lifted os started H enc)
theorem proved : Rows.AllowTiesSaid := over
end Go.Proofs.Ytkccladbcehdbaa.allowTies
namespace Go.Proofs.Ytkccladbcehdbaa
theorem allowTies_holds : Rows.AllowTiesSaid := allowTies.proved
end Go.Proofs.Ytkccladbcehdbaa
