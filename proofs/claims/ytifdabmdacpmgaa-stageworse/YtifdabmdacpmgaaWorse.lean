/- What StageWorse answers. -/
import Derived.Test.YtifdabmdacpmgaaWp
import Derived.Deep.RegionHeld3
import Derived.Deep.CutRange
import Derived.Deep.Cut
import Derived.Deep.CutBlock
namespace Go.Proofs.Ytifdabmdacpmgaa
open Go.RowKit
set_option linter.unusedVariables false
set_option linter.unusedSimpArgs false
def WT (s g p d : Int) (b : Bool) (p' d' : Int) (b' : Bool) : Prop := (nxt s g p d b).2.2 = 0 → (nxt s g p' d' b').2.2 = 0 → ¬ (nxt s g p' d' b').1 < (nxt s g p d b).1
structure SG (w w1 W : World) (cs : Array Value) : Prop where
  bel : Below w1.heap.size w1 W
  blk : Blk W w.heap.size cs 47
  lt : w.heap.size < w1.heap.size
theorem SG.drew1 {w w1 W : World} {cs : Array Value} (h : SG w w1 W cs) : SG w w1 W.drew cs := ⟨h.bel.drew, h.blk, h.lt⟩
theorem SG.alloc {w w1 W : World} {cs : Array Value} (h : SG w w1 W cs) (o : Obj) : SG w w1 (W.alloc o) cs := ⟨h.bel.alloc h.bel.size o, h.blk.alloc o, h.lt⟩
theorem SG.sz {w w1 W : World} {cs : Array Value} (h : SG w w1 W cs) : w1.heap.size ≤ W.heap.size := h.bel.size
theorem SG.past {w w1 W W' : World} {cs : Array Value} {b : Nat} (h : SG w w1 W cs) (hb : w1.heap.size ≤ b) (kp : Past W W' b) : SG w w1 W' cs := ⟨kp.bel hb h.bel, kp.blk (by have := h.lt; omega) h.blk, h.lt⟩
structure CW (w wr : World) (bs bm : Nat) (s g p d : Int) (b : Bool) : Prop where
  bel : Below w.heap.size w wr
  st : Blk wr bs #[.int .i64 s, .int .i64 g] 23
  mr : Blk wr bm #[.int .i64 p, .int .i64 d, .bool b] 25
theorem CW.new (w : World) (s g p d : Int) (b : Bool) : CW w ((w.alloc (.cells #[.int .i64 s, .int .i64 g] 23)).alloc (.cells #[.int .i64 p, .int .i64 d, .bool b] 25)) w.heap.size (w.heap.size + 1) s g p d b := ⟨(below1 w _).alloc (by simp) _, (Blk.new w _ _).alloc _, by simpa using Blk.new (w.alloc (.cells #[.int .i64 s, .int .i64 g] 23)) #[.int .i64 p, .int .i64 d, .bool b] 25⟩
theorem CW.new' (w : World) (s g p d : Int) (b : Bool) : CW w ((w.alloc (.cells #[.int .i64 p, .int .i64 d, .bool b] 25)).alloc (.cells #[.int .i64 s, .int .i64 g] 23)) (w.heap.size + 1) w.heap.size s g p d b := ⟨(below1 w _).alloc (by simp) _, by simpa using Blk.new (w.alloc (.cells #[.int .i64 p, .int .i64 d, .bool b] 25)) #[.int .i64 s, .int .i64 g] 23, (Blk.new w _ _).alloc _⟩
theorem CW.drew1 {w wr : World} {bs bm : Nat} {s g p d : Int} {b : Bool} (h : CW w wr bs bm s g p d b) : CW w wr.drew bs bm s g p d b := ⟨h.bel.drew, h.st, h.mr⟩
set_option maxRecDepth 100000 in
set_option maxHeartbeats 4000000 in
theorem w_1 (s g p d : Int) (b : Bool) (P D : Nat) (la : Option Addr) (ll lc : Nat) (l : List Mk) (ka : Option Addr) (kl kc : Nat) (k : List Mk) (d1 : decide ((100 : Int) < (ll : Int)) = false) (d2 : decide ((100 : Int) < (kl : Int)) = false) (hP : P ≤ 255) (hD : D ≤ 255) (hll : Hid (ll = l.length)) (hl : Hid (l.length ≤ 100)) (hk : Hid (k.length ≤ 100)) (hal : Hid Alive) (w : World) (hL : Hid (RowG 3 w (.slice la ll lc) (l.map mkL))) (hK0 : Hid (RowG 3 w (.slice ka kl kc) (k.map mkL))) : Calls Try.prog 6 #[.agg #[.int .i64 s, .int .i64 g, .int .i64 p, .int .i64 d, .bool b, .int .u8 P, .int .u8 D, .slice la ll lc, .slice ka kl kc]] w fun e w' => e = .returned (.bool true) ∧ Below w.heap.size w w' := by
  have A := hide (Blk.new w #[.int .i64 s, .int .i64 g, .int .i64 p, .int .i64 d, .bool b, .int .u8 P, .int .u8 D, .slice la ll lc, .slice ka kl kc] 47)
  go_enter Try.func6, Try.ntmps6
  go_wp2_with fail
  refine (unhide hal _).mono ?_
  rintro e w1 ⟨rfl, hb⟩
  have HB := hide (below_via (below1 _ _) hb)
  replace A := hide (Blk.keep (unhide A) hb)
  replace hL := hide ((RowG.alloc (unhide hL) _).keep hb)
  replace hK0 := hide ((RowG.alloc (unhide hK0) _).keep hb)
  clear hb
  have c0 := (show Blk _ _ _ _ from unhide A).at 0 (.int .i64 s) rfl
  have c1 := (show Blk _ _ _ _ from unhide A).at 1 (.int .i64 g) rfl
  have c2 := (show Blk _ _ _ _ from unhide A).at 2 (.int .i64 p) rfl
  have c3 := (show Blk _ _ _ _ from unhide A).at 3 (.int .i64 d) rfl
  have c4 := (show Blk _ _ _ _ from unhide A).at 4 (.bool b) rfl
  have c5 := (show Blk _ _ _ _ from unhide A).at 5 (.int .u8 P) rfl
  have c6 := (show Blk _ _ _ _ from unhide A).at 6 (.int .u8 D) rfl
  have c7 := (show Blk _ _ _ _ from unhide A).at 7 (.slice la ll lc) rfl
  have c8 := (show Blk _ _ _ _ from unhide A).at 8 (.slice ka kl kc) rfl
  go_upto_region 3 with fail
  have n2 := (show Blk _ _ _ _ from unhide A).lt
  have n0 : ¬ w.heap.size = w1.heap.size := by have := (show Blk _ _ _ _ from unhide A).lt; omega
  have n1 : ¬ w.heap.size = w1.heap.size + 1 := by have := (show Blk _ _ _ _ from unhide A).lt; omega
  go_cut [3, 4, 5, 6, 7, 8] from 19 to 122 (fun t3 t4 t5 t6 t7 t8 wx => ∃ bs bm, t3 = .pointer (some ⟨bs, 0, none⟩) ∧ t4 = .pointer (some ⟨bm, 0, none⟩) ∧ t5 = .int .u8 P ∧ t6 = .int .u8 D ∧ t7 = .slice la ll lc ∧ t8 = .slice ka kl kc ∧ Hid (CW w1 wx bs bm s g p d b))
  case first =>
    have HS : SG w w1 w1 (#[.int .i64 s, .int .i64 g, .int .i64 p, .int .i64 d, .bool b, .int .u8 P, .int .u8 D, .slice la ll lc, .slice ka kl kc]) := ⟨Below.refl _ _, unhide A, n2⟩
    clear HB A hL hK0 hal c0 c1 c2 c3 c4 c5 c6 c7 c8 n0 n1
    refine wp_region_held_drew (S := fun W => SG w w1 W (#[.int .i64 s, .int .i64 g, .int .i64 p, .int .i64 d, .bool b, .int .u8 P, .int .u8 D, .slice la ll lc, .slice ka kl kc])) (by kernel_rfl) HS.drew1 (fun hS => ?_)
    clear HS
    generalize hV : w1.drew = V0 at *
    clear hV
    have l00 := hS.bel.size
    refine wpAnyH_take (i := 0) (v := .pointer (some ⟨w.heap.size, 0, none⟩)) rfl (by kernel_rfl) (by kernel_rfl) (by kernel_rfl) (fun _ _ _ h => h) (Or.inl ⟨by rfl, fun W hS => by go_simp⟩) hS ?_
    refine wpAnyH_take (i := 1) (v := .agg #[.int .i64 s, .int .i64 g]) rfl (by kernel_rfl) (by kernel_rfl) (by kernel_rfl) (fun _ _ _ h => h) (Or.inl ⟨by rfl, fun W hS => by have d0 := hS.blk.at 0 (.int .i64 s) rfl; have d1 := hS.blk.at 1 (.int .i64 g) rfl; go_simp⟩) hS ?_
    refine wpAnyH_take (i := 2) (v := .pointer (some ⟨w.heap.size, 2, none⟩)) rfl (by kernel_rfl) (by kernel_rfl) (by kernel_rfl) (fun _ _ _ h => h) (Or.inl ⟨by rfl, fun W hS => by go_simp⟩) hS ?_
    refine wpAnyH_take (i := 3) (v := .agg #[.int .i64 p, .int .i64 d, .bool b]) rfl (by kernel_rfl) (by kernel_rfl) (by kernel_rfl) (fun _ _ _ h => h) (Or.inl ⟨by rfl, fun W hS => by have d2 := hS.blk.at 2 (.int .i64 p) rfl; have d3 := hS.blk.at 3 (.int .i64 d) rfl; have d4 := hS.blk.at 4 (.bool b) rfl; go_simp⟩) hS ?_
    refine wpAnyH_take (i := 4) (v := .pointer (some ⟨w.heap.size, 5, none⟩)) rfl (by kernel_rfl) (by kernel_rfl) (by kernel_rfl) (fun _ _ _ h => h) (Or.inl ⟨by rfl, fun W hS => by go_simp⟩) hS ?_
    refine wpAnyH_take (i := 5) (v := .int .u8 P) rfl (by kernel_rfl) (by kernel_rfl) (by kernel_rfl) (fun _ _ _ h => h) (Or.inl ⟨by rfl, fun W hS => by have d5 := hS.blk.at 5 (.int .u8 P) rfl; go_simp⟩) hS ?_
    refine wpAnyH_take (i := 6) (v := .pointer (some ⟨w.heap.size, 6, none⟩)) rfl (by kernel_rfl) (by kernel_rfl) (by kernel_rfl) (fun _ _ _ h => h) (Or.inl ⟨by rfl, fun W hS => by go_simp⟩) hS ?_
    refine wpAnyH_take (i := 7) (v := .int .u8 D) rfl (by kernel_rfl) (by kernel_rfl) (by kernel_rfl) (fun _ _ _ h => h) (Or.inl ⟨by rfl, fun W hS => by have d6 := hS.blk.at 6 (.int .u8 D) rfl; go_simp⟩) hS ?_
    refine wpAnyH_take (i := 8) (v := .pointer (some ⟨w.heap.size, 7, none⟩)) rfl (by kernel_rfl) (by kernel_rfl) (by kernel_rfl) (fun _ _ _ h => h) (Or.inl ⟨by rfl, fun W hS => by go_simp⟩) hS ?_
    refine wpAnyH_take (i := 9) (v := .slice la ll lc) rfl (by kernel_rfl) (by kernel_rfl) (by kernel_rfl) (fun _ _ _ h => h) (Or.inl ⟨by rfl, fun W hS => by have d7 := hS.blk.at 7 (.slice la ll lc) rfl; go_simp⟩) hS ?_
    refine wpAnyH_take (i := 10) (v := .pointer (some ⟨w.heap.size, 8, none⟩)) rfl (by kernel_rfl) (by kernel_rfl) (by kernel_rfl) (fun _ _ _ h => h) (Or.inl ⟨by rfl, fun W hS => by go_simp⟩) hS ?_
    refine wpAnyH_take (i := 11) (v := .slice ka kl kc) rfl (by kernel_rfl) (by kernel_rfl) (by kernel_rfl) (fun _ _ _ h => h) (Or.inl ⟨by rfl, fun W hS => by have d8 := hS.blk.at 8 (.slice ka kl kc) rfl; go_simp⟩) hS ?_
    refine wpAnyH_all (rs := [12, 13]) (by kernel_rfl) (by simp) (AllReadyH.cons (i := 12) rfl (fun KK hK => ?_) (AllReadyH.cons (i := 13) rfl (fun KK hK => ?_) AllReadyH.nil))
    · rw [if_pos (by rfl)]
      replace hS := hide hS
      go_wp2_with fail
      have HA := hide (Blk.new V0 #[.int .i64 0, .int .i64 0] 23)
      refine hK.out _ _ ((unhide hS).alloc _) (fun hS => ?_)
      clear hK
      have lt0 := hS.sz
      have l1 := (show Blk _ _ _ _ from unhide HA).lt
      generalize hU0 : V0.alloc (.cells #[.int .i64 0, .int .i64 0] 23) = V1 at *
      clear hU0
      refine wpAnyH_all (rs := [13]) (by kernel_rfl) (by simp) (AllReadyH.cons (i := 13) rfl (fun KK hK => ?_) AllReadyH.nil)
      rw [if_pos (by rfl)]
      replace hS := hide hS
      go_wp2_with fail
      replace HA := hide ((show Blk _ _ _ _ from unhide HA).alloc (.cells #[.int .i64 0, .int .i64 0, .bool false] 25))
      have HM := hide (Blk.new V1 #[.int .i64 0, .int .i64 0, .bool false] 25)
      refine hK.out _ _ ((unhide hS).alloc _) (fun hS => ?_)
      clear hK
      have lt1 := hS.sz
      generalize hU1 : V1.alloc (.cells #[.int .i64 0, .int .i64 0, .bool false] 25) = V2 at *
      clear hU1
      have l0 : w1.heap.size ≤ V0.heap.size := l00
      refine wpAnyH_all (rs := [14]) (by kernel_rfl) (by simp) (AllReadyH.cons (i := 14) rfl (fun KK hK => ?_) AllReadyH.nil)
      rw [if_pos (by rfl)]
      refine storeO_blk 23 _ _ rfl (show Blk _ _ _ _ from unhide HA) rfl rfl size23 rfl rfl rfl ?_
      intro W3 k3 kp
      have hSA := hS.past (show w1.heap.size ≤ V0.heap.size by omega) kp
      replace HM := hide (kp.blk (by omega) (show Blk _ _ _ _ from unhide HM))
      clear hS kp HA
      have HA := hide k3
      clear k3
      refine hK.out _ _ hSA (fun hS => ?_)
      clear hK hSA
      refine wpAnyH_all (rs := [15]) (by kernel_rfl) (by simp) (AllReadyH.cons (i := 15) rfl (fun KK hK => ?_) AllReadyH.nil)
      rw [if_pos (by rfl)]
      refine storeO_blk 25 _ _ rfl (show Blk _ _ _ _ from unhide HM) rfl rfl size25 rfl rfl rfl ?_
      intro W4 k3 kp
      have hSA := hS.past (show w1.heap.size ≤ V1.heap.size by omega) kp
      replace HA := hide (kp.blk (by omega) (show Blk _ _ _ _ from unhide HA))
      clear hS kp HM
      have HM := hide k3
      clear k3
      refine hK.out _ _ hSA (fun hS => ?_)
      clear hK hSA
      refine wpAnyH_all (rs := [16]) (by kernel_rfl) (by simp) (AllReadyH.cons (i := 16) rfl (fun KK hK => ?_) AllReadyH.nil)
      rw [if_pos (by rfl)]
      replace hS := hide hS
      go_wp2_with fail
      refine hK.out _ _ (unhide hS) (fun hS => ?_)
      clear hK
      refine wpAnyH_all (rs := [17]) (by kernel_rfl) (by simp) (AllReadyH.cons (i := 17) rfl (fun KK hK => ?_) AllReadyH.nil)
      rw [if_pos (by rfl)]
      replace hS := hide hS
      go_wp2_with fail
      refine hK.out _ _ (unhide hS) (fun hS => ?_)
      clear hK
      refine wpAnyH_all (rs := [18]) (by kernel_rfl) (by simp) (AllReadyH.cons (i := 18) rfl (fun KK hK => ?_) AllReadyH.nil)
      rw [if_pos (by rfl)]
      replace hS := hide hS
      go_wp2_with fail
      refine hK.out _ _ (unhide hS) (fun hS => ?_)
      clear hK
      refine wpAnyH_all (rs := [19]) (by kernel_rfl) (by simp) (AllReadyH.cons (i := 19) rfl (fun KK hK => ?_) AllReadyH.nil)
      rw [if_pos (by rfl)]
      replace hS := hide hS
      go_wp2_with fail
      refine hK.out _ _ (unhide hS) (fun hS => ?_)
      clear hK
      refine wpAnyH_done (by kernel_rfl) ?_ _
      replace hS := hide hS
      go_wp2_with fail
      go_meet
      exact ⟨_, _, rfl, rfl, rfl, rfl, rfl, rfl, hide ⟨(unhide hS).bel, unhide HA, unhide HM⟩⟩
    · rw [if_pos (by rfl)]
      replace hS := hide hS
      go_wp2_with fail
      have HM := hide (Blk.new V0 #[.int .i64 0, .int .i64 0, .bool false] 25)
      refine hK.out _ _ ((unhide hS).alloc _) (fun hS => ?_)
      clear hK
      have lt0 := hS.sz
      have l1 := (show Blk _ _ _ _ from unhide HM).lt
      generalize hU0 : V0.alloc (.cells #[.int .i64 0, .int .i64 0, .bool false] 25) = V1 at *
      clear hU0
      refine wpAnyH_all (rs := [12]) (by kernel_rfl) (by simp) (AllReadyH.cons (i := 12) rfl (fun KK hK => ?_) AllReadyH.nil)
      rw [if_pos (by rfl)]
      replace hS := hide hS
      go_wp2_with fail
      replace HM := hide ((show Blk _ _ _ _ from unhide HM).alloc (.cells #[.int .i64 0, .int .i64 0] 23))
      have HA := hide (Blk.new V1 #[.int .i64 0, .int .i64 0] 23)
      refine hK.out _ _ ((unhide hS).alloc _) (fun hS => ?_)
      clear hK
      have lt1 := hS.sz
      generalize hU1 : V1.alloc (.cells #[.int .i64 0, .int .i64 0] 23) = V2 at *
      clear hU1
      have l0 : w1.heap.size ≤ V0.heap.size := l00
      refine wpAnyH_all (rs := [14]) (by kernel_rfl) (by simp) (AllReadyH.cons (i := 14) rfl (fun KK hK => ?_) AllReadyH.nil)
      rw [if_pos (by rfl)]
      refine storeO_blk 23 _ _ rfl (show Blk _ _ _ _ from unhide HA) rfl rfl size23 rfl rfl rfl ?_
      intro W3 k3 kp
      have hSA := hS.past (show w1.heap.size ≤ V1.heap.size by omega) kp
      replace HM := hide (kp.blk (by omega) (show Blk _ _ _ _ from unhide HM))
      clear hS kp HA
      have HA := hide k3
      clear k3
      refine hK.out _ _ hSA (fun hS => ?_)
      clear hK hSA
      refine wpAnyH_all (rs := [15]) (by kernel_rfl) (by simp) (AllReadyH.cons (i := 15) rfl (fun KK hK => ?_) AllReadyH.nil)
      rw [if_pos (by rfl)]
      refine storeO_blk 25 _ _ rfl (show Blk _ _ _ _ from unhide HM) rfl rfl size25 rfl rfl rfl ?_
      intro W4 k3 kp
      have hSA := hS.past (show w1.heap.size ≤ V0.heap.size by omega) kp
      replace HA := hide (kp.blk (by omega) (show Blk _ _ _ _ from unhide HA))
      clear hS kp HM
      have HM := hide k3
      clear k3
      refine hK.out _ _ hSA (fun hS => ?_)
      clear hK hSA
      refine wpAnyH_all (rs := [16]) (by kernel_rfl) (by simp) (AllReadyH.cons (i := 16) rfl (fun KK hK => ?_) AllReadyH.nil)
      rw [if_pos (by rfl)]
      replace hS := hide hS
      go_wp2_with fail
      refine hK.out _ _ (unhide hS) (fun hS => ?_)
      clear hK
      refine wpAnyH_all (rs := [17]) (by kernel_rfl) (by simp) (AllReadyH.cons (i := 17) rfl (fun KK hK => ?_) AllReadyH.nil)
      rw [if_pos (by rfl)]
      replace hS := hide hS
      go_wp2_with fail
      refine hK.out _ _ (unhide hS) (fun hS => ?_)
      clear hK
      refine wpAnyH_all (rs := [18]) (by kernel_rfl) (by simp) (AllReadyH.cons (i := 18) rfl (fun KK hK => ?_) AllReadyH.nil)
      rw [if_pos (by rfl)]
      replace hS := hide hS
      go_wp2_with fail
      refine hK.out _ _ (unhide hS) (fun hS => ?_)
      clear hK
      refine wpAnyH_all (rs := [19]) (by kernel_rfl) (by simp) (AllReadyH.cons (i := 19) rfl (fun KK hK => ?_) AllReadyH.nil)
      rw [if_pos (by rfl)]
      replace hS := hide hS
      go_wp2_with fail
      refine hK.out _ _ (unhide hS) (fun hS => ?_)
      clear hK
      refine wpAnyH_done (by kernel_rfl) ?_ _
      replace hS := hide hS
      go_wp2_with fail
      go_meet
      exact ⟨_, _, rfl, rfl, rfl, rfl, rfl, rfl, hide ⟨(unhide hS).bel, unhide HA, unhide HM⟩⟩
  case rest =>
    obtain ⟨bs, bm, rfl, rfl, rfl, rfl, rfl, rfl, H⟩ := hcut
    clear c0 c1 c2 c3 c4 c5 c6 c7 c8 n0 n1 n2 A
    replace HB := hide (below_via (unhide HB) (unhide H).bel)
    replace hL := hide ((show RowG _ _ _ _ from unhide hL).keep (unhide H).bel)
    replace hK0 := hide ((show RowG _ _ _ _ from unhide hK0).keep (unhide H).bel)
    obtain ⟨_, Hs, Hm⟩ := unhide H
    clear H
    replace Hs := hide Hs
    replace Hm := hide Hm
    have m0 := (show Blk _ _ _ _ from unhide Hm).at 0 (.int .i64 p) rfl
    have m1 := (show Blk _ _ _ _ from unhide Hm).at 1 (.int .i64 d) rfl
    have m2 := (show Blk _ _ _ _ from unhide Hm).at 2 (.bool b) rfl
    go_upto_region 7 with fail
    clear m0 m1 m2
    have HX := hide (Blk.new wc #[.int .i64 p, .int .i64 d, .bool b] 25)
    have ltm := (show Blk _ _ _ _ from unhide Hm).lt
    have HV := hide (below1 wc (.cells #[.int .i64 p, .int .i64 d, .bool b] 25))
    replace HX := hide (Blk.new wc #[.int .i64 p, .int .i64 d, .bool b] 25)
    generalize wc.alloc (.cells #[.int .i64 p, .int .i64 d, .bool b] 25) = V at HX HV ⊢
    go_cut [9] from 19 to 122 (fun t9 wx => ∃ B' : Bool, t9 = .pointer (some ⟨wc.heap.size, 0, none⟩) ∧ (b = true → B' = true) ∧ Hid (Blk wx wc.heap.size #[.int .i64 (wrap64 (p + P)), .int .i64 (wrap64 (d + D)), .bool B'] 25) ∧ Hid (Below wc.heap.size wc wx))
    case first =>
      replace Hm := hide ((show Blk _ _ _ _ from unhide Hm).keep (unhide HV))
      clear HB hL hK0 Hs hal
      have n1 : ¬ bm = wc.heap.size := by omega
      have m0 := (show Blk _ _ _ _ from unhide Hm).at 0 (.int .i64 p) rfl
      have m1 := (show Blk _ _ _ _ from unhide Hm).at 1 (.int .i64 d) rfl
      have m2 := (show Blk _ _ _ _ from unhide Hm).at 2 (.bool b) rfl
      have x0 := (show Blk _ _ _ _ from unhide HX).at 0 (.int .i64 p) rfl
      have x1 := (show Blk _ _ _ _ from unhide HX).at 1 (.int .i64 d) rfl
      have x2 := (show Blk _ _ _ _ from unhide HX).at 2 (.bool b) rfl
      have f0 := (show Blk _ _ _ _ from unhide HX).fz 0
      have f1 := (show Blk _ _ _ _ from unhide HX).fz 1
      have f2 := (show Blk _ _ _ _ from unhide HX).fz 2
      cases b
      · go_region
        all_goals (go_wp2_with fail)
        all_goals go_meet
        all_goals exact ⟨_, rfl, fun c => (by cases c), hide (((show Blk _ _ _ _ from unhide HX).put3 _ _ _).drew), hide ((below_put3 (unhide HV) (Nat.le_refl _) _ _ _).drew)⟩
      · go_region
        all_goals (go_wp2_with fail)
        all_goals go_meet
        all_goals exact ⟨_, rfl, fun _ => rfl, hide (((show Blk _ _ _ _ from unhide HX).put3 _ _ _).drew), hide ((below_put3 (unhide HV) (Nat.le_refl _) _ _ _).drew)⟩
    case rest =>
      obtain ⟨B', rfl, hB', HXx, HV2⟩ := hcut
      have HW : Hid (WT s g p d b (wrap64 (p + P)) (wrap64 (d + D)) B') := hide (fun e f => worse_ok' hP hD hB' e f)
      clear HX HV hB' ltm
      generalize wrap64 (p + P) = PP at *
      generalize wrap64 (d + D) = DD at *
      replace HB := hide (below_via (unhide HB) (unhide HV2))
      replace hL := hide ((show RowG _ _ _ _ from unhide hL).keep (unhide HV2))
      replace hK0 := hide ((show RowG _ _ _ _ from unhide hK0).keep (unhide HV2))
      replace Hs := hide ((show Blk _ _ _ _ from unhide Hs).keep (unhide HV2))
      replace Hm := hide ((show Blk _ _ _ _ from unhide Hm).keep (unhide HV2))
      clear HV2
      generalize wc.heap.size = bx at *
      skip
      have HN := hide (next_any s g p d b)
      have HM := hide (next_any s g PP DD B')
      unfold WT at HW
      generalize nxt s g p d b = r1 at *
      obtain ⟨x1, y1, z1⟩ := r1
      generalize nxt s g PP DD B' = r2 at *
      obtain ⟨x2, y2, z2⟩ := r2
      dsimp only at HW HN HM
      have a0 := (show Blk _ _ _ _ from unhide Hs).at 0 (.int .i64 s) rfl
      have a1 := (show Blk _ _ _ _ from unhide Hs).at 1 (.int .i64 g) rfl
      have m0 := (show Blk _ _ _ _ from unhide Hm).at 0 (.int .i64 p) rfl
      have m1 := (show Blk _ _ _ _ from unhide Hm).at 1 (.int .i64 d) rfl
      have m2 := (show Blk _ _ _ _ from unhide Hm).at 2 (.bool b) rfl
      go_wp2_with fail
      refine (unhide HN _).mono ?_
      rintro e w2 ⟨rfl, hb⟩
      replace hb := below_via hb (below1 _ (.cells #[.int .i64 x1, .int .i64 y1] 27))
      have HA := hide (Blk.new w2 #[.int .i64 x1, .int .i64 y1] 27)
      replace HB := hide (below_via (unhide HB) hb)
      replace hL := hide ((show RowG _ _ _ _ from unhide hL).keep hb)
      replace hK0 := hide ((show RowG _ _ _ _ from unhide hK0).keep hb)
      replace Hs := hide ((show Blk _ _ _ _ from unhide Hs).keep hb)
      replace HXx := hide ((show Blk _ _ _ _ from unhide HXx).keep hb)
      clear hb a0 a1 m0 m1 m2 Hm HN
      have a0 := (show Blk _ _ _ _ from unhide Hs).at 0 (.int .i64 s) rfl
      have a1 := (show Blk _ _ _ _ from unhide Hs).at 1 (.int .i64 g) rfl
      have m0 := (show Blk _ _ _ _ from unhide HXx).at 0 (.int .i64 PP) rfl
      have m1 := (show Blk _ _ _ _ from unhide HXx).at 1 (.int .i64 DD) rfl
      have m2 := (show Blk _ _ _ _ from unhide HXx).at 2 (.bool B') rfl
      go_wp2_with fail
      refine (unhide HM _).mono ?_
      rintro e w3 ⟨rfl, hb⟩
      replace hb := below_via hb (below1 _ (.cells #[.int .i64 x2, .int .i64 y2] 27))
      have HA2 := hide (Blk.new w3 #[.int .i64 x2, .int .i64 y2] 27)
      replace HA := hide ((show Blk _ _ _ _ from unhide HA).keep hb)
      replace HB := hide (below_via (unhide HB) hb)
      replace hL := hide ((show RowG _ _ _ _ from unhide hL).keep hb)
      replace hK0 := hide ((show RowG _ _ _ _ from unhide hK0).keep hb)
      clear hb a0 a1 m0 m1 m2 Hs HXx HM
      have a0 := (show Blk _ _ _ _ from unhide HA).at 0 (.int .i64 x1) rfl
      have a1 := (show Blk _ _ _ _ from unhide HA2).at 0 (.int .i64 x2) rfl
      go_upto_region 10 with fail
      go_cut [85] from 19 to 122 (fun t85 wx => t85 = .bool false ∧ w3.alloc (.cells #[.int .i64 x2, .int .i64 y2] 27) = wx)
      case first =>
        clear HB hL hK0 HA HA2
        by_cases q1 : z1 = 0
        · have t1 : (z1 == 0) = true := by simp [q1]
          by_cases q2 : z2 = 0
          · have t2 : (z2 == 0) = true := by simp [q2]
            have t3 : decide (x2 < x1) = false := decide_eq_false (by have := unhide HW q1 q2; omega)
            replace q1 := hide q1
            replace q2 := hide q2
            go_wp2_with fail
            go_meet
            exact ⟨rfl, rfl⟩
          · have t2 : (z2 == 0) = false := by simp [q2]
            replace q1 := hide q1
            go_wp2_with fail
            go_meet
            exact ⟨rfl, rfl⟩
        · have t1 : (z1 == 0) = false := by simp [q1]
          go_wp2_with fail
          go_meet
          exact ⟨rfl, rfl⟩
      case rest =>
        obtain ⟨rfl, rfl⟩ := hcut
        clear a0 a1 HA HA2 HW
        go_upto_region 13 with fail
        have Hbad := hide (by simpa using Blk.new (w3.alloc (.cells #[.int .i64 x2, .int .i64 y2] 27)) #[.int .i64 0, .int .i64 0, .bool true] 25 : Blk ((w3.alloc (.cells #[.int .i64 x2, .int .i64 y2] 27)).alloc (.cells #[.int .i64 0, .int .i64 0, .bool true] 25)) (w3.heap.size + 1) #[.int .i64 0, .int .i64 0, .bool true] 25)
        have hb := below1 (w3.alloc (.cells #[.int .i64 x2, .int .i64 y2] 27)) (.cells #[.int .i64 0, .int .i64 0, .bool true] 25)
        replace HB := hide (below_via (unhide HB) hb)
        replace hL := hide ((show RowG _ _ _ _ from unhide hL).keep hb)
        replace hK0 := hide ((show RowG _ _ _ _ from unhide hK0).keep hb)
        clear hb
        generalize (w3.alloc (.cells #[.int .i64 x2, .int .i64 y2] 27)).alloc (.cells #[.int .i64 0, .int .i64 0, .bool true] 25) = U0 at *
        generalize w3.heap.size = kb at *
        go_cut [15, 16] from 19 to 122 (fun t15 t16 wx => ∃ zs e, t16 = .int .i64 e ∧ Hid (Row wx t15 zs) ∧ Hid (RunR (l ++ badM :: k) zs e) ∧ Hid (Cap t15) ∧ Hid (Below U0.heap.size U0 wx))
        case first =>
          clear HB hal
          refine wp_region_held_drew (S := fun W => Below U0.heap.size U0 W) (by kernel_rfl) (Below.refl _ _).drew (fun hS => ?_)
          generalize hV : U0.drew = V0 at *
          clear hV
          refine wpAnyH_take (i := 1) (v := .slice la ll lc) rfl (by kernel_rfl) (by kernel_rfl) (by kernel_rfl) (fun _ _ _ h => h) (Or.inl ⟨by rfl, fun W hS => by go_simp⟩) hS ?_
          refine wpAnyH_take (i := 3) (v := .agg #[.int .i64 0, .int .i64 0, .bool true]) rfl (by kernel_rfl) (by kernel_rfl) (by kernel_rfl) (fun _ _ _ h => h) (Or.inl ⟨by rfl, fun W hS => by have cc := (show Blk _ _ _ _ from unhide Hbad).keep hS; have d0 := cc.at 0 (.int .i64 0) rfl; have d1 := cc.at 1 (.int .i64 0) rfl; have d2 := cc.at 2 (.bool true) rfl; go_simp⟩) hS ?_
          refine wpAnyH_take (i := 6) (v := .slice ka kl kc) rfl (by kernel_rfl) (by kernel_rfl) (by kernel_rfl) (fun _ _ _ h => h) (Or.inl ⟨by rfl, fun W hS => by go_simp⟩) hS ?_
          refine wpAnyH_all (rs := [0, 4]) (by kernel_rfl) (by simp) (AllReadyH.cons (i := 0) rfl (fun KK hK => ?_) (AllReadyH.cons (i := 4) rfl (fun KK hK => ?_) AllReadyH.nil))
          · rw [if_pos (by rfl)]
            replace hS := hide hS
            go_wp2_with fail
            have HG : Hid (GrowG 25 3 U0 (V0.alloc (.cells #[] 25)) (.slice (some ⟨V0.heap.size, 0, none⟩) 0 0) []) := hide ⟨below_via (unhide hS) (below1 _ _), World.ownsRow_made _ _ 0 (unhide hS).size (by decide) rfl, fun f hf => by cases hf⟩
            refine hK.out _ _ (unhide HG).below (fun hS => ?_)
            clear hK
            have l0 : V0.heap.size < (V0.alloc (.cells #[] 25)).heap.size := by simp
            generalize hU : V0.alloc (.cells #[] 25) = V1 at *
            clear hU
            refine wpAnyH_all (rs := [2, 4]) (by kernel_rfl) (by simp) (AllReadyH.cons (i := 2) rfl (fun KK hK => ?_) (AllReadyH.cons (i := 4) rfl (fun KK hK => ?_) AllReadyH.nil))
            · rw [if_pos (by rfl)]
              refine wp_pushG 25 37 3 24 (.agg #[.int .i64 0, .int .i64 0, .bool false]) (by decide) (by decide) rfl Try.underlying37 info25 _ _ rfl U0 _ _ (.slice la ll lc) _ (l.map mkL) (unhide HG) rfl rfl ((show RowG _ _ _ _ from unhide hL).keep hS) (by have := unhide hl; simp; omega) ?_
              intro v2 Z2 hG2 hgr
              clear hgr HG
              have HG := hide hG2
              refine hK.out _ _ hG2.below (fun hS => ?_)
              clear hK hG2
              refine wpAnyH_all (rs := [4]) (by kernel_rfl) (by simp) (AllReadyH.cons (i := 4) rfl (fun KK hK => ?_) AllReadyH.nil)
              rw [if_pos (by rfl)]
              replace hS := hide hS
              go_wp2_with fail
              have HD := hide (Blk.new Z2 #[.int .i64 0, .int .i64 0, .bool true] 25)
              replace HG := hide ((unhide HG).alloc (.cells #[.int .i64 0, .int .i64 0, .bool true] 25))
              refine hK.out _ _ (below_via (unhide hS) (below1 _ (.cells #[.int .i64 0, .int .i64 0, .bool true] 25))) (fun hS => ?_)
              clear hK
              generalize hU : Z2.alloc (.cells #[.int .i64 0, .int .i64 0, .bool true] 25) = Z4 at *
              clear hU
              refine wpAnyH_all (rs := [5]) (by kernel_rfl) (by simp) (AllReadyH.cons (i := 5) rfl (fun KK hK => ?_) AllReadyH.nil)
              rw [if_pos (by rfl)]
              refine wp_pushG 25 37 3 24 (.agg #[.int .i64 0, .int .i64 0, .bool false]) (by decide) (by decide) rfl Try.underlying37 info25 _ _ rfl U0 _ _ (.slice (some ⟨Z2.heap.size, 0, none⟩) 1 1) _ ([mkL badM]) (unhide HG) rfl rfl (row_one (unhide HD)) (by have := unhide hl; simp; omega) ?_
              intro v5 Z5 hG5 hgr
              clear hgr
              have HG := hide hG5
              refine hK.out _ _ hG5.below (fun hS => ?_)
              clear hK hG5
              refine wpAnyH_all (rs := [7]) (by kernel_rfl) (by simp) (AllReadyH.cons (i := 7) rfl (fun KK hK => ?_) AllReadyH.nil)
              rw [if_pos (by rfl)]
              refine wp_pushG 25 37 3 24 (.agg #[.int .i64 0, .int .i64 0, .bool false]) (by decide) (by decide) rfl Try.underlying37 info25 _ _ rfl U0 _ _ (.slice ka kl kc) _ (k.map mkL) (unhide HG) rfl rfl ((show RowG _ _ _ _ from unhide hK0).keep hS) (by have := unhide hl; have := unhide hk; simp; omega) ?_
              intro v7 Z7 hG7 hgr
              clear hgr
              have HR := hide hG7.row
              rw [show (([] ++ List.map mkL l) ++ [mkL badM]) ++ List.map mkL k = (l ++ badM :: k).map mkL by simp] at HR
              refine hK.out _ _ hG7.below (fun hS => ?_)
              clear hK hG7
              refine wpAnyH_all (rs := [8]) (by kernel_rfl) (by simp) (AllReadyH.cons (i := 8) rfl (fun KK hK => ?_) AllReadyH.nil)
              rw [if_pos (by rfl)]
              replace hS := hide hS
              go_wp2_with fail
              refine (to_any _ _ _ (unhide HR) (by have := unhide hl; have := unhide hk; simp; omega)).mono ?_
              rintro e Z8 ⟨u8, rfl, hg⟩
              have HR8 := hide hg.row
              have hS8 := below_via (unhide hS) hg.below
              clear hg hS
              go_wp2_with fail
              refine hK.out _ _ hS8 (fun hS => ?_)
              clear hK hS8
              refine wpAnyH_all (rs := [9]) (by kernel_rfl) (by simp) (AllReadyH.cons (i := 9) rfl (fun KK hK => ?_) AllReadyH.nil)
              rw [if_pos (by rfl)]
              replace hS := hide hS
              go_wp2_with fail
              refine (run_anyC _ _ _ (unhide HR8)).mono ?_
              rintro e Z9 ⟨u9, zs, e9, rfl, hb, hr, ho, hc⟩
              have HR9 := hide hr
              have HO := hide ho
              have HC := hide hc
              have hS8 := below_via (unhide hS) hb
              clear hb hr ho hc hS
              go_wp2_with fail
              refine hK.out _ _ hS8 (fun hS => ?_)
              clear hK hS8
              refine wpAnyH_take (i := 10) (v := .tuple #[u9, .int .i64 e9]) rfl (by kernel_rfl) (by kernel_rfl) (by kernel_rfl) (fun _ _ _ h => h) (Or.inl ⟨by rfl, fun W hS => by go_simp⟩) hS ?_
              refine wpAnyH_take (i := 11) (v := u9) rfl (by kernel_rfl) (by kernel_rfl) (by kernel_rfl) (fun _ _ _ h => h) (Or.inl ⟨by rfl, fun W hS => by go_simp⟩) hS ?_
              refine wpAnyH_take (i := 12) (v := .int .i64 e9) rfl (by kernel_rfl) (by kernel_rfl) (by kernel_rfl) (fun _ _ _ h => h) (Or.inl ⟨by rfl, fun W hS => by go_simp⟩) hS ?_
              refine wpAnyH_all (rs := [13]) (by kernel_rfl) (by simp) (AllReadyH.cons (i := 13) rfl (fun KK hK => ?_) AllReadyH.nil)
              rw [if_pos (by rfl)]
              replace hS := hide hS
              go_wp2_with fail
              refine hK.out _ _ (unhide hS) (fun hS => ?_)
              clear hK
              refine wpAnyH_all (rs := [14]) (by kernel_rfl) (by simp) (AllReadyH.cons (i := 14) rfl (fun KK hK => ?_) AllReadyH.nil)
              rw [if_pos (by rfl)]
              replace hS := hide hS
              go_wp2_with fail
              refine hK.out _ _ (unhide hS) (fun hS => ?_)
              clear hK
              refine wpAnyH_done (by kernel_rfl) ?_ _
              replace hS := hide hS
              go_wp2_with fail
              go_meet
              exact ⟨_, _, rfl, HR9, HO, HC, hS⟩
            · rw [if_pos (by rfl)]
              replace hS := hide hS
              go_wp2_with fail
              have HD := hide (Blk.new V1 #[.int .i64 0, .int .i64 0, .bool true] 25)
              replace HG := hide ((unhide HG).alloc (.cells #[.int .i64 0, .int .i64 0, .bool true] 25))
              refine hK.out _ _ (below_via (unhide hS) (below1 _ (.cells #[.int .i64 0, .int .i64 0, .bool true] 25))) (fun hS => ?_)
              clear hK
              generalize hU : V1.alloc (.cells #[.int .i64 0, .int .i64 0, .bool true] 25) = V2 at *
              clear hU
              refine wpAnyH_all (rs := [2]) (by kernel_rfl) (by simp) (AllReadyH.cons (i := 2) rfl (fun KK hK => ?_) AllReadyH.nil)
              rw [if_pos (by rfl)]
              refine wp_pushG 25 37 3 24 (.agg #[.int .i64 0, .int .i64 0, .bool false]) (by decide) (by decide) rfl Try.underlying37 info25 _ _ rfl U0 _ _ (.slice la ll lc) _ (l.map mkL) (unhide HG) rfl rfl ((show RowG _ _ _ _ from unhide hL).keep hS) (by have := unhide hl; simp; omega) ?_
              intro v2 Z2 hG2 hgr
              replace HD := hide ((hgr.block _ (show Blk _ _ _ _ from unhide HD).lt (by simp [Value.ownBlock]; omega)).trans (unhide HD) : Blk _ _ _ _)
              clear hgr HG
              have HG := hide hG2
              refine hK.out _ _ hG2.below (fun hS => ?_)
              clear hK hG2
              refine wpAnyH_all (rs := [5]) (by kernel_rfl) (by simp) (AllReadyH.cons (i := 5) rfl (fun KK hK => ?_) AllReadyH.nil)
              rw [if_pos (by rfl)]
              refine wp_pushG 25 37 3 24 (.agg #[.int .i64 0, .int .i64 0, .bool false]) (by decide) (by decide) rfl Try.underlying37 info25 _ _ rfl U0 _ _ (.slice (some ⟨V1.heap.size, 0, none⟩) 1 1) _ ([mkL badM]) (unhide HG) rfl rfl (row_one (unhide HD)) (by have := unhide hl; simp; omega) ?_
              intro v5 Z5 hG5 hgr
              clear hgr
              have HG := hide hG5
              refine hK.out _ _ hG5.below (fun hS => ?_)
              clear hK hG5
              refine wpAnyH_all (rs := [7]) (by kernel_rfl) (by simp) (AllReadyH.cons (i := 7) rfl (fun KK hK => ?_) AllReadyH.nil)
              rw [if_pos (by rfl)]
              refine wp_pushG 25 37 3 24 (.agg #[.int .i64 0, .int .i64 0, .bool false]) (by decide) (by decide) rfl Try.underlying37 info25 _ _ rfl U0 _ _ (.slice ka kl kc) _ (k.map mkL) (unhide HG) rfl rfl ((show RowG _ _ _ _ from unhide hK0).keep hS) (by have := unhide hl; have := unhide hk; simp; omega) ?_
              intro v7 Z7 hG7 hgr
              clear hgr
              have HR := hide hG7.row
              rw [show (([] ++ List.map mkL l) ++ [mkL badM]) ++ List.map mkL k = (l ++ badM :: k).map mkL by simp] at HR
              refine hK.out _ _ hG7.below (fun hS => ?_)
              clear hK hG7
              refine wpAnyH_all (rs := [8]) (by kernel_rfl) (by simp) (AllReadyH.cons (i := 8) rfl (fun KK hK => ?_) AllReadyH.nil)
              rw [if_pos (by rfl)]
              replace hS := hide hS
              go_wp2_with fail
              refine (to_any _ _ _ (unhide HR) (by have := unhide hl; have := unhide hk; simp; omega)).mono ?_
              rintro e Z8 ⟨u8, rfl, hg⟩
              have HR8 := hide hg.row
              have hS8 := below_via (unhide hS) hg.below
              clear hg hS
              go_wp2_with fail
              refine hK.out _ _ hS8 (fun hS => ?_)
              clear hK hS8
              refine wpAnyH_all (rs := [9]) (by kernel_rfl) (by simp) (AllReadyH.cons (i := 9) rfl (fun KK hK => ?_) AllReadyH.nil)
              rw [if_pos (by rfl)]
              replace hS := hide hS
              go_wp2_with fail
              refine (run_anyC _ _ _ (unhide HR8)).mono ?_
              rintro e Z9 ⟨u9, zs, e9, rfl, hb, hr, ho, hc⟩
              have HR9 := hide hr
              have HO := hide ho
              have HC := hide hc
              have hS8 := below_via (unhide hS) hb
              clear hb hr ho hc hS
              go_wp2_with fail
              refine hK.out _ _ hS8 (fun hS => ?_)
              clear hK hS8
              refine wpAnyH_take (i := 10) (v := .tuple #[u9, .int .i64 e9]) rfl (by kernel_rfl) (by kernel_rfl) (by kernel_rfl) (fun _ _ _ h => h) (Or.inl ⟨by rfl, fun W hS => by go_simp⟩) hS ?_
              refine wpAnyH_take (i := 11) (v := u9) rfl (by kernel_rfl) (by kernel_rfl) (by kernel_rfl) (fun _ _ _ h => h) (Or.inl ⟨by rfl, fun W hS => by go_simp⟩) hS ?_
              refine wpAnyH_take (i := 12) (v := .int .i64 e9) rfl (by kernel_rfl) (by kernel_rfl) (by kernel_rfl) (fun _ _ _ h => h) (Or.inl ⟨by rfl, fun W hS => by go_simp⟩) hS ?_
              refine wpAnyH_all (rs := [13]) (by kernel_rfl) (by simp) (AllReadyH.cons (i := 13) rfl (fun KK hK => ?_) AllReadyH.nil)
              rw [if_pos (by rfl)]
              replace hS := hide hS
              go_wp2_with fail
              refine hK.out _ _ (unhide hS) (fun hS => ?_)
              clear hK
              refine wpAnyH_all (rs := [14]) (by kernel_rfl) (by simp) (AllReadyH.cons (i := 14) rfl (fun KK hK => ?_) AllReadyH.nil)
              rw [if_pos (by rfl)]
              replace hS := hide hS
              go_wp2_with fail
              refine hK.out _ _ (unhide hS) (fun hS => ?_)
              clear hK
              refine wpAnyH_done (by kernel_rfl) ?_ _
              replace hS := hide hS
              go_wp2_with fail
              go_meet
              exact ⟨_, _, rfl, HR9, HO, HC, hS⟩
          · rw [if_pos (by rfl)]
            replace hS := hide hS
            go_wp2_with fail
            have HD := hide (Blk.new V0 #[.int .i64 0, .int .i64 0, .bool true] 25)
            refine hK.out _ _ (below_via (unhide hS) (below1 _ (.cells #[.int .i64 0, .int .i64 0, .bool true] 25))) (fun hS => ?_)
            clear hK
            have l0 : V0.heap.size < (V0.alloc (.cells #[.int .i64 0, .int .i64 0, .bool true] 25)).heap.size := by simp
            generalize hU : V0.alloc (.cells #[.int .i64 0, .int .i64 0, .bool true] 25) = V1 at *
            clear hU
            refine wpAnyH_all (rs := [0]) (by kernel_rfl) (by simp) (AllReadyH.cons (i := 0) rfl (fun KK hK => ?_) AllReadyH.nil)
            rw [if_pos (by rfl)]
            replace hS := hide hS
            go_wp2_with fail
            have HG : Hid (GrowG 25 3 U0 (V1.alloc (.cells #[] 25)) (.slice (some ⟨V1.heap.size, 0, none⟩) 0 0) []) := hide ⟨below_via (unhide hS) (below1 _ _), World.ownsRow_made _ _ 0 (unhide hS).size (by decide) rfl, fun f hf => by cases hf⟩
            replace HD := hide ((show Blk _ _ _ _ from unhide HD).alloc (.cells #[] 25))
            refine hK.out _ _ (unhide HG).below (fun hS => ?_)
            clear hK
            generalize hU : V1.alloc (.cells #[] 25) = V2 at *
            clear hU
            refine wpAnyH_all (rs := [2]) (by kernel_rfl) (by simp) (AllReadyH.cons (i := 2) rfl (fun KK hK => ?_) AllReadyH.nil)
            rw [if_pos (by rfl)]
            refine wp_pushG 25 37 3 24 (.agg #[.int .i64 0, .int .i64 0, .bool false]) (by decide) (by decide) rfl Try.underlying37 info25 _ _ rfl U0 _ _ (.slice la ll lc) _ (l.map mkL) (unhide HG) rfl rfl ((show RowG _ _ _ _ from unhide hL).keep hS) (by have := unhide hl; simp; omega) ?_
            intro v2 Z2 hG2 hgr
            replace HD := hide ((hgr.block _ (show Blk _ _ _ _ from unhide HD).lt (by simp [Value.ownBlock]; omega)).trans (unhide HD) : Blk _ _ _ _)
            clear hgr HG
            have HG := hide hG2
            refine hK.out _ _ hG2.below (fun hS => ?_)
            clear hK hG2
            refine wpAnyH_all (rs := [5]) (by kernel_rfl) (by simp) (AllReadyH.cons (i := 5) rfl (fun KK hK => ?_) AllReadyH.nil)
            rw [if_pos (by rfl)]
            refine wp_pushG 25 37 3 24 (.agg #[.int .i64 0, .int .i64 0, .bool false]) (by decide) (by decide) rfl Try.underlying37 info25 _ _ rfl U0 _ _ (.slice (some ⟨V0.heap.size, 0, none⟩) 1 1) _ ([mkL badM]) (unhide HG) rfl rfl (row_one (unhide HD)) (by have := unhide hl; simp; omega) ?_
            intro v5 Z5 hG5 hgr
            clear hgr
            have HG := hide hG5
            refine hK.out _ _ hG5.below (fun hS => ?_)
            clear hK hG5
            refine wpAnyH_all (rs := [7]) (by kernel_rfl) (by simp) (AllReadyH.cons (i := 7) rfl (fun KK hK => ?_) AllReadyH.nil)
            rw [if_pos (by rfl)]
            refine wp_pushG 25 37 3 24 (.agg #[.int .i64 0, .int .i64 0, .bool false]) (by decide) (by decide) rfl Try.underlying37 info25 _ _ rfl U0 _ _ (.slice ka kl kc) _ (k.map mkL) (unhide HG) rfl rfl ((show RowG _ _ _ _ from unhide hK0).keep hS) (by have := unhide hl; have := unhide hk; simp; omega) ?_
            intro v7 Z7 hG7 hgr
            clear hgr
            have HR := hide hG7.row
            rw [show (([] ++ List.map mkL l) ++ [mkL badM]) ++ List.map mkL k = (l ++ badM :: k).map mkL by simp] at HR
            refine hK.out _ _ hG7.below (fun hS => ?_)
            clear hK hG7
            refine wpAnyH_all (rs := [8]) (by kernel_rfl) (by simp) (AllReadyH.cons (i := 8) rfl (fun KK hK => ?_) AllReadyH.nil)
            rw [if_pos (by rfl)]
            replace hS := hide hS
            go_wp2_with fail
            refine (to_any _ _ _ (unhide HR) (by have := unhide hl; have := unhide hk; simp; omega)).mono ?_
            rintro e Z8 ⟨u8, rfl, hg⟩
            have HR8 := hide hg.row
            have hS8 := below_via (unhide hS) hg.below
            clear hg hS
            go_wp2_with fail
            refine hK.out _ _ hS8 (fun hS => ?_)
            clear hK hS8
            refine wpAnyH_all (rs := [9]) (by kernel_rfl) (by simp) (AllReadyH.cons (i := 9) rfl (fun KK hK => ?_) AllReadyH.nil)
            rw [if_pos (by rfl)]
            replace hS := hide hS
            go_wp2_with fail
            refine (run_anyC _ _ _ (unhide HR8)).mono ?_
            rintro e Z9 ⟨u9, zs, e9, rfl, hb, hr, ho, hc⟩
            have HR9 := hide hr
            have HO := hide ho
            have HC := hide hc
            have hS8 := below_via (unhide hS) hb
            clear hb hr ho hc hS
            go_wp2_with fail
            refine hK.out _ _ hS8 (fun hS => ?_)
            clear hK hS8
            refine wpAnyH_take (i := 10) (v := .tuple #[u9, .int .i64 e9]) rfl (by kernel_rfl) (by kernel_rfl) (by kernel_rfl) (fun _ _ _ h => h) (Or.inl ⟨by rfl, fun W hS => by go_simp⟩) hS ?_
            refine wpAnyH_take (i := 11) (v := u9) rfl (by kernel_rfl) (by kernel_rfl) (by kernel_rfl) (fun _ _ _ h => h) (Or.inl ⟨by rfl, fun W hS => by go_simp⟩) hS ?_
            refine wpAnyH_take (i := 12) (v := .int .i64 e9) rfl (by kernel_rfl) (by kernel_rfl) (by kernel_rfl) (fun _ _ _ h => h) (Or.inl ⟨by rfl, fun W hS => by go_simp⟩) hS ?_
            refine wpAnyH_all (rs := [13]) (by kernel_rfl) (by simp) (AllReadyH.cons (i := 13) rfl (fun KK hK => ?_) AllReadyH.nil)
            rw [if_pos (by rfl)]
            replace hS := hide hS
            go_wp2_with fail
            refine hK.out _ _ (unhide hS) (fun hS => ?_)
            clear hK
            refine wpAnyH_all (rs := [14]) (by kernel_rfl) (by simp) (AllReadyH.cons (i := 14) rfl (fun KK hK => ?_) AllReadyH.nil)
            rw [if_pos (by rfl)]
            replace hS := hide hS
            go_wp2_with fail
            refine hK.out _ _ (unhide hS) (fun hS => ?_)
            clear hK
            refine wpAnyH_done (by kernel_rfl) ?_ _
            replace hS := hide hS
            go_wp2_with fail
            go_meet
            exact ⟨_, _, rfl, HR9, HO, HC, hS⟩
        case rest =>
          skip
          obtain ⟨zs, e1, rfl, HRow, HO, HC, HU⟩ := hcut
          replace HB := hide (below_via (unhide HB) (unhide HU))
          replace hK0 := hide ((show RowG _ _ _ _ from unhide hK0).keep (unhide HU))
          replace Hbad := hide ((show Blk _ _ _ _ from unhide Hbad).keep (unhide HU))
          clear HU hal
          obtain ⟨pa, pn, pc, rfl, hpc⟩ := unhide HC
          clear HC
          have hpn : pn = zs.length := by
            obtain ⟨_, _, e⟩ := row_slice (unhide HRow)
            cases e
            rfl
          subst hpn
          have HG : Hid (GrowG 25 3 wc (wc.alloc (.cells #[.int .i64 0, .int .i64 0, .bool true] 25)) (.slice (some ⟨wc.heap.size, 0, none⟩) 1 1) [mkL badM]) := hide ⟨below1 _ _, ⟨rfl, .inr ⟨_, 1, _, rfl, Nat.le_refl _, Blk.new wc #[.int .i64 0, .int .i64 0, .bool true] 25, by decide, by decide, rfl, rfl⟩⟩, fit_marks [badM]⟩
          have HKa := hide ((show RowG _ _ _ _ from unhide hK0).alloc (.cells #[.int .i64 0, .int .i64 0, .bool true] 25))
          have b0 := (show Blk _ _ _ _ from unhide Hbad).at 0 (.int .i64 0) rfl
          have b1 := (show Blk _ _ _ _ from unhide Hbad).at 1 (.int .i64 0) rfl
          have b2 := (show Blk _ _ _ _ from unhide Hbad).at 2 (.bool true) rfl
          replace hpc := hide hpc
          go_wp2_with (at_builtin; refine pushL 25 37 3 24 (.agg #[.int .i64 0, .int .i64 0, .bool false]) (by decide) (by decide) rfl Try.underlying37 info25 rfl _ _ rfl wc _ _ (.slice ka kl kc) [mkL badM] (k.map mkL) (unhide HG) rfl rfl (unhide HKa) (by have := unhide hk; simp; omega) ?_)
          intro v4 w4 hg4 _
          have HR4 : Hid (RowG 3 w4 v4 ((badM :: k).map mkL)) := hide hg4.row
          replace HRow := hide ((unhide HRow).below hg4.below (Nat.le_refl _))
          replace HB := hide (below_via (unhide HB) hg4.below)
          clear hg4 HG HKa b0 b1 b2 Hbad hK0
          have HT := hide (to_any _ _ _ (unhide HR4) (by have := unhide hk; simp; omega))
          go_wp2_with fail
          refine (unhide HT).mono ?_
          rintro e w5 ⟨u5, rfl, hg⟩
          replace HRow := hide ((unhide HRow).below hg.below (Nat.le_refl _))
          replace HB := hide (below_via (unhide HB) hg.below)
          have HQ := hide (run_any _ _ _ hg.row)
          clear hg HT HR4
          go_wp2_with fail
          refine (unhide HQ).mono ?_
          rintro e w6 ⟨u6, ys, e2, rfl, hb, hr, ho⟩
          replace HRow := hide ((unhide HRow).below hb (Nat.le_refl _))
          replace HB := hide (below_via (unhide HB) hb)
          have HR6 := hide hr
          have HO2 := hide ho
          clear hb hr ho HQ
          rcases unhide HO with ⟨c, _⟩ | ⟨_, hf, hz, he⟩ | ⟨_, _, _, he⟩
          · exact absurd c (by have := unhide hk; have := unhide hl; simp; omega)
          · obtain ⟨f2, hd⟩ := fine_mid hf
            obtain ⟨e3, e4⟩ := (unhide HO2).only (.inr (.inl ⟨by have := unhide hk; simp; omega, f2, rfl, rfl⟩))
            have hlen : zs.length = l.length + (1 + k.length) := by rw [hz, stg_len]; simp; omega
            rw [← hz, ← e3] at hd
            obtain ⟨pb, po, rfl⟩ : ∃ pb po, pa = some ⟨pb, po, none⟩ := by
              rcases unhide HRow with ⟨_, _, _, h0⟩ | ⟨b, off, c, h1, _⟩
              · rw [h0] at hlen; simp at hlen; omega
              · cases h1; exact ⟨_, _, rfl⟩
            subst he e4
            have HD := (unhide HRow).dropped (m := l.length) (by omega) (pc - l.length)
            rw [hd] at HD
            have HS := hide (same_any _ _ _ _ _ HD (unhide HR6))
            rw [sameB_refl] at HS
            have hpc2 := unhide hpc
            have hll' := unhide hll
            generalize zs.length = n at *
            clear HD hd hz e3 f2 hf HO HO2 HRow HR6
            rw [← hll'] at HS hlen
            replace hpc := hide hpc2
            have r1 : (ll : Int) ≤ (n : Int) := by omega
            have r2 : (n : Int) ≤ (pc : Int) := by omega
            have r3 : (ll : Int) ≤ (pc : Int) := by omega
            have r4 : (0 : Int) ≤ (ll : Int) := by omega
            have r5 : ¬ pc = ll := by omega
            replace hlen := hide hlen
            replace hll' := hide hll'
            clear hpc2
            go_wp2_with fail
            refine (unhide HS).mono ?_
            rintro e w7 ⟨rfl, n7, rfl⟩
            replace HB := hide (below_drewN (unhide HB) n7)
            clear HS
            go_wp2_with fail
            go_ret
            exact ⟨rfl, unhide HB⟩
          · subst he
            go_wp2_with fail
            go_ret
            exact ⟨rfl, unhide HB⟩
set_option maxRecDepth 100000 in
theorem l_1 (s g p d : Int) (b : Bool) (P D : Nat) (la : Option Addr) (ll lc : Nat) (l : List Mk) (ka : Option Addr) (kl kc : Nat) (k : List Mk) (d1 : decide ((100 : Int) < (ll : Int)) = true) (hP : P ≤ 255) (hD : D ≤ 255) (hal : Hid Alive) (w : World) (hL : Hid (RowG 3 w (.slice la ll lc) (l.map mkL))) (hK0 : Hid (RowG 3 w (.slice ka kl kc) (k.map mkL))) : Calls Try.prog 6 #[.agg #[.int .i64 s, .int .i64 g, .int .i64 p, .int .i64 d, .bool b, .int .u8 P, .int .u8 D, .slice la ll lc, .slice ka kl kc]] w fun e w' => e = .returned (.bool true) ∧ Below w.heap.size w w' := by
  have A := hide (Blk.new w #[.int .i64 s, .int .i64 g, .int .i64 p, .int .i64 d, .bool b, .int .u8 P, .int .u8 D, .slice la ll lc, .slice ka kl kc] 47)
  go_enter Try.func6, Try.ntmps6
  go_wp2_with fail
  refine (unhide hal _).mono ?_
  rintro e w1 ⟨rfl, hb⟩
  have HB := hide (below_via (below1 _ _) hb)
  replace A := hide (Blk.keep (unhide A) hb)
  replace hL := hide ((RowG.alloc (unhide hL) _).keep hb)
  replace hK0 := hide ((RowG.alloc (unhide hK0) _).keep hb)
  clear hb
  have c0 := (show Blk _ _ _ _ from unhide A).at 0 (.int .i64 s) rfl
  have c1 := (show Blk _ _ _ _ from unhide A).at 1 (.int .i64 g) rfl
  have c2 := (show Blk _ _ _ _ from unhide A).at 2 (.int .i64 p) rfl
  have c3 := (show Blk _ _ _ _ from unhide A).at 3 (.int .i64 d) rfl
  have c4 := (show Blk _ _ _ _ from unhide A).at 4 (.bool b) rfl
  have c5 := (show Blk _ _ _ _ from unhide A).at 5 (.int .u8 P) rfl
  have c6 := (show Blk _ _ _ _ from unhide A).at 6 (.int .u8 D) rfl
  have c7 := (show Blk _ _ _ _ from unhide A).at 7 (.slice la ll lc) rfl
  have c8 := (show Blk _ _ _ _ from unhide A).at 8 (.slice ka kl kc) rfl
  go_upto_region 3 with fail
  have n2 := (show Blk _ _ _ _ from unhide A).lt
  have n0 : ¬ w.heap.size = w1.heap.size := by have := (show Blk _ _ _ _ from unhide A).lt; omega
  have n1 : ¬ w.heap.size = w1.heap.size + 1 := by have := (show Blk _ _ _ _ from unhide A).lt; omega
  go_cut [3, 4, 5, 6, 7, 8] from 19 to 122 (fun t3 t4 t5 t6 t7 t8 wx => ∃ bs bm, t3 = .pointer (some ⟨bs, 0, none⟩) ∧ t4 = .pointer (some ⟨bm, 0, none⟩) ∧ t5 = .int .u8 P ∧ t6 = .int .u8 D ∧ t7 = .slice la ll lc ∧ t8 = .slice ka kl kc ∧ Hid (CW w1 wx bs bm s g p d b))
  case first =>
    have HS : SG w w1 w1 (#[.int .i64 s, .int .i64 g, .int .i64 p, .int .i64 d, .bool b, .int .u8 P, .int .u8 D, .slice la ll lc, .slice ka kl kc]) := ⟨Below.refl _ _, unhide A, n2⟩
    clear HB A hL hK0 hal c0 c1 c2 c3 c4 c5 c6 c7 c8 n0 n1
    refine wp_region_held_drew (S := fun W => SG w w1 W (#[.int .i64 s, .int .i64 g, .int .i64 p, .int .i64 d, .bool b, .int .u8 P, .int .u8 D, .slice la ll lc, .slice ka kl kc])) (by kernel_rfl) HS.drew1 (fun hS => ?_)
    clear HS
    generalize hV : w1.drew = V0 at *
    clear hV
    have l00 := hS.bel.size
    refine wpAnyH_take (i := 0) (v := .pointer (some ⟨w.heap.size, 0, none⟩)) rfl (by kernel_rfl) (by kernel_rfl) (by kernel_rfl) (fun _ _ _ h => h) (Or.inl ⟨by rfl, fun W hS => by go_simp⟩) hS ?_
    refine wpAnyH_take (i := 1) (v := .agg #[.int .i64 s, .int .i64 g]) rfl (by kernel_rfl) (by kernel_rfl) (by kernel_rfl) (fun _ _ _ h => h) (Or.inl ⟨by rfl, fun W hS => by have d0 := hS.blk.at 0 (.int .i64 s) rfl; have d1 := hS.blk.at 1 (.int .i64 g) rfl; go_simp⟩) hS ?_
    refine wpAnyH_take (i := 2) (v := .pointer (some ⟨w.heap.size, 2, none⟩)) rfl (by kernel_rfl) (by kernel_rfl) (by kernel_rfl) (fun _ _ _ h => h) (Or.inl ⟨by rfl, fun W hS => by go_simp⟩) hS ?_
    refine wpAnyH_take (i := 3) (v := .agg #[.int .i64 p, .int .i64 d, .bool b]) rfl (by kernel_rfl) (by kernel_rfl) (by kernel_rfl) (fun _ _ _ h => h) (Or.inl ⟨by rfl, fun W hS => by have d2 := hS.blk.at 2 (.int .i64 p) rfl; have d3 := hS.blk.at 3 (.int .i64 d) rfl; have d4 := hS.blk.at 4 (.bool b) rfl; go_simp⟩) hS ?_
    refine wpAnyH_take (i := 4) (v := .pointer (some ⟨w.heap.size, 5, none⟩)) rfl (by kernel_rfl) (by kernel_rfl) (by kernel_rfl) (fun _ _ _ h => h) (Or.inl ⟨by rfl, fun W hS => by go_simp⟩) hS ?_
    refine wpAnyH_take (i := 5) (v := .int .u8 P) rfl (by kernel_rfl) (by kernel_rfl) (by kernel_rfl) (fun _ _ _ h => h) (Or.inl ⟨by rfl, fun W hS => by have d5 := hS.blk.at 5 (.int .u8 P) rfl; go_simp⟩) hS ?_
    refine wpAnyH_take (i := 6) (v := .pointer (some ⟨w.heap.size, 6, none⟩)) rfl (by kernel_rfl) (by kernel_rfl) (by kernel_rfl) (fun _ _ _ h => h) (Or.inl ⟨by rfl, fun W hS => by go_simp⟩) hS ?_
    refine wpAnyH_take (i := 7) (v := .int .u8 D) rfl (by kernel_rfl) (by kernel_rfl) (by kernel_rfl) (fun _ _ _ h => h) (Or.inl ⟨by rfl, fun W hS => by have d6 := hS.blk.at 6 (.int .u8 D) rfl; go_simp⟩) hS ?_
    refine wpAnyH_take (i := 8) (v := .pointer (some ⟨w.heap.size, 7, none⟩)) rfl (by kernel_rfl) (by kernel_rfl) (by kernel_rfl) (fun _ _ _ h => h) (Or.inl ⟨by rfl, fun W hS => by go_simp⟩) hS ?_
    refine wpAnyH_take (i := 9) (v := .slice la ll lc) rfl (by kernel_rfl) (by kernel_rfl) (by kernel_rfl) (fun _ _ _ h => h) (Or.inl ⟨by rfl, fun W hS => by have d7 := hS.blk.at 7 (.slice la ll lc) rfl; go_simp⟩) hS ?_
    refine wpAnyH_take (i := 10) (v := .pointer (some ⟨w.heap.size, 8, none⟩)) rfl (by kernel_rfl) (by kernel_rfl) (by kernel_rfl) (fun _ _ _ h => h) (Or.inl ⟨by rfl, fun W hS => by go_simp⟩) hS ?_
    refine wpAnyH_take (i := 11) (v := .slice ka kl kc) rfl (by kernel_rfl) (by kernel_rfl) (by kernel_rfl) (fun _ _ _ h => h) (Or.inl ⟨by rfl, fun W hS => by have d8 := hS.blk.at 8 (.slice ka kl kc) rfl; go_simp⟩) hS ?_
    refine wpAnyH_all (rs := [12, 13]) (by kernel_rfl) (by simp) (AllReadyH.cons (i := 12) rfl (fun KK hK => ?_) (AllReadyH.cons (i := 13) rfl (fun KK hK => ?_) AllReadyH.nil))
    · rw [if_pos (by rfl)]
      replace hS := hide hS
      go_wp2_with fail
      have HA := hide (Blk.new V0 #[.int .i64 0, .int .i64 0] 23)
      refine hK.out _ _ ((unhide hS).alloc _) (fun hS => ?_)
      clear hK
      have lt0 := hS.sz
      have l1 := (show Blk _ _ _ _ from unhide HA).lt
      generalize hU0 : V0.alloc (.cells #[.int .i64 0, .int .i64 0] 23) = V1 at *
      clear hU0
      refine wpAnyH_all (rs := [13]) (by kernel_rfl) (by simp) (AllReadyH.cons (i := 13) rfl (fun KK hK => ?_) AllReadyH.nil)
      rw [if_pos (by rfl)]
      replace hS := hide hS
      go_wp2_with fail
      replace HA := hide ((show Blk _ _ _ _ from unhide HA).alloc (.cells #[.int .i64 0, .int .i64 0, .bool false] 25))
      have HM := hide (Blk.new V1 #[.int .i64 0, .int .i64 0, .bool false] 25)
      refine hK.out _ _ ((unhide hS).alloc _) (fun hS => ?_)
      clear hK
      have lt1 := hS.sz
      generalize hU1 : V1.alloc (.cells #[.int .i64 0, .int .i64 0, .bool false] 25) = V2 at *
      clear hU1
      have l0 : w1.heap.size ≤ V0.heap.size := l00
      refine wpAnyH_all (rs := [14]) (by kernel_rfl) (by simp) (AllReadyH.cons (i := 14) rfl (fun KK hK => ?_) AllReadyH.nil)
      rw [if_pos (by rfl)]
      refine storeO_blk 23 _ _ rfl (show Blk _ _ _ _ from unhide HA) rfl rfl size23 rfl rfl rfl ?_
      intro W3 k3 kp
      have hSA := hS.past (show w1.heap.size ≤ V0.heap.size by omega) kp
      replace HM := hide (kp.blk (by omega) (show Blk _ _ _ _ from unhide HM))
      clear hS kp HA
      have HA := hide k3
      clear k3
      refine hK.out _ _ hSA (fun hS => ?_)
      clear hK hSA
      refine wpAnyH_all (rs := [15]) (by kernel_rfl) (by simp) (AllReadyH.cons (i := 15) rfl (fun KK hK => ?_) AllReadyH.nil)
      rw [if_pos (by rfl)]
      refine storeO_blk 25 _ _ rfl (show Blk _ _ _ _ from unhide HM) rfl rfl size25 rfl rfl rfl ?_
      intro W4 k3 kp
      have hSA := hS.past (show w1.heap.size ≤ V1.heap.size by omega) kp
      replace HA := hide (kp.blk (by omega) (show Blk _ _ _ _ from unhide HA))
      clear hS kp HM
      have HM := hide k3
      clear k3
      refine hK.out _ _ hSA (fun hS => ?_)
      clear hK hSA
      refine wpAnyH_all (rs := [16]) (by kernel_rfl) (by simp) (AllReadyH.cons (i := 16) rfl (fun KK hK => ?_) AllReadyH.nil)
      rw [if_pos (by rfl)]
      replace hS := hide hS
      go_wp2_with fail
      refine hK.out _ _ (unhide hS) (fun hS => ?_)
      clear hK
      refine wpAnyH_all (rs := [17]) (by kernel_rfl) (by simp) (AllReadyH.cons (i := 17) rfl (fun KK hK => ?_) AllReadyH.nil)
      rw [if_pos (by rfl)]
      replace hS := hide hS
      go_wp2_with fail
      refine hK.out _ _ (unhide hS) (fun hS => ?_)
      clear hK
      refine wpAnyH_all (rs := [18]) (by kernel_rfl) (by simp) (AllReadyH.cons (i := 18) rfl (fun KK hK => ?_) AllReadyH.nil)
      rw [if_pos (by rfl)]
      replace hS := hide hS
      go_wp2_with fail
      refine hK.out _ _ (unhide hS) (fun hS => ?_)
      clear hK
      refine wpAnyH_all (rs := [19]) (by kernel_rfl) (by simp) (AllReadyH.cons (i := 19) rfl (fun KK hK => ?_) AllReadyH.nil)
      rw [if_pos (by rfl)]
      replace hS := hide hS
      go_wp2_with fail
      refine hK.out _ _ (unhide hS) (fun hS => ?_)
      clear hK
      refine wpAnyH_done (by kernel_rfl) ?_ _
      replace hS := hide hS
      go_wp2_with fail
      go_meet
      exact ⟨_, _, rfl, rfl, rfl, rfl, rfl, rfl, hide ⟨(unhide hS).bel, unhide HA, unhide HM⟩⟩
    · rw [if_pos (by rfl)]
      replace hS := hide hS
      go_wp2_with fail
      have HM := hide (Blk.new V0 #[.int .i64 0, .int .i64 0, .bool false] 25)
      refine hK.out _ _ ((unhide hS).alloc _) (fun hS => ?_)
      clear hK
      have lt0 := hS.sz
      have l1 := (show Blk _ _ _ _ from unhide HM).lt
      generalize hU0 : V0.alloc (.cells #[.int .i64 0, .int .i64 0, .bool false] 25) = V1 at *
      clear hU0
      refine wpAnyH_all (rs := [12]) (by kernel_rfl) (by simp) (AllReadyH.cons (i := 12) rfl (fun KK hK => ?_) AllReadyH.nil)
      rw [if_pos (by rfl)]
      replace hS := hide hS
      go_wp2_with fail
      replace HM := hide ((show Blk _ _ _ _ from unhide HM).alloc (.cells #[.int .i64 0, .int .i64 0] 23))
      have HA := hide (Blk.new V1 #[.int .i64 0, .int .i64 0] 23)
      refine hK.out _ _ ((unhide hS).alloc _) (fun hS => ?_)
      clear hK
      have lt1 := hS.sz
      generalize hU1 : V1.alloc (.cells #[.int .i64 0, .int .i64 0] 23) = V2 at *
      clear hU1
      have l0 : w1.heap.size ≤ V0.heap.size := l00
      refine wpAnyH_all (rs := [14]) (by kernel_rfl) (by simp) (AllReadyH.cons (i := 14) rfl (fun KK hK => ?_) AllReadyH.nil)
      rw [if_pos (by rfl)]
      refine storeO_blk 23 _ _ rfl (show Blk _ _ _ _ from unhide HA) rfl rfl size23 rfl rfl rfl ?_
      intro W3 k3 kp
      have hSA := hS.past (show w1.heap.size ≤ V1.heap.size by omega) kp
      replace HM := hide (kp.blk (by omega) (show Blk _ _ _ _ from unhide HM))
      clear hS kp HA
      have HA := hide k3
      clear k3
      refine hK.out _ _ hSA (fun hS => ?_)
      clear hK hSA
      refine wpAnyH_all (rs := [15]) (by kernel_rfl) (by simp) (AllReadyH.cons (i := 15) rfl (fun KK hK => ?_) AllReadyH.nil)
      rw [if_pos (by rfl)]
      refine storeO_blk 25 _ _ rfl (show Blk _ _ _ _ from unhide HM) rfl rfl size25 rfl rfl rfl ?_
      intro W4 k3 kp
      have hSA := hS.past (show w1.heap.size ≤ V0.heap.size by omega) kp
      replace HA := hide (kp.blk (by omega) (show Blk _ _ _ _ from unhide HA))
      clear hS kp HM
      have HM := hide k3
      clear k3
      refine hK.out _ _ hSA (fun hS => ?_)
      clear hK hSA
      refine wpAnyH_all (rs := [16]) (by kernel_rfl) (by simp) (AllReadyH.cons (i := 16) rfl (fun KK hK => ?_) AllReadyH.nil)
      rw [if_pos (by rfl)]
      replace hS := hide hS
      go_wp2_with fail
      refine hK.out _ _ (unhide hS) (fun hS => ?_)
      clear hK
      refine wpAnyH_all (rs := [17]) (by kernel_rfl) (by simp) (AllReadyH.cons (i := 17) rfl (fun KK hK => ?_) AllReadyH.nil)
      rw [if_pos (by rfl)]
      replace hS := hide hS
      go_wp2_with fail
      refine hK.out _ _ (unhide hS) (fun hS => ?_)
      clear hK
      refine wpAnyH_all (rs := [18]) (by kernel_rfl) (by simp) (AllReadyH.cons (i := 18) rfl (fun KK hK => ?_) AllReadyH.nil)
      rw [if_pos (by rfl)]
      replace hS := hide hS
      go_wp2_with fail
      refine hK.out _ _ (unhide hS) (fun hS => ?_)
      clear hK
      refine wpAnyH_all (rs := [19]) (by kernel_rfl) (by simp) (AllReadyH.cons (i := 19) rfl (fun KK hK => ?_) AllReadyH.nil)
      rw [if_pos (by rfl)]
      replace hS := hide hS
      go_wp2_with fail
      refine hK.out _ _ (unhide hS) (fun hS => ?_)
      clear hK
      refine wpAnyH_done (by kernel_rfl) ?_ _
      replace hS := hide hS
      go_wp2_with fail
      go_meet
      exact ⟨_, _, rfl, rfl, rfl, rfl, rfl, rfl, hide ⟨(unhide hS).bel, unhide HA, unhide HM⟩⟩
  case rest =>
    obtain ⟨bs, bm, rfl, rfl, rfl, rfl, rfl, rfl, H⟩ := hcut
    clear c0 c1 c2 c3 c4 c5 c6 c7 c8 n0 n1 n2 A
    replace HB := hide (below_via (unhide HB) (unhide H).bel)
    replace hL := hide ((show RowG _ _ _ _ from unhide hL).keep (unhide H).bel)
    replace hK0 := hide ((show RowG _ _ _ _ from unhide hK0).keep (unhide H).bel)
    clear H hL hK0
    go_wp2_with fail
    go_ret
    exact ⟨rfl, unhide HB⟩
set_option maxRecDepth 100000 in
theorem l_2 (s g p d : Int) (b : Bool) (P D : Nat) (la : Option Addr) (ll lc : Nat) (l : List Mk) (ka : Option Addr) (kl kc : Nat) (k : List Mk) (d1 : decide ((100 : Int) < (ll : Int)) = false) (d2 : decide ((100 : Int) < (kl : Int)) = true) (hP : P ≤ 255) (hD : D ≤ 255) (hal : Hid Alive) (w : World) (hL : Hid (RowG 3 w (.slice la ll lc) (l.map mkL))) (hK0 : Hid (RowG 3 w (.slice ka kl kc) (k.map mkL))) : Calls Try.prog 6 #[.agg #[.int .i64 s, .int .i64 g, .int .i64 p, .int .i64 d, .bool b, .int .u8 P, .int .u8 D, .slice la ll lc, .slice ka kl kc]] w fun e w' => e = .returned (.bool true) ∧ Below w.heap.size w w' := by
  have A := hide (Blk.new w #[.int .i64 s, .int .i64 g, .int .i64 p, .int .i64 d, .bool b, .int .u8 P, .int .u8 D, .slice la ll lc, .slice ka kl kc] 47)
  go_enter Try.func6, Try.ntmps6
  go_wp2_with fail
  refine (unhide hal _).mono ?_
  rintro e w1 ⟨rfl, hb⟩
  have HB := hide (below_via (below1 _ _) hb)
  replace A := hide (Blk.keep (unhide A) hb)
  replace hL := hide ((RowG.alloc (unhide hL) _).keep hb)
  replace hK0 := hide ((RowG.alloc (unhide hK0) _).keep hb)
  clear hb
  have c0 := (show Blk _ _ _ _ from unhide A).at 0 (.int .i64 s) rfl
  have c1 := (show Blk _ _ _ _ from unhide A).at 1 (.int .i64 g) rfl
  have c2 := (show Blk _ _ _ _ from unhide A).at 2 (.int .i64 p) rfl
  have c3 := (show Blk _ _ _ _ from unhide A).at 3 (.int .i64 d) rfl
  have c4 := (show Blk _ _ _ _ from unhide A).at 4 (.bool b) rfl
  have c5 := (show Blk _ _ _ _ from unhide A).at 5 (.int .u8 P) rfl
  have c6 := (show Blk _ _ _ _ from unhide A).at 6 (.int .u8 D) rfl
  have c7 := (show Blk _ _ _ _ from unhide A).at 7 (.slice la ll lc) rfl
  have c8 := (show Blk _ _ _ _ from unhide A).at 8 (.slice ka kl kc) rfl
  go_upto_region 3 with fail
  have n2 := (show Blk _ _ _ _ from unhide A).lt
  have n0 : ¬ w.heap.size = w1.heap.size := by have := (show Blk _ _ _ _ from unhide A).lt; omega
  have n1 : ¬ w.heap.size = w1.heap.size + 1 := by have := (show Blk _ _ _ _ from unhide A).lt; omega
  go_cut [3, 4, 5, 6, 7, 8] from 19 to 122 (fun t3 t4 t5 t6 t7 t8 wx => ∃ bs bm, t3 = .pointer (some ⟨bs, 0, none⟩) ∧ t4 = .pointer (some ⟨bm, 0, none⟩) ∧ t5 = .int .u8 P ∧ t6 = .int .u8 D ∧ t7 = .slice la ll lc ∧ t8 = .slice ka kl kc ∧ Hid (CW w1 wx bs bm s g p d b))
  case first =>
    have HS : SG w w1 w1 (#[.int .i64 s, .int .i64 g, .int .i64 p, .int .i64 d, .bool b, .int .u8 P, .int .u8 D, .slice la ll lc, .slice ka kl kc]) := ⟨Below.refl _ _, unhide A, n2⟩
    clear HB A hL hK0 hal c0 c1 c2 c3 c4 c5 c6 c7 c8 n0 n1
    refine wp_region_held_drew (S := fun W => SG w w1 W (#[.int .i64 s, .int .i64 g, .int .i64 p, .int .i64 d, .bool b, .int .u8 P, .int .u8 D, .slice la ll lc, .slice ka kl kc])) (by kernel_rfl) HS.drew1 (fun hS => ?_)
    clear HS
    generalize hV : w1.drew = V0 at *
    clear hV
    have l00 := hS.bel.size
    refine wpAnyH_take (i := 0) (v := .pointer (some ⟨w.heap.size, 0, none⟩)) rfl (by kernel_rfl) (by kernel_rfl) (by kernel_rfl) (fun _ _ _ h => h) (Or.inl ⟨by rfl, fun W hS => by go_simp⟩) hS ?_
    refine wpAnyH_take (i := 1) (v := .agg #[.int .i64 s, .int .i64 g]) rfl (by kernel_rfl) (by kernel_rfl) (by kernel_rfl) (fun _ _ _ h => h) (Or.inl ⟨by rfl, fun W hS => by have d0 := hS.blk.at 0 (.int .i64 s) rfl; have d1 := hS.blk.at 1 (.int .i64 g) rfl; go_simp⟩) hS ?_
    refine wpAnyH_take (i := 2) (v := .pointer (some ⟨w.heap.size, 2, none⟩)) rfl (by kernel_rfl) (by kernel_rfl) (by kernel_rfl) (fun _ _ _ h => h) (Or.inl ⟨by rfl, fun W hS => by go_simp⟩) hS ?_
    refine wpAnyH_take (i := 3) (v := .agg #[.int .i64 p, .int .i64 d, .bool b]) rfl (by kernel_rfl) (by kernel_rfl) (by kernel_rfl) (fun _ _ _ h => h) (Or.inl ⟨by rfl, fun W hS => by have d2 := hS.blk.at 2 (.int .i64 p) rfl; have d3 := hS.blk.at 3 (.int .i64 d) rfl; have d4 := hS.blk.at 4 (.bool b) rfl; go_simp⟩) hS ?_
    refine wpAnyH_take (i := 4) (v := .pointer (some ⟨w.heap.size, 5, none⟩)) rfl (by kernel_rfl) (by kernel_rfl) (by kernel_rfl) (fun _ _ _ h => h) (Or.inl ⟨by rfl, fun W hS => by go_simp⟩) hS ?_
    refine wpAnyH_take (i := 5) (v := .int .u8 P) rfl (by kernel_rfl) (by kernel_rfl) (by kernel_rfl) (fun _ _ _ h => h) (Or.inl ⟨by rfl, fun W hS => by have d5 := hS.blk.at 5 (.int .u8 P) rfl; go_simp⟩) hS ?_
    refine wpAnyH_take (i := 6) (v := .pointer (some ⟨w.heap.size, 6, none⟩)) rfl (by kernel_rfl) (by kernel_rfl) (by kernel_rfl) (fun _ _ _ h => h) (Or.inl ⟨by rfl, fun W hS => by go_simp⟩) hS ?_
    refine wpAnyH_take (i := 7) (v := .int .u8 D) rfl (by kernel_rfl) (by kernel_rfl) (by kernel_rfl) (fun _ _ _ h => h) (Or.inl ⟨by rfl, fun W hS => by have d6 := hS.blk.at 6 (.int .u8 D) rfl; go_simp⟩) hS ?_
    refine wpAnyH_take (i := 8) (v := .pointer (some ⟨w.heap.size, 7, none⟩)) rfl (by kernel_rfl) (by kernel_rfl) (by kernel_rfl) (fun _ _ _ h => h) (Or.inl ⟨by rfl, fun W hS => by go_simp⟩) hS ?_
    refine wpAnyH_take (i := 9) (v := .slice la ll lc) rfl (by kernel_rfl) (by kernel_rfl) (by kernel_rfl) (fun _ _ _ h => h) (Or.inl ⟨by rfl, fun W hS => by have d7 := hS.blk.at 7 (.slice la ll lc) rfl; go_simp⟩) hS ?_
    refine wpAnyH_take (i := 10) (v := .pointer (some ⟨w.heap.size, 8, none⟩)) rfl (by kernel_rfl) (by kernel_rfl) (by kernel_rfl) (fun _ _ _ h => h) (Or.inl ⟨by rfl, fun W hS => by go_simp⟩) hS ?_
    refine wpAnyH_take (i := 11) (v := .slice ka kl kc) rfl (by kernel_rfl) (by kernel_rfl) (by kernel_rfl) (fun _ _ _ h => h) (Or.inl ⟨by rfl, fun W hS => by have d8 := hS.blk.at 8 (.slice ka kl kc) rfl; go_simp⟩) hS ?_
    refine wpAnyH_all (rs := [12, 13]) (by kernel_rfl) (by simp) (AllReadyH.cons (i := 12) rfl (fun KK hK => ?_) (AllReadyH.cons (i := 13) rfl (fun KK hK => ?_) AllReadyH.nil))
    · rw [if_pos (by rfl)]
      replace hS := hide hS
      go_wp2_with fail
      have HA := hide (Blk.new V0 #[.int .i64 0, .int .i64 0] 23)
      refine hK.out _ _ ((unhide hS).alloc _) (fun hS => ?_)
      clear hK
      have lt0 := hS.sz
      have l1 := (show Blk _ _ _ _ from unhide HA).lt
      generalize hU0 : V0.alloc (.cells #[.int .i64 0, .int .i64 0] 23) = V1 at *
      clear hU0
      refine wpAnyH_all (rs := [13]) (by kernel_rfl) (by simp) (AllReadyH.cons (i := 13) rfl (fun KK hK => ?_) AllReadyH.nil)
      rw [if_pos (by rfl)]
      replace hS := hide hS
      go_wp2_with fail
      replace HA := hide ((show Blk _ _ _ _ from unhide HA).alloc (.cells #[.int .i64 0, .int .i64 0, .bool false] 25))
      have HM := hide (Blk.new V1 #[.int .i64 0, .int .i64 0, .bool false] 25)
      refine hK.out _ _ ((unhide hS).alloc _) (fun hS => ?_)
      clear hK
      have lt1 := hS.sz
      generalize hU1 : V1.alloc (.cells #[.int .i64 0, .int .i64 0, .bool false] 25) = V2 at *
      clear hU1
      have l0 : w1.heap.size ≤ V0.heap.size := l00
      refine wpAnyH_all (rs := [14]) (by kernel_rfl) (by simp) (AllReadyH.cons (i := 14) rfl (fun KK hK => ?_) AllReadyH.nil)
      rw [if_pos (by rfl)]
      refine storeO_blk 23 _ _ rfl (show Blk _ _ _ _ from unhide HA) rfl rfl size23 rfl rfl rfl ?_
      intro W3 k3 kp
      have hSA := hS.past (show w1.heap.size ≤ V0.heap.size by omega) kp
      replace HM := hide (kp.blk (by omega) (show Blk _ _ _ _ from unhide HM))
      clear hS kp HA
      have HA := hide k3
      clear k3
      refine hK.out _ _ hSA (fun hS => ?_)
      clear hK hSA
      refine wpAnyH_all (rs := [15]) (by kernel_rfl) (by simp) (AllReadyH.cons (i := 15) rfl (fun KK hK => ?_) AllReadyH.nil)
      rw [if_pos (by rfl)]
      refine storeO_blk 25 _ _ rfl (show Blk _ _ _ _ from unhide HM) rfl rfl size25 rfl rfl rfl ?_
      intro W4 k3 kp
      have hSA := hS.past (show w1.heap.size ≤ V1.heap.size by omega) kp
      replace HA := hide (kp.blk (by omega) (show Blk _ _ _ _ from unhide HA))
      clear hS kp HM
      have HM := hide k3
      clear k3
      refine hK.out _ _ hSA (fun hS => ?_)
      clear hK hSA
      refine wpAnyH_all (rs := [16]) (by kernel_rfl) (by simp) (AllReadyH.cons (i := 16) rfl (fun KK hK => ?_) AllReadyH.nil)
      rw [if_pos (by rfl)]
      replace hS := hide hS
      go_wp2_with fail
      refine hK.out _ _ (unhide hS) (fun hS => ?_)
      clear hK
      refine wpAnyH_all (rs := [17]) (by kernel_rfl) (by simp) (AllReadyH.cons (i := 17) rfl (fun KK hK => ?_) AllReadyH.nil)
      rw [if_pos (by rfl)]
      replace hS := hide hS
      go_wp2_with fail
      refine hK.out _ _ (unhide hS) (fun hS => ?_)
      clear hK
      refine wpAnyH_all (rs := [18]) (by kernel_rfl) (by simp) (AllReadyH.cons (i := 18) rfl (fun KK hK => ?_) AllReadyH.nil)
      rw [if_pos (by rfl)]
      replace hS := hide hS
      go_wp2_with fail
      refine hK.out _ _ (unhide hS) (fun hS => ?_)
      clear hK
      refine wpAnyH_all (rs := [19]) (by kernel_rfl) (by simp) (AllReadyH.cons (i := 19) rfl (fun KK hK => ?_) AllReadyH.nil)
      rw [if_pos (by rfl)]
      replace hS := hide hS
      go_wp2_with fail
      refine hK.out _ _ (unhide hS) (fun hS => ?_)
      clear hK
      refine wpAnyH_done (by kernel_rfl) ?_ _
      replace hS := hide hS
      go_wp2_with fail
      go_meet
      exact ⟨_, _, rfl, rfl, rfl, rfl, rfl, rfl, hide ⟨(unhide hS).bel, unhide HA, unhide HM⟩⟩
    · rw [if_pos (by rfl)]
      replace hS := hide hS
      go_wp2_with fail
      have HM := hide (Blk.new V0 #[.int .i64 0, .int .i64 0, .bool false] 25)
      refine hK.out _ _ ((unhide hS).alloc _) (fun hS => ?_)
      clear hK
      have lt0 := hS.sz
      have l1 := (show Blk _ _ _ _ from unhide HM).lt
      generalize hU0 : V0.alloc (.cells #[.int .i64 0, .int .i64 0, .bool false] 25) = V1 at *
      clear hU0
      refine wpAnyH_all (rs := [12]) (by kernel_rfl) (by simp) (AllReadyH.cons (i := 12) rfl (fun KK hK => ?_) AllReadyH.nil)
      rw [if_pos (by rfl)]
      replace hS := hide hS
      go_wp2_with fail
      replace HM := hide ((show Blk _ _ _ _ from unhide HM).alloc (.cells #[.int .i64 0, .int .i64 0] 23))
      have HA := hide (Blk.new V1 #[.int .i64 0, .int .i64 0] 23)
      refine hK.out _ _ ((unhide hS).alloc _) (fun hS => ?_)
      clear hK
      have lt1 := hS.sz
      generalize hU1 : V1.alloc (.cells #[.int .i64 0, .int .i64 0] 23) = V2 at *
      clear hU1
      have l0 : w1.heap.size ≤ V0.heap.size := l00
      refine wpAnyH_all (rs := [14]) (by kernel_rfl) (by simp) (AllReadyH.cons (i := 14) rfl (fun KK hK => ?_) AllReadyH.nil)
      rw [if_pos (by rfl)]
      refine storeO_blk 23 _ _ rfl (show Blk _ _ _ _ from unhide HA) rfl rfl size23 rfl rfl rfl ?_
      intro W3 k3 kp
      have hSA := hS.past (show w1.heap.size ≤ V1.heap.size by omega) kp
      replace HM := hide (kp.blk (by omega) (show Blk _ _ _ _ from unhide HM))
      clear hS kp HA
      have HA := hide k3
      clear k3
      refine hK.out _ _ hSA (fun hS => ?_)
      clear hK hSA
      refine wpAnyH_all (rs := [15]) (by kernel_rfl) (by simp) (AllReadyH.cons (i := 15) rfl (fun KK hK => ?_) AllReadyH.nil)
      rw [if_pos (by rfl)]
      refine storeO_blk 25 _ _ rfl (show Blk _ _ _ _ from unhide HM) rfl rfl size25 rfl rfl rfl ?_
      intro W4 k3 kp
      have hSA := hS.past (show w1.heap.size ≤ V0.heap.size by omega) kp
      replace HA := hide (kp.blk (by omega) (show Blk _ _ _ _ from unhide HA))
      clear hS kp HM
      have HM := hide k3
      clear k3
      refine hK.out _ _ hSA (fun hS => ?_)
      clear hK hSA
      refine wpAnyH_all (rs := [16]) (by kernel_rfl) (by simp) (AllReadyH.cons (i := 16) rfl (fun KK hK => ?_) AllReadyH.nil)
      rw [if_pos (by rfl)]
      replace hS := hide hS
      go_wp2_with fail
      refine hK.out _ _ (unhide hS) (fun hS => ?_)
      clear hK
      refine wpAnyH_all (rs := [17]) (by kernel_rfl) (by simp) (AllReadyH.cons (i := 17) rfl (fun KK hK => ?_) AllReadyH.nil)
      rw [if_pos (by rfl)]
      replace hS := hide hS
      go_wp2_with fail
      refine hK.out _ _ (unhide hS) (fun hS => ?_)
      clear hK
      refine wpAnyH_all (rs := [18]) (by kernel_rfl) (by simp) (AllReadyH.cons (i := 18) rfl (fun KK hK => ?_) AllReadyH.nil)
      rw [if_pos (by rfl)]
      replace hS := hide hS
      go_wp2_with fail
      refine hK.out _ _ (unhide hS) (fun hS => ?_)
      clear hK
      refine wpAnyH_all (rs := [19]) (by kernel_rfl) (by simp) (AllReadyH.cons (i := 19) rfl (fun KK hK => ?_) AllReadyH.nil)
      rw [if_pos (by rfl)]
      replace hS := hide hS
      go_wp2_with fail
      refine hK.out _ _ (unhide hS) (fun hS => ?_)
      clear hK
      refine wpAnyH_done (by kernel_rfl) ?_ _
      replace hS := hide hS
      go_wp2_with fail
      go_meet
      exact ⟨_, _, rfl, rfl, rfl, rfl, rfl, rfl, hide ⟨(unhide hS).bel, unhide HA, unhide HM⟩⟩
  case rest =>
    obtain ⟨bs, bm, rfl, rfl, rfl, rfl, rfl, rfl, H⟩ := hcut
    clear c0 c1 c2 c3 c4 c5 c6 c7 c8 n0 n1 n2 A
    replace HB := hide (below_via (unhide HB) (unhide H).bel)
    replace hL := hide ((show RowG _ _ _ _ from unhide hL).keep (unhide H).bel)
    replace hK0 := hide ((show RowG _ _ _ _ from unhide hK0).keep (unhide H).bel)
    clear H hL hK0
    go_wp2_with fail
    go_ret
    exact ⟨rfl, unhide HB⟩
end Go.Proofs.Ytifdabmdacpmgaa
