/- Proved here: BatchPuts: whether any batch may be, its bytes, any bytes' sum, or the error, are the document's. No condition. -/
import Derived.Test.YtfahgphkceilkaaYl
import Derived.Deep.QuietTactic
import Derived.BigQuiet
import Derived.Deep.RegionHeld
import Derived.Deep.MidRow
namespace Go.Proofs.Ytfahgphkceilkaa.batchPuts
open Go.ChangeShapes Go.WideShapes Go.ChangeAt Go.RowKit
set_option linter.unusedVariables false
set_option linter.unusedSimpArgs false
theorem s_long (s e : Int) (x : Option Addr) (n cap : Nat) (x1 : Option Addr) (n1 cap1 : Nat) (d1 : decide ((300 : Int) < (n : Int)) = true) (w : World) : Calls Try.prog 3 #[.agg #[.int .i64 s, .int .i64 e, .slice x n cap], .slice x1 n1 cap1] w fun r w' => r = .returned (.bool true) ∧ Below w.heap.size w w' := by
  have HX := hide (Blk.new w #[.int .i64 s, .int .i64 e, .slice x n cap] 24)
  have HB := hide (below1 w (.cells #[.int .i64 s, .int .i64 e, .slice x n cap] 24))
  go_enter Try.func3, Try.ntmps3
  go_wp2_with fail
  generalize w.alloc (.cells #[.int .i64 s, .int .i64 e, .slice x n cap] 24) = w0 at *
  refine (alive_any _).mono ?_
  rintro r w1 ⟨rfl, hb⟩
  replace HX := hide ((show Blk _ _ _ _ from unhide HX).keep hb)
  replace HB := hide (below_via (unhide HB) hb)
  have c2 := (show Blk _ _ _ _ from unhide HX).at 2 _ rfl
  clear hb
  go_wp2_with fail
  go_ret
  exact ⟨rfl, unhide HB⟩
theorem s_much (s e : Int) (x : Option Addr) (n cap : Nat) (x1 : Option Addr) (n1 cap1 : Nat) (d1 : decide ((300 : Int) < (n : Int)) = false) (d2 : decide ((3000 : Int) < (n1 : Int)) = true) (w : World) : Calls Try.prog 3 #[.agg #[.int .i64 s, .int .i64 e, .slice x n cap], .slice x1 n1 cap1] w fun r w' => r = .returned (.bool true) ∧ Below w.heap.size w w' := by
  have HX := hide (Blk.new w #[.int .i64 s, .int .i64 e, .slice x n cap] 24)
  have HB := hide (below1 w (.cells #[.int .i64 s, .int .i64 e, .slice x n cap] 24))
  go_enter Try.func3, Try.ntmps3
  go_wp2_with fail
  generalize w.alloc (.cells #[.int .i64 s, .int .i64 e, .slice x n cap] 24) = w0 at *
  refine (alive_any _).mono ?_
  rintro r w1 ⟨rfl, hb⟩
  replace HX := hide ((show Blk _ _ _ _ from unhide HX).keep hb)
  replace HB := hide (below_via (unhide HB) hb)
  have c2 := (show Blk _ _ _ _ from unhide HX).at 2 _ rfl
  clear hb
  go_wp2_with fail
  go_ret
  exact ⟨rfl, unhide HB⟩
set_option maxHeartbeats 8000000 in
theorem s_ok (s e : Int) (x : Option Addr) (n cap : Nat) (x1 : Option Addr) (n1 cap1 : Nat) (l : List Li) (xs : List Nat) (d1 : decide ((300 : Int) < (n : Int)) = false) (d2 : decide ((3000 : Int) < (n1 : Int)) = false) (w : World) (HR : Hid (RowG 2 w (.slice x n cap) (l.map liL))) (HY : Hid (RowG 1 w (.slice x1 n1 cap1) (bys xs))) (Hb : Hid (Bytes xs)) (Hle : Hid (l.length ≤ 10000)) : Calls Try.prog 3 #[.agg #[.int .i64 s, .int .i64 e, .slice x n cap], .slice x1 n1 cap1] w fun r w' => r = .returned (.bool true) ∧ Below w.heap.size w w' := by
  have HX := hide (Blk.new w #[.int .i64 s, .int .i64 e, .slice x n cap] 24)
  have HB := hide (below1 w (.cells #[.int .i64 s, .int .i64 e, .slice x n cap] 24))
  replace HR := hide ((show RowG _ _ _ _ from unhide HR).alloc (.cells #[.int .i64 s, .int .i64 e, .slice x n cap] 24))
  replace HY := hide ((show RowG _ _ _ _ from unhide HY).alloc (.cells #[.int .i64 s, .int .i64 e, .slice x n cap] 24))
  go_enter Try.func3, Try.ntmps3
  go_wp2_with fail
  generalize w.alloc (.cells #[.int .i64 s, .int .i64 e, .slice x n cap] 24) = w0 at *
  refine (alive_any _).mono ?_
  rintro e w1 ⟨rfl, hb⟩
  replace HY := hide ((show RowG _ _ _ _ from unhide HY).keep hb)
  replace HX := hide ((show Blk _ _ _ _ from unhide HX).keep hb)
  replace HR := hide ((show RowG _ _ _ _ from unhide HR).keep hb)
  replace HB := hide (below_via (unhide HB) hb)
  have c2 := (show Blk _ _ _ _ from unhide HX).at 2 _ rfl
  go_wp2_with (refine load_blk rfl 24 _ rfl (show Blk _ _ _ _ from unhide HX) rfl row24 size24 rfl ?_)
  clear c2
  refine (tob_any s e _ l _ (unhide HR) (unhide Hle)).mono ?_
  rintro e w2 ⟨t, rfl, hG⟩
  replace HY := hide ((show RowG _ _ _ _ from unhide HY).keep hG.below)
  replace HX := hide ((show Blk _ _ _ _ from unhide HX).keep hG.below)
  replace HR := hide ((show RowG _ _ _ _ from unhide HR).keep hG.below)
  replace HB := hide (below_via (unhide HB) hG.below)
  have HT := hide (hG.row)
  clear hG
  go_wp2_with fail
  refine (put_any s e _ l _ (unhide HT)).mono ?_
  rintro e w3 ⟨p, rfl, hG⟩
  replace HY := hide ((show RowG _ _ _ _ from unhide HY).keep hG.below)
  replace HX := hide ((show Blk _ _ _ _ from unhide HX).keep hG.below)
  replace HR := hide ((show RowG _ _ _ _ from unhide HR).keep hG.below)
  replace HT := hide ((show RowG _ _ _ _ from unhide HT).keep hG.below)
  replace HB := hide (below_via (unhide HB) hG.below)
  have HP := hide (hG.row)
  clear hG
  clear HT
  go_wp2_with (refine load_blk rfl 24 _ rfl (show Blk _ _ _ _ from unhide HX) rfl row24 size24 rfl ?_)
  refine (rput_any s e _ l _ (unhide HR)).mono ?_
  rintro e w4 ⟨q, rfl, hG⟩
  replace HY := hide ((show RowG _ _ _ _ from unhide HY).keep hG.below)
  replace HX := hide ((show Blk _ _ _ _ from unhide HX).keep hG.below)
  replace HR := hide ((show RowG _ _ _ _ from unhide HR).keep hG.below)
  replace HP := hide ((show RowG _ _ _ _ from unhide HP).keep hG.below)
  replace HB := hide (below_via (unhide HB) hG.below)
  have HQ := hide (hG.row)
  clear hG
  obtain ⟨ap, cp, rfl⟩ := rowG_slice (unhide HP)
  obtain ⟨aq, cq, rfl⟩ := rowG_slice (unhide HQ)
  go_wp2_with fail
  generalize hce : chkB s e l = ce at *
  replace hce := hide hce
  refine wp_region_noPanic ?_
  refine wp_region_held_drew (S := fun W => Below w4.heap.size w4 W) (by kernel_rfl) (Below.refl _ _).drew (fun hS => ?_)
  have HXV := HX
  have hb := hS
  replace HY := hide ((show RowG _ _ _ _ from unhide HY).keep hb)
  replace HX := hide ((show Blk _ _ _ _ from unhide HX).keep hb)
  replace HR := hide ((show RowG _ _ _ _ from unhide HR).keep hb)
  replace HP := hide ((show RowG _ _ _ _ from unhide HP).keep hb)
  replace HQ := hide ((show RowG _ _ _ _ from unhide HQ).keep hb)
  replace HB := hide (below_via (unhide HB) hb)
  clear hb
  generalize w4.drew = w5 at *
  refine anyH_at (i := 0) (v := .slice ap (bys (putB s e l)).length cp) 31 rfl (by kernel_rfl) (by kernel_rfl) (by kernel_rfl) (by kernel_rfl) (fun _ _ _ h => h) (Or.inl ⟨by kernel_rfl, fun W hS => by go_simp⟩) hS ?_
  try simp only [Act.put, List.setIfInBounds_toArray, List.set_cons_zero, List.set_cons_succ]
  refine anyH_at (i := 1) (v := .slice aq (bys (putB s e l)).length cq) 32 rfl (by kernel_rfl) (by kernel_rfl) (by kernel_rfl) (by kernel_rfl) (fun _ _ _ h => h) (Or.inl ⟨by kernel_rfl, fun W hS => by go_simp⟩) hS ?_
  try simp only [Act.put, List.setIfInBounds_toArray, List.set_cons_zero, List.set_cons_succ]
  refine wpAnyH_all (rs := [2]) (by kernel_rfl) (by simp) (AllReadyH.cons (i := 2) rfl (fun KK hK => ?_) AllReadyH.nil)
  rw [if_pos (by kernel_rfl)]
  have hS0 := hide hS
  clear hS
  go_wp2_with fail
  refine (beq_to _ _ (putB s e l) _ (unhide HP) (unhide HQ)).mono ?_
  rintro e w6 ⟨rfl, hb⟩
  replace HY := hide ((show RowG _ _ _ _ from unhide HY).keep hb)
  replace HX := hide ((show Blk _ _ _ _ from unhide HX).keep hb)
  replace HR := hide ((show RowG _ _ _ _ from unhide HR).keep hb)
  replace HP := hide ((show RowG _ _ _ _ from unhide HP).keep hb)
  replace HQ := hide ((show RowG _ _ _ _ from unhide HQ).keep hb)
  replace HB := hide (below_via (unhide HB) hb)
  have hS1 := hide (below_via (unhide hS0) hb)
  clear hS0 hb
  go_wp2_with fail
  refine hK.out _ _ (unhide hS1) (fun hS => ?_)
  clear hK hS1
  try simp only [Act.put, List.setIfInBounds_toArray, List.set_cons_zero, List.set_cons_succ]
  refine anyH_at (i := 3) (v := .bool true) 34 rfl (by kernel_rfl) (by kernel_rfl) (by kernel_rfl) (by kernel_rfl) (fun _ _ _ h => h) (Or.inl ⟨by kernel_rfl, fun W hS => by go_simp⟩) hS ?_
  try simp only [Act.put, List.setIfInBounds_toArray, List.set_cons_zero, List.set_cons_succ]
  refine anyH_at (i := 4) (v := .int .i64 ce) 35 rfl (by kernel_rfl) (by kernel_rfl) (by kernel_rfl) (by kernel_rfl) (fun _ _ _ h => h) (Or.inl ⟨by kernel_rfl, fun W hS => by go_simp⟩) hS ?_
  try simp only [Act.put, List.setIfInBounds_toArray, List.set_cons_zero, List.set_cons_succ]
  refine anyH_at (i := 5) (v := .int .i64 ce) 36 rfl (by kernel_rfl) (by kernel_rfl) (by kernel_rfl) (by kernel_rfl) (fun _ _ _ h => h) (Or.inl ⟨by kernel_rfl, fun W hS => by go_simp⟩) hS ?_
  try simp only [Act.put, List.setIfInBounds_toArray, List.set_cons_zero, List.set_cons_succ]
  refine anyH_at (i := 6) (v := .bool true) 37 rfl (by kernel_rfl) (by kernel_rfl) (by kernel_rfl) (by kernel_rfl) (fun _ _ _ h => h) (Or.inl ⟨by kernel_rfl, fun W hS => by go_simp⟩) hS ?_
  try simp only [Act.put, List.setIfInBounds_toArray, List.set_cons_zero, List.set_cons_succ]
  refine anyH_at (i := 7) (v := .bool true) 38 rfl (by kernel_rfl) (by kernel_rfl) (by kernel_rfl) (by kernel_rfl) (fun _ _ _ h => h) (Or.inl ⟨by kernel_rfl, fun W hS => by go_simp⟩) hS ?_
  try simp only [Act.put, List.setIfInBounds_toArray, List.set_cons_zero, List.set_cons_succ]
  refine anyH_at (i := 8) (v := .bool true) 39 rfl (by kernel_rfl) (by kernel_rfl) (by kernel_rfl) (by kernel_rfl) (fun _ _ _ h => h) (Or.inl ⟨by kernel_rfl, fun W hS => by go_simp⟩) hS ?_
  try simp only [Act.put, List.setIfInBounds_toArray, List.set_cons_zero, List.set_cons_succ]
  refine anyH_at (i := 9) (v := .agg #[.int .i64 s, .int .i64 e, .slice x n cap]) 40 rfl (by kernel_rfl) (by kernel_rfl) (by kernel_rfl) (by kernel_rfl) (fun _ _ _ h => h) (yl_blk (by kernel_rfl) 24 _ rfl rfl (fun W hS => (show Blk _ _ _ _ from unhide HXV).keep hS) row24 size24 rfl) hS ?_
  try simp only [Act.put, List.setIfInBounds_toArray, List.set_cons_zero, List.set_cons_succ]
  refine anyH_at (i := 12) (v := .agg #[.int .i64 s, .int .i64 e, .slice x n cap]) 43 rfl (by kernel_rfl) (by kernel_rfl) (by kernel_rfl) (by kernel_rfl) (fun _ _ _ h => h) (yl_blk (by kernel_rfl) 24 _ rfl rfl (fun W hS => (show Blk _ _ _ _ from unhide HXV).keep hS) row24 size24 rfl) hS ?_
  try simp only [Act.put, List.setIfInBounds_toArray, List.set_cons_zero, List.set_cons_succ]
  refine wpAnyH_all (rs := [10]) (by kernel_rfl) (by simp) (AllReadyH.cons (i := 10) rfl (fun KK hK => ?_) AllReadyH.nil)
  rw [if_pos (by kernel_rfl)]
  have hS0 := hide hS
  clear hS
  go_wp2_with fail
  refine (tob_any s e _ l _ (unhide HR) (unhide Hle)).mono ?_
  rintro e w7 ⟨t, rfl, hG⟩
  replace HY := hide ((show RowG _ _ _ _ from unhide HY).keep hG.below)
  replace HX := hide ((show Blk _ _ _ _ from unhide HX).keep hG.below)
  replace HR := hide ((show RowG _ _ _ _ from unhide HR).keep hG.below)
  replace HP := hide ((show RowG _ _ _ _ from unhide HP).keep hG.below)
  replace HQ := hide ((show RowG _ _ _ _ from unhide HQ).keep hG.below)
  replace HB := hide (below_via (unhide HB) hG.below)
  have HT := hide (hG.row)
  have hS1 := hide (below_via (unhide hS0) hG.below)
  clear hS0 hG
  go_wp2_with fail
  refine hK.out _ _ (unhide hS1) (fun hS => ?_)
  clear hK hS1
  try simp only [Act.put, List.setIfInBounds_toArray, List.set_cons_zero, List.set_cons_succ]
  refine wpAnyH_all (rs := [11]) (by kernel_rfl) (by simp) (AllReadyH.cons (i := 11) rfl (fun KK hK => ?_) AllReadyH.nil)
  rw [if_pos (by kernel_rfl)]
  have hS0 := hide hS
  clear hS
  go_wp2_with fail
  refine (chkb_any s e _ l _ (unhide HT)).mono ?_
  rintro e w8 ⟨rfl, hb⟩
  replace HY := hide ((show RowG _ _ _ _ from unhide HY).keep hb)
  replace HX := hide ((show Blk _ _ _ _ from unhide HX).keep hb)
  replace HR := hide ((show RowG _ _ _ _ from unhide HR).keep hb)
  replace HP := hide ((show RowG _ _ _ _ from unhide HP).keep hb)
  replace HQ := hide ((show RowG _ _ _ _ from unhide HQ).keep hb)
  replace HT := hide ((show RowG _ _ _ _ from unhide HT).keep hb)
  replace HB := hide (below_via (unhide HB) hb)
  have hS1 := hide (below_via (unhide hS0) hb)
  clear hS0 hb
  go_wp2_with fail
  refine hK.out _ _ (unhide hS1) (fun hS => ?_)
  clear hK hS1
  try simp only [Act.put, List.setIfInBounds_toArray, List.set_cons_zero, List.set_cons_succ]
  refine wpAnyH_all (rs := [13]) (by kernel_rfl) (by simp) (AllReadyH.cons (i := 13) rfl (fun KK hK => ?_) AllReadyH.nil)
  rw [if_pos (by kernel_rfl)]
  have hS0 := hide hS
  clear hS
  go_wp2_with fail
  refine (rchkb_any s e _ l _ (unhide HR)).mono ?_
  rintro e w9 ⟨rfl, hb⟩
  replace HY := hide ((show RowG _ _ _ _ from unhide HY).keep hb)
  replace HX := hide ((show Blk _ _ _ _ from unhide HX).keep hb)
  replace HR := hide ((show RowG _ _ _ _ from unhide HR).keep hb)
  replace HP := hide ((show RowG _ _ _ _ from unhide HP).keep hb)
  replace HQ := hide ((show RowG _ _ _ _ from unhide HQ).keep hb)
  replace HT := hide ((show RowG _ _ _ _ from unhide HT).keep hb)
  replace HB := hide (below_via (unhide HB) hb)
  have hS1 := hide (below_via (unhide hS0) hb)
  clear hS0 hb
  go_wp2_with fail
  refine hK.out _ _ (unhide hS1) (fun hS => ?_)
  clear hK hS1
  try simp only [Act.put, List.setIfInBounds_toArray, List.set_cons_zero, List.set_cons_succ]
  refine anyH_at (i := 14) (v := .bool true) 45 rfl (by kernel_rfl) (by kernel_rfl) (by kernel_rfl) (by kernel_rfl) (fun _ _ _ h => h) (Or.inl ⟨by kernel_rfl, fun W hS => by go_simp⟩) hS ?_
  try simp only [Act.put, List.setIfInBounds_toArray, List.set_cons_zero, List.set_cons_succ]
  refine anyH_at (i := 15) (v := .bool true) 46 rfl (by kernel_rfl) (by kernel_rfl) (by kernel_rfl) (by kernel_rfl) (fun _ _ _ h => h) (Or.inl ⟨by kernel_rfl, fun W hS => by go_simp⟩) hS ?_
  try simp only [Act.put, List.setIfInBounds_toArray, List.set_cons_zero, List.set_cons_succ]
  refine anyH_at (i := 16) (v := .bool true) 47 rfl (by kernel_rfl) (by kernel_rfl) (by kernel_rfl) (by kernel_rfl) (fun _ _ _ h => h) (Or.inl ⟨by kernel_rfl, fun W hS => by go_simp⟩) hS ?_
  try simp only [Act.put, List.setIfInBounds_toArray, List.set_cons_zero, List.set_cons_succ]
  refine anyH_at (i := 17) (v := .slice x1 n1 cap1) 48 rfl (by kernel_rfl) (by kernel_rfl) (by kernel_rfl) (by kernel_rfl) (fun _ _ _ h => h) (Or.inl ⟨by kernel_rfl, fun W hS => by go_simp⟩) hS ?_
  try simp only [Act.put, List.setIfInBounds_toArray, List.set_cons_zero, List.set_cons_succ]
  refine anyH_at (i := 19) (v := .slice x1 n1 cap1) 50 rfl (by kernel_rfl) (by kernel_rfl) (by kernel_rfl) (by kernel_rfl) (fun _ _ _ h => h) (Or.inl ⟨by kernel_rfl, fun W hS => by go_simp⟩) hS ?_
  try simp only [Act.put, List.setIfInBounds_toArray, List.set_cons_zero, List.set_cons_succ]
  refine wpAnyH_all (rs := [18]) (by kernel_rfl) (by simp) (AllReadyH.cons (i := 18) rfl (fun KK hK => ?_) AllReadyH.nil)
  rw [if_pos (by kernel_rfl)]
  have hS0 := hide hS
  clear hS
  go_wp2_with fail
  refine (sum_to _ xs _ (unhide HY) (unhide Hb)).mono ?_
  rintro e w10 ⟨rfl, hb⟩
  replace HY := hide ((show RowG _ _ _ _ from unhide HY).keep hb)
  replace HX := hide ((show Blk _ _ _ _ from unhide HX).keep hb)
  replace HR := hide ((show RowG _ _ _ _ from unhide HR).keep hb)
  replace HP := hide ((show RowG _ _ _ _ from unhide HP).keep hb)
  replace HQ := hide ((show RowG _ _ _ _ from unhide HQ).keep hb)
  replace HT := hide ((show RowG _ _ _ _ from unhide HT).keep hb)
  replace HB := hide (below_via (unhide HB) hb)
  have hS1 := hide (below_via (unhide hS0) hb)
  clear hS0 hb
  go_wp2_with fail
  refine hK.out _ _ (unhide hS1) (fun hS => ?_)
  clear hK hS1
  try simp only [Act.put, List.setIfInBounds_toArray, List.set_cons_zero, List.set_cons_succ]
  refine wpAnyH_all (rs := [20]) (by kernel_rfl) (by simp) (AllReadyH.cons (i := 20) rfl (fun KK hK => ?_) AllReadyH.nil)
  rw [if_pos (by kernel_rfl)]
  have hS0 := hide hS
  clear hS
  go_wp2_with fail
  refine (rsum_to _ xs _ (unhide HY) (unhide Hb)).mono ?_
  rintro e w11 ⟨rfl, hb⟩
  replace HY := hide ((show RowG _ _ _ _ from unhide HY).keep hb)
  replace HX := hide ((show Blk _ _ _ _ from unhide HX).keep hb)
  replace HR := hide ((show RowG _ _ _ _ from unhide HR).keep hb)
  replace HP := hide ((show RowG _ _ _ _ from unhide HP).keep hb)
  replace HQ := hide ((show RowG _ _ _ _ from unhide HQ).keep hb)
  replace HT := hide ((show RowG _ _ _ _ from unhide HT).keep hb)
  replace HB := hide (below_via (unhide HB) hb)
  have hS1 := hide (below_via (unhide hS0) hb)
  clear hS0 hb
  go_wp2_with fail
  refine hK.out _ _ (unhide hS1) (fun hS => ?_)
  clear hK hS1
  try simp only [Act.put, List.setIfInBounds_toArray, List.set_cons_zero, List.set_cons_succ]
  refine anyH_at (i := 21) (v := .bool true) 52 rfl (by kernel_rfl) (by kernel_rfl) (by kernel_rfl) (by kernel_rfl) (fun _ _ _ h => h) (Or.inl ⟨by kernel_rfl, fun W hS => by go_simp⟩) hS ?_
  try simp only [Act.put, List.setIfInBounds_toArray, List.set_cons_zero, List.set_cons_succ]
  refine anyH_at (i := 22) (v := .bool true) 53 rfl (by kernel_rfl) (by kernel_rfl) (by kernel_rfl) (by kernel_rfl) (fun _ _ _ h => h) (Or.inl ⟨by kernel_rfl, fun W hS => by go_simp⟩) hS ?_
  try simp only [Act.put, List.setIfInBounds_toArray, List.set_cons_zero, List.set_cons_succ]
  refine anyH_at (i := 23) (v := .bool true) 4 rfl (by kernel_rfl) (by kernel_rfl) (by kernel_rfl) (by kernel_rfl) (fun _ _ _ h => h) (Or.inl ⟨by kernel_rfl, fun W hS => by go_simp⟩) hS ?_
  try simp only [Act.put, List.setIfInBounds_toArray, List.set_cons_zero, List.set_cons_succ]
  refine wpAnyH_done (by kernel_rfl) ?_ _
  clear hS
  refine noPanic_out ?_
  clear HXV
  go_wp2_with fail
  go_ret
  exact ⟨rfl, unhide HB⟩
theorem walk (s e : Int) (x : Option Addr) (n cap : Nat) (l : List Li) (x1 : Option Addr) (n1 cap1 : Nat) (xs : List Nat) (w : World) (h : RowG 2 w (.slice x n cap) (l.map liL)) (hi : AllIn l) (h1 : RowG 1 w (.slice x1 n1 cap1) (bys xs)) (hb : Bytes xs) : Calls Try.prog 3 #[.agg #[.int .i64 s, .int .i64 e, .slice x n cap], .slice x1 n1 cap1] w fun r w' => r = .returned (.bool true) ∧ Below w.heap.size w w' := by
  have hl := rowG_len h
  rw [List.length_map] at hl
  by_cases q1 : 300 < n
  · exact s_long s e x n cap x1 n1 cap1 (decide_eq_true (by omega)) w
  by_cases q2 : 3000 < n1
  · exact s_much s e x n cap x1 n1 cap1 (decide_eq_false (by omega)) (decide_eq_true (by omega)) w
  · exact s_ok s e x n cap x1 n1 cap1 l xs (decide_eq_false (by omega)) (decide_eq_false (by omega)) w (hide h) (hide h1) (hide hb) (hide (by omega))
theorem own : ownKnob Try.prog.godebug = none := by kernel_rfl
theorem laidOut : laidOutB Try.prog = true := by kernel_rfl
set_option linter.unusedVariables false in
set_option maxRecDepth 100000 in
theorem lifted (os : Os) (started : os.Started) (H : Type) (enc : TypeId × Value → H) :
    ReturnsInHanded {} Try.checked os 3 .any (Rows.batchPutsSpec.pre6 enc Try.prog Try.f3 Rows.batchPutsRow.domain false) (Rows.batchPutsSpec.post enc Try.prog Try.f3 false true false false) := by
  refine returnsInHanded_of_change (C := Try.checked) own started (by kernel_rfl) Try.func3
    (ChangeSpec.witness6 (enc := enc) (C := Try.checked) false ⟨#[], #[.agg #[.int .i64 0, .int .i64 0, .slice none 0 0], .slice none 0 0], []⟩ 8 (by kernel_rfl) (by kernel_rfl) (by kernel_rfl) (by kernel_rfl)) ?_
  intro W base args ds gs before hval0 hW hcnd _
  have hval : ∀ (j : Nat) t v, Try.f3.params[j]? = some t → args[j]? = some v → Value.okWide Try.prog W .any base t v := hval0
  have hW' := hW
  obtain ⟨p, q, hA0, hV, rfl, hfz, hnd⟩ := hW
  have hA : DataW.TrodAll enc Try.prog W 0 (fun _ => true) true Try.f3.params.toList args.toList ds p := hA0
  rw [Try.params3] at hA hval
  obtain ⟨v0, vs0, d0, ds0, p0, q0, hargs, rfl, rfl, h0, r0⟩ := trodAll_cons hA
  obtain ⟨v1, vs1, d1, ds1, p1, q1, rfl, rfl, rfl, h1, r1⟩ := trodAll_cons r0
  obtain ⟨rfl, rfl, rfl⟩ := trodAll_nil r1
  obtain rfl : args = #[v0, v1] := by cases args; simp_all
  obtain ⟨rfl, rfl⟩ := trodVars_none hV
  have k0 := h0
  have lt0 : ∀ x ∈ p0, x.block < W.heap.size := by obtain ⟨m, hm⟩ := k0; exact DataW.trod_lt m _ _ _ hm
  obtain ⟨s0, e0, a0, len0, cap0, l0, rfl, hr0, ii0⟩ := bat_open (hval 0 24 v0 rfl rfl) h0
  have k1 := h1
  have lt1 : ∀ x ∈ p1, x.block < W.heap.size := by obtain ⟨m, hm⟩ := k1; exact DataW.trod_lt m _ _ _ hm
  obtain ⟨a1, len1, cap1, rfl⟩ := okWide_slice Try.underlying25 (hval 1 25 v1 rfl rfl)
  obtain ⟨l1, hr1, ii1⟩ : ∃ l : List Nat, RowG 1 W (.slice a1 len1 cap1) (bys l) ∧ Bytes l := by
    obtain ⟨fuel, hf⟩ := h1
    exact bys_open hf
  clear hA0 hval0
  refine (walk s0 e0 a0 len0 cap0 l0 a1 len1 cap1 l1 W hr0 ii0 hr1 ii1).mono fun e W' ⟨he, bel⟩ => ?_
  subst he
  exact ⟨_, rfl, _, _, _, [], _, [], hW', trodAll_mk1 (shut_bool Try.underlying4 _), (trodAll_cons_mk (Below.trod laidOut (by kernel_rfl) (of_decide_eq_true (by kernel_rfl)) k0 bel lt0) (trodAll_cons_mk (Below.trod laidOut (by kernel_rfl) (of_decide_eq_true (by kernel_rfl)) k1 bel lt1) trodAll_mk0)), rfl, bel.frame _, fun h => by cases h⟩
theorem over : Rows.batchPutsRow.holds Try.pinned (OpenSpec.ofChange Rows.batchPutsSpec) :=
  OpenClaim.holds_of_wide 3 Try.f3 rfl rfl rfl rfl rfl rfl rfl ⟨rfl, rfl, rfl, rfl, rfl⟩ rfl rfl rfl rfl rfl (by kernel_rfl) Try.func3 (by kernel_rfl)
    (of_decide_eq_true (by kernel_rfl)) (by unfold Func.isWrapper; first | (rw [if_pos (by decide +kernel)]; kernel_rfl) | (rw [if_neg (by decide +kernel)]; exact ⟨rfl, rfl⟩))
    (fun os started H enc _ => lifted os started H enc)
theorem proved : Rows.BatchPutsSaid := over
end Go.Proofs.Ytfahgphkceilkaa.batchPuts
namespace Go.Proofs.Ytfahgphkceilkaa
theorem batchPuts_holds : Rows.BatchPutsSaid := batchPuts.proved
end Go.Proofs.Ytfahgphkceilkaa
