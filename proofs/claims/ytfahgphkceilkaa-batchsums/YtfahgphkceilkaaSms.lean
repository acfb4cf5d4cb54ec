/- Proved here: BatchSums: sums belong to bytes one by one: two rows as long have, bit by bit, the sum of what they have, and of nothing, together. No condition. -/
import Derived.Test.YtfahgphkceilkaaSs
namespace Go.Proofs.Ytfahgphkceilkaa.batchSums
open Go.ChangeShapes Go.WideShapes Go.ChangeAt Go.RowKit
set_option linter.unusedVariables false
set_option linter.unusedSimpArgs false
theorem zeros_bytes (k : Nat) : Bytes (List.replicate k 0) := fun c hc => by
  rw [(List.mem_replicate.1 hc).2]
  decide
set_option maxHeartbeats 8000000 in
theorem s_zero (x x1 : Option Addr) (n cap n1 cap1 K : Nat) (xs ys : List Nat) (H5 : Hid (K ≤ 500)) (HK : Hid (K = min (min n n1) 500)) (Hx : Hid (K ≤ xs.length)) (Hy : Hid (K ≤ ys.length)) (Hxn : Hid (xs.length = n)) (Hyn : Hid (ys.length = n1)) (Hbx : Hid (Bytes xs)) (Hby : Hid (Bytes ys)) (H0 : Hid (K = 0)) (w : World) (HRw : Hid (RowG 1 w (.slice x n cap) (bys xs))) (HYw : Hid (RowG 1 w (.slice x1 n1 cap1) (bys ys))) : Calls Try.prog 7 #[.slice x n cap, .slice x1 n1 cap1] w fun r w' => r = .returned (.bool true) ∧ Below w.heap.size w w' := by
  have HR := HRw
  have HY := HYw
  have HB := hide (Below.refl w.heap.size w)
  have hK5 := unhide H5
  have hmin := fun (W : World) => min_k (n := n) (n1 := n1) (K := K) (unhide HK) W
  have hK5 := hide hK5
  go_enter Try.func7, Try.ntmps7
  go_wp2_with fail
  refine (alive_any _).mono ?_
  rintro e w1 ⟨rfl, hb⟩
  replace HR := hide ((show RowG _ _ _ _ from unhide HR).keep hb)
  replace HY := hide ((show RowG _ _ _ _ from unhide HY).keep hb)
  replace HB := hide (below_via (unhide HB) hb)
  go_wp2_with fail
  clear hmin
  refine sreg4 (unhide hK5) (fun b1 b2 w2 hne h1 h2 hb k1 k2 => ?_)
  have hB1 := hide (Nat.le_trans (unhide HB).size h1)
  replace HR := hide ((show RowG _ _ _ _ from unhide HR).keep hb)
  replace HY := hide ((show RowG _ _ _ _ from unhide HY).keep hb)
  replace HB := hide (below_via (unhide HB) hb)
  have hne := hide hne
  have HS := hide (SS.begin (a := xs) (b := ys) (unhide HB) k1 k2 (unhide hK5))
  have HR0 := HR
  have HY0 := HY
  clear h1 h2 hb k1 k2
  go_wp2_with fail
  go_loopw [21, 8] (fun i m wr => ∃ k : Nat, k ≤ K ∧ i = .int .i64 (k : Int) ∧ Hid (SS w wr b1 b2 K xs ys k)) (fun i _ _ => K - (intOf i).toNat)
  case atStart => exact ⟨0, Nat.zero_le _, rfl, HS⟩
  case round =>
    clear HS
    obtain ⟨k, hk, rfl, HS⟩ := hrel
    by_cases hlt : k < K
    · exact absurd hlt (by have := unhide H0; omega)
    · obtain rfl : k = K := by omega
      have HB := hide (unhide HS).below
      have HX1 := hide (unhide HS).row
      rw [upX_all] at HX1
      have HN1 := hide (zc_row (unhide HS).nil0 (unhide hK5))
      have HRk := hide (rowB_hi ((unhide HRw).keep (unhide HB)) (show k ≤ n by have := unhide Hx; have := unhide Hxn; omega))
      have HYk := hide (rowB_hi ((unhide HYw).keep (unhide HB)) (show k ≤ n1 by have := unhide Hy; have := unhide Hyn; omega))
      have hcx : (k : Int) ≤ (cap : Int) := by have := rowG_le (unhide HRw); have := unhide Hx; have := unhide Hxn; omega
      have hcy : (k : Int) ≤ (cap1 : Int) := by have := rowG_le (unhide HYw); have := unhide Hy; have := unhide Hyn; omega
      have Bx := hide (bytes_take (unhide Hbx) k)
      have By := hide (bytes_take (unhide Hby) k)
      have Bz := hide (zeros_bytes k)
      have Bo := hide (xorL_bytes _ _ (unhide Bx) (unhide By))
      have Ls : (xs.take k).length = (ys.take k).length := by have := unhide Hx; have := unhide Hy; rw [List.length_take, List.length_take]; omega
      have f1 := hide (u32_xor_nat _ _ (crcSum_lt (unhide Bx)) (crcSum_lt (unhide By)))
      have f2 := hide (u32_xor_nat _ _ (crcSum_lt (unhide Bo)) (crcSum_lt (unhide Bz)))
      rw [← sums_both (xs.take k) (ys.take k) (List.replicate k 0) Ls (by have := unhide Hx; rw [List.length_replicate, List.length_take]; omega) (fun y hy => (List.mem_replicate.1 hy).2)] at f2
      generalize hZ : crcSum (xs.take k) ^^^ crcSum (ys.take k) = Z at *
      clear hZ Ls HS hlt
      go_wp2_with fail
      refine wp_region_noPanic ?_
      refine wp_region_held_drew (S := fun W => Below wr.heap.size wr W) (by kernel_rfl) (Below.refl _ _).drew (fun hS => ?_)
      have hb := hS
      replace HX1 := hide ((show RowG _ _ _ _ from unhide HX1).keep hb)
      replace HN1 := hide ((show RowG _ _ _ _ from unhide HN1).keep hb)
      replace HRk := hide ((show RowG _ _ _ _ from unhide HRk).keep hb)
      replace HYk := hide ((show RowG _ _ _ _ from unhide HYk).keep hb)
      replace HB := hide (below_via (unhide HB) hb)
      clear hb
      generalize wr.drew = w7 at *
      refine anyH_at (i := 0) (v := .slice x n cap) 37 rfl (by kernel_rfl) (by kernel_rfl) (by kernel_rfl) (by kernel_rfl) (fun _ _ _ h => h) (Or.inl ⟨by kernel_rfl, fun W hS => by go_simp⟩) hS ?_
      try simp only [Act.put, List.setIfInBounds_toArray, List.set_cons_zero, List.set_cons_succ]
      refine anyH_at (i := 1) (v := .int .i64 (k : Int)) 38 rfl (by kernel_rfl) (by kernel_rfl) (by kernel_rfl) (by kernel_rfl) (fun _ _ _ h => h) (Or.inl ⟨by kernel_rfl, fun W hS => by go_simp⟩) hS ?_
      try simp only [Act.put, List.setIfInBounds_toArray, List.set_cons_zero, List.set_cons_succ]
      refine anyH_at (i := 2) (v := .slice x k cap) 39 rfl (by kernel_rfl) (by kernel_rfl) (by kernel_rfl) (by kernel_rfl) (fun _ _ _ h => h) (Or.inl ⟨by kernel_rfl, fun W hS => by have q := hcx; go_simp⟩) hS ?_
      try simp only [Act.put, List.setIfInBounds_toArray, List.set_cons_zero, List.set_cons_succ]
      refine anyH_at (i := 4) (v := .slice x1 n1 cap1) 41 rfl (by kernel_rfl) (by kernel_rfl) (by kernel_rfl) (by kernel_rfl) (fun _ _ _ h => h) (Or.inl ⟨by kernel_rfl, fun W hS => by go_simp⟩) hS ?_
      try simp only [Act.put, List.setIfInBounds_toArray, List.set_cons_zero, List.set_cons_succ]
      refine anyH_at (i := 5) (v := .int .i64 (k : Int)) 42 rfl (by kernel_rfl) (by kernel_rfl) (by kernel_rfl) (by kernel_rfl) (fun _ _ _ h => h) (Or.inl ⟨by kernel_rfl, fun W hS => by go_simp⟩) hS ?_
      try simp only [Act.put, List.setIfInBounds_toArray, List.set_cons_zero, List.set_cons_succ]
      refine anyH_at (i := 6) (v := .slice x1 k cap1) 43 rfl (by kernel_rfl) (by kernel_rfl) (by kernel_rfl) (by kernel_rfl) (fun _ _ _ h => h) (Or.inl ⟨by kernel_rfl, fun W hS => by have q := hcy; go_simp⟩) hS ?_
      try simp only [Act.put, List.setIfInBounds_toArray, List.set_cons_zero, List.set_cons_succ]
      refine anyH_at (i := 9) (v := .slice (some ⟨b1, 0, none⟩) k k) 46 rfl (by kernel_rfl) (by kernel_rfl) (by kernel_rfl) (by kernel_rfl) (fun _ _ _ h => h) (Or.inl ⟨by kernel_rfl, fun W hS => by go_simp⟩) hS ?_
      try simp only [Act.put, List.setIfInBounds_toArray, List.set_cons_zero, List.set_cons_succ]
      refine anyH_at (i := 11) (v := .slice (some ⟨b2, 0, none⟩) k k) 48 rfl (by kernel_rfl) (by kernel_rfl) (by kernel_rfl) (by kernel_rfl) (fun _ _ _ h => h) (Or.inl ⟨by kernel_rfl, fun W hS => by go_simp⟩) hS ?_
      try simp only [Act.put, List.setIfInBounds_toArray, List.set_cons_zero, List.set_cons_succ]
      clear hcx hcy
      refine wpAnyH_all (rs := [3]) (by kernel_rfl) (by simp) (AllReadyH.cons (i := 3) rfl (fun KK hK => ?_) AllReadyH.nil)
      rw [if_pos (by kernel_rfl)]
      have hS0 := hide hS
      clear hS
      go_wp2_with fail
      refine (sum_to _ _ _ (unhide HRk) (unhide Bx)).mono ?_
      rintro e w8 ⟨rfl, hb⟩
      replace HX1 := hide ((show RowG _ _ _ _ from unhide HX1).keep hb)
      replace HN1 := hide ((show RowG _ _ _ _ from unhide HN1).keep hb)
      replace HRk := hide ((show RowG _ _ _ _ from unhide HRk).keep hb)
      replace HYk := hide ((show RowG _ _ _ _ from unhide HYk).keep hb)
      replace HB := hide (below_via (unhide HB) hb)
      have hS1 := hide (below_via (unhide hS0) hb)
      clear hS0 hb
      go_wp2_with fail
      refine hK.out _ _ (unhide hS1) (fun hS => ?_)
      clear hK hS1
      try simp only [Act.put, List.setIfInBounds_toArray, List.set_cons_zero, List.set_cons_succ]
      refine wpAnyH_all (rs := [7]) (by kernel_rfl) (by simp) (AllReadyH.cons (i := 7) rfl (fun KK hK => ?_) AllReadyH.nil)
      rw [if_pos (by kernel_rfl)]
      have hS0 := hide hS
      clear hS
      go_wp2_with fail
      refine (sum_to _ _ _ (unhide HYk) (unhide By)).mono ?_
      rintro e w9 ⟨rfl, hb⟩
      replace HX1 := hide ((show RowG _ _ _ _ from unhide HX1).keep hb)
      replace HN1 := hide ((show RowG _ _ _ _ from unhide HN1).keep hb)
      replace HRk := hide ((show RowG _ _ _ _ from unhide HRk).keep hb)
      replace HYk := hide ((show RowG _ _ _ _ from unhide HYk).keep hb)
      replace HB := hide (below_via (unhide HB) hb)
      have hS1 := hide (below_via (unhide hS0) hb)
      clear hS0 hb
      go_wp2_with fail
      refine hK.out _ _ (unhide hS1) (fun hS => ?_)
      clear hK hS1
      try simp only [Act.put, List.setIfInBounds_toArray, List.set_cons_zero, List.set_cons_succ]
      refine anyH_at (i := 8) (v := .int .u32 (Z : Int)) 45 rfl (by kernel_rfl) (by kernel_rfl) (by kernel_rfl) (by kernel_rfl) (fun _ _ _ h => h) (Or.inl ⟨by kernel_rfl, fun W hS => by have f := unhide f1; go_simp⟩) hS ?_
      try simp only [Act.put, List.setIfInBounds_toArray, List.set_cons_zero, List.set_cons_succ]
      refine wpAnyH_all (rs := [10]) (by kernel_rfl) (by simp) (AllReadyH.cons (i := 10) rfl (fun KK hK => ?_) AllReadyH.nil)
      rw [if_pos (by kernel_rfl)]
      have hS0 := hide hS
      clear hS
      go_wp2_with fail
      refine (sum_to _ _ _ (unhide HX1) (unhide Bo)).mono ?_
      rintro e w10 ⟨rfl, hb⟩
      replace HX1 := hide ((show RowG _ _ _ _ from unhide HX1).keep hb)
      replace HN1 := hide ((show RowG _ _ _ _ from unhide HN1).keep hb)
      replace HRk := hide ((show RowG _ _ _ _ from unhide HRk).keep hb)
      replace HYk := hide ((show RowG _ _ _ _ from unhide HYk).keep hb)
      replace HB := hide (below_via (unhide HB) hb)
      have hS1 := hide (below_via (unhide hS0) hb)
      clear hS0 hb
      go_wp2_with fail
      refine hK.out _ _ (unhide hS1) (fun hS => ?_)
      clear hK hS1
      try simp only [Act.put, List.setIfInBounds_toArray, List.set_cons_zero, List.set_cons_succ]
      refine wpAnyH_all (rs := [12]) (by kernel_rfl) (by simp) (AllReadyH.cons (i := 12) rfl (fun KK hK => ?_) AllReadyH.nil)
      rw [if_pos (by kernel_rfl)]
      have hS0 := hide hS
      clear hS
      go_wp2_with fail
      refine (sum_to _ _ _ (unhide HN1) (unhide Bz)).mono ?_
      rintro e w11 ⟨rfl, hb⟩
      replace HX1 := hide ((show RowG _ _ _ _ from unhide HX1).keep hb)
      replace HN1 := hide ((show RowG _ _ _ _ from unhide HN1).keep hb)
      replace HRk := hide ((show RowG _ _ _ _ from unhide HRk).keep hb)
      replace HYk := hide ((show RowG _ _ _ _ from unhide HYk).keep hb)
      replace HB := hide (below_via (unhide HB) hb)
      have hS1 := hide (below_via (unhide hS0) hb)
      clear hS0 hb
      go_wp2_with fail
      refine hK.out _ _ (unhide hS1) (fun hS => ?_)
      clear hK hS1
      try simp only [Act.put, List.setIfInBounds_toArray, List.set_cons_zero, List.set_cons_succ]
      refine anyH_at (i := 13) (v := .int .u32 (Z : Int)) 50 rfl (by kernel_rfl) (by kernel_rfl) (by kernel_rfl) (by kernel_rfl) (fun _ _ _ h => h) (Or.inl ⟨by kernel_rfl, fun W hS => by have f := unhide f2; go_simp⟩) hS ?_
      try simp only [Act.put, List.setIfInBounds_toArray, List.set_cons_zero, List.set_cons_succ]
      refine anyH_at (i := 14) (v := .bool true) 51 rfl (by kernel_rfl) (by kernel_rfl) (by kernel_rfl) (by kernel_rfl) (fun _ _ _ h => h) (Or.inl ⟨by kernel_rfl, fun W hS => by go_simp⟩) hS ?_
      try simp only [Act.put, List.setIfInBounds_toArray, List.set_cons_zero, List.set_cons_succ]
      refine anyH_at (i := 15) (v := .bool true) 4 rfl (by kernel_rfl) (by kernel_rfl) (by kernel_rfl) (by kernel_rfl) (fun _ _ _ h => h) (Or.inl ⟨by kernel_rfl, fun W hS => by go_simp⟩) hS ?_
      try simp only [Act.put, List.setIfInBounds_toArray, List.set_cons_zero, List.set_cons_succ]
      refine wpAnyH_done (by kernel_rfl) ?_ _
      clear hS
      refine noPanic_out ?_
      go_wp2_with fail
      go_ret
      exact ⟨rfl, unhide HB⟩
set_option maxHeartbeats 8000000 in
theorem s_some (ab ao bb bo : Nat) (n cap n1 cap1 K : Nat) (xs ys : List Nat) (H5 : Hid (K ≤ 500)) (HK : Hid (K = min (min n n1) 500)) (Hx : Hid (K ≤ xs.length)) (Hy : Hid (K ≤ ys.length)) (Hxn : Hid (xs.length = n)) (Hyn : Hid (ys.length = n1)) (Hbx : Hid (Bytes xs)) (Hby : Hid (Bytes ys)) (w : World) (HRw : Hid (RowG 1 w (.slice (some ⟨ab, ao, none⟩) n cap) (bys xs))) (HYw : Hid (RowG 1 w (.slice (some ⟨bb, bo, none⟩) n1 cap1) (bys ys))) : Calls Try.prog 7 #[.slice (some ⟨ab, ao, none⟩) n cap, .slice (some ⟨bb, bo, none⟩) n1 cap1] w fun r w' => r = .returned (.bool true) ∧ Below w.heap.size w w' := by
  have HR := HRw
  have HY := HYw
  have HB := hide (Below.refl w.heap.size w)
  have hK5 := unhide H5
  have hmin := fun (W : World) => min_k (n := n) (n1 := n1) (K := K) (unhide HK) W
  have hK5 := hide hK5
  go_enter Try.func7, Try.ntmps7
  go_wp2_with fail
  refine (alive_any _).mono ?_
  rintro e w1 ⟨rfl, hb⟩
  replace HR := hide ((show RowG _ _ _ _ from unhide HR).keep hb)
  replace HY := hide ((show RowG _ _ _ _ from unhide HY).keep hb)
  replace HB := hide (below_via (unhide HB) hb)
  go_wp2_with fail
  clear hmin
  refine sreg4 (unhide hK5) (fun b1 b2 w2 hne h1 h2 hb k1 k2 => ?_)
  have hB1 := hide (Nat.le_trans (unhide HB).size h1)
  replace HR := hide ((show RowG _ _ _ _ from unhide HR).keep hb)
  replace HY := hide ((show RowG _ _ _ _ from unhide HY).keep hb)
  replace HB := hide (below_via (unhide HB) hb)
  have hne := hide hne
  have HS := hide (SS.begin (a := xs) (b := ys) (unhide HB) k1 k2 (unhide hK5))
  have HR0 := HR
  have HY0 := HY
  clear h1 h2 hb k1 k2
  go_wp2_with fail
  go_loopw [21, 8] (fun i m wr => ∃ k : Nat, k ≤ K ∧ i = .int .i64 (k : Int) ∧ Hid (SS w wr b1 b2 K xs ys k)) (fun i _ _ => K - (intOf i).toNat)
  case atStart => exact ⟨0, Nat.zero_le _, rfl, HS⟩
  case round =>
    clear HS
    obtain ⟨k, hk, rfl, HS⟩ := hrel
    by_cases hlt : k < K
    · have k1 : (k : Int) < (K : Int) := by omega
      have m0 := (unhide HRw).by (k := k) (by have := unhide Hx; omega)
      have m1 := (unhide HYw).by (k := k) (by have := unhide Hy; omega)
      have la := hide (lt_of_cell m0)
      have lb := hide (lt_of_cell m1)
      have hx := getD_lt (unhide Hbx) k
      have hy := getD_lt (unhide Hby) k
      have fx := hide (u8_xor_nat _ _ hx hy)
      have HS2 := (unhide HS).drewn
      have HN := hide (HS2.next (unhide Hx) (unhide Hy) hlt (unhide hB1) (unhide hne))
      obtain ⟨cur, hcur⟩ := HS2.blk
      have fz := frozen_of_row _ b1 k _ _ hcur
      have cx := HS2.row.by (k := k) (by rw [upX_len (unhide Hx) (unhide Hy) hk]; exact hlt)
      rw [Nat.zero_add] at cx
      have hS0 := hide HS2.below
      have hkn : (k : Int) < (n : Int) := by have := unhide Hx; have := unhide Hxn; omega
      have hkm : (k : Int) < (n1 : Int) := by have := unhide Hy; have := unhide Hyn; omega
      generalize (upX xs ys K k).getD k 0 = old at *
      generalize xs.getD k 0 = p at *
      generalize ys.getD k 0 = q at *
      generalize p ^^^ q = z at *
      clear hx hy hcur HS2 HS
      have m0 := hide m0
      have m1 := hide m1
      have fz := hide fz
      have cx := hide cx
      go_wp2_with fail
      refine wp_region_noPanic ?_
      refine wp_region_held_drew (S := fun W => Below w.heap.size w W) (by kernel_rfl) (unhide hS0) (fun hS => ?_)
      generalize wr.drew = V0 at *
      clear hS0
      refine anyH_at (i := 0) (v := .slice (some ⟨b1, 0, none⟩) K K) 24 rfl (by kernel_rfl) (by kernel_rfl) (by kernel_rfl) (by kernel_rfl) (fun _ _ _ h => h) (Or.inl ⟨by kernel_rfl, fun W hS => by go_simp⟩) hS ?_
      try simp only [Act.put, List.setIfInBounds_toArray, List.set_cons_zero, List.set_cons_succ]
      refine anyH_at (i := 1) (v := .int .i64 (k : Int)) 25 rfl (by kernel_rfl) (by kernel_rfl) (by kernel_rfl) (by kernel_rfl) (fun _ _ _ h => h) (Or.inl ⟨by kernel_rfl, fun W hS => by go_simp⟩) hS ?_
      try simp only [Act.put, List.setIfInBounds_toArray, List.set_cons_zero, List.set_cons_succ]
      refine anyH_at (i := 2) (v := .slice (some ⟨ab, ao, none⟩) n cap) 26 rfl (by kernel_rfl) (by kernel_rfl) (by kernel_rfl) (by kernel_rfl) (fun _ _ _ h => h) (Or.inl ⟨by kernel_rfl, fun W hS => by go_simp⟩) hS ?_
      try simp only [Act.put, List.setIfInBounds_toArray, List.set_cons_zero, List.set_cons_succ]
      refine anyH_at (i := 3) (v := .int .i64 (k : Int)) 27 rfl (by kernel_rfl) (by kernel_rfl) (by kernel_rfl) (by kernel_rfl) (fun _ _ _ h => h) (Or.inl ⟨by kernel_rfl, fun W hS => by go_simp⟩) hS ?_
      try simp only [Act.put, List.setIfInBounds_toArray, List.set_cons_zero, List.set_cons_succ]
      refine anyH_at (i := 4) (v := .pointer (some ⟨ab, ao + k, none⟩)) 28 rfl (by kernel_rfl) (by kernel_rfl) (by kernel_rfl) (by kernel_rfl) (fun _ _ _ h => h) (Or.inl ⟨by kernel_rfl, fun W hS => by have q := hkn; go_simp⟩) hS ?_
      try simp only [Act.put, List.setIfInBounds_toArray, List.set_cons_zero, List.set_cons_succ]
      refine anyH_at (i := 5) (v := .int .u8 (p : Int)) 29 rfl (by kernel_rfl) (by kernel_rfl) (by kernel_rfl) (by kernel_rfl) (fun _ _ _ h => h) (Or.inl ⟨by kernel_rfl, fun W hS => by have f1 := (hS.cell (p := ⟨ab, ao + k, none⟩) (unhide la)).trans (unhide m0); go_simp⟩) hS ?_
      try simp only [Act.put, List.setIfInBounds_toArray, List.set_cons_zero, List.set_cons_succ]
      refine anyH_at (i := 6) (v := .slice (some ⟨bb, bo, none⟩) n1 cap1) 30 rfl (by kernel_rfl) (by kernel_rfl) (by kernel_rfl) (by kernel_rfl) (fun _ _ _ h => h) (Or.inl ⟨by kernel_rfl, fun W hS => by go_simp⟩) hS ?_
      try simp only [Act.put, List.setIfInBounds_toArray, List.set_cons_zero, List.set_cons_succ]
      refine anyH_at (i := 7) (v := .int .i64 (k : Int)) 31 rfl (by kernel_rfl) (by kernel_rfl) (by kernel_rfl) (by kernel_rfl) (fun _ _ _ h => h) (Or.inl ⟨by kernel_rfl, fun W hS => by go_simp⟩) hS ?_
      try simp only [Act.put, List.setIfInBounds_toArray, List.set_cons_zero, List.set_cons_succ]
      refine anyH_at (i := 8) (v := .pointer (some ⟨bb, bo + k, none⟩)) 32 rfl (by kernel_rfl) (by kernel_rfl) (by kernel_rfl) (by kernel_rfl) (fun _ _ _ h => h) (Or.inl ⟨by kernel_rfl, fun W hS => by have q := hkm; go_simp⟩) hS ?_
      try simp only [Act.put, List.setIfInBounds_toArray, List.set_cons_zero, List.set_cons_succ]
      refine anyH_at (i := 9) (v := .int .u8 (q : Int)) 33 rfl (by kernel_rfl) (by kernel_rfl) (by kernel_rfl) (by kernel_rfl) (fun _ _ _ h => h) (Or.inl ⟨by kernel_rfl, fun W hS => by have f1 := (hS.cell (p := ⟨bb, bo + k, none⟩) (unhide lb)).trans (unhide m1); go_simp⟩) hS ?_
      try simp only [Act.put, List.setIfInBounds_toArray, List.set_cons_zero, List.set_cons_succ]
      refine anyH_at (i := 10) (v := .int .u8 (z : Int)) 34 rfl (by kernel_rfl) (by kernel_rfl) (by kernel_rfl) (by kernel_rfl) (fun _ _ _ h => h) (Or.inl ⟨by kernel_rfl, fun W hS => by have f1 := unhide fx; go_simp⟩) hS ?_
      try simp only [Act.put, List.setIfInBounds_toArray, List.set_cons_zero, List.set_cons_succ]
      refine anyH_at (i := 11) (v := .pointer (some ⟨b1, k, none⟩)) 35 rfl (by kernel_rfl) (by kernel_rfl) (by kernel_rfl) (by kernel_rfl) (fun _ _ _ h => h) (Or.inl ⟨by kernel_rfl, fun W hS => by have q := k1; go_simp⟩) hS ?_
      try simp only [Act.put, List.setIfInBounds_toArray, List.set_cons_zero, List.set_cons_succ]
      refine wpAnyH_all (rs := [12]) (by kernel_rfl) (by simp) (AllReadyH.cons (i := 12) rfl (fun KK hK => ?_) AllReadyH.nil)
      rw [if_pos (by kernel_rfl)]
      have hS1 := hide (hS.setCell (p := ⟨b1, k, none⟩) (unhide hB1) (.int .u8 (z : Int)))
      have fz := unhide fz
      have cx := unhide cx
      clear hS
      go_wp2_with fail
      refine hK.out _ _ (unhide hS1) (fun hS => ?_)
      clear hK hS1 fz cx m0 m1
      try simp only [Act.put, List.setIfInBounds_toArray, List.set_cons_zero, List.set_cons_succ]
      refine wpAnyH_done (by kernel_rfl) ?_ _
      clear hS
      refine noPanic_out ?_
      generalize V0.setCell ⟨b1, k, none⟩ (.int .u8 (z : Int)) = V1 at *
      go_wp2_with fail
      go_roundw
      case rel => exact ⟨k + 1, by omega, by go_num, HN⟩
      case measure => simp [intOf]; omega
    · obtain rfl : k = K := by omega
      have HB := hide (unhide HS).below
      have HX1 := hide (unhide HS).row
      rw [upX_all] at HX1
      have HN1 := hide (zc_row (unhide HS).nil0 (unhide hK5))
      have HRk := hide (rowB_hi ((unhide HRw).keep (unhide HB)) (show k ≤ n by have := unhide Hx; have := unhide Hxn; omega))
      have HYk := hide (rowB_hi ((unhide HYw).keep (unhide HB)) (show k ≤ n1 by have := unhide Hy; have := unhide Hyn; omega))
      have hcx : (k : Int) ≤ (cap : Int) := by have := rowG_le (unhide HRw); have := unhide Hx; have := unhide Hxn; omega
      have hcy : (k : Int) ≤ (cap1 : Int) := by have := rowG_le (unhide HYw); have := unhide Hy; have := unhide Hyn; omega
      have Bx := hide (bytes_take (unhide Hbx) k)
      have By := hide (bytes_take (unhide Hby) k)
      have Bz := hide (zeros_bytes k)
      have Bo := hide (xorL_bytes _ _ (unhide Bx) (unhide By))
      have Ls : (xs.take k).length = (ys.take k).length := by have := unhide Hx; have := unhide Hy; rw [List.length_take, List.length_take]; omega
      have f1 := hide (u32_xor_nat _ _ (crcSum_lt (unhide Bx)) (crcSum_lt (unhide By)))
      have f2 := hide (u32_xor_nat _ _ (crcSum_lt (unhide Bo)) (crcSum_lt (unhide Bz)))
      rw [← sums_both (xs.take k) (ys.take k) (List.replicate k 0) Ls (by have := unhide Hx; rw [List.length_replicate, List.length_take]; omega) (fun y hy => (List.mem_replicate.1 hy).2)] at f2
      generalize hZ : crcSum (xs.take k) ^^^ crcSum (ys.take k) = Z at *
      clear hZ Ls HS hlt
      go_wp2_with fail
      refine wp_region_noPanic ?_
      refine wp_region_held_drew (S := fun W => Below wr.heap.size wr W) (by kernel_rfl) (Below.refl _ _).drew (fun hS => ?_)
      have hb := hS
      replace HX1 := hide ((show RowG _ _ _ _ from unhide HX1).keep hb)
      replace HN1 := hide ((show RowG _ _ _ _ from unhide HN1).keep hb)
      replace HRk := hide ((show RowG _ _ _ _ from unhide HRk).keep hb)
      replace HYk := hide ((show RowG _ _ _ _ from unhide HYk).keep hb)
      replace HB := hide (below_via (unhide HB) hb)
      clear hb
      generalize wr.drew = w7 at *
      refine anyH_at (i := 0) (v := .slice (some ⟨ab, ao, none⟩) n cap) 37 rfl (by kernel_rfl) (by kernel_rfl) (by kernel_rfl) (by kernel_rfl) (fun _ _ _ h => h) (Or.inl ⟨by kernel_rfl, fun W hS => by go_simp⟩) hS ?_
      try simp only [Act.put, List.setIfInBounds_toArray, List.set_cons_zero, List.set_cons_succ]
      refine anyH_at (i := 1) (v := .int .i64 (k : Int)) 38 rfl (by kernel_rfl) (by kernel_rfl) (by kernel_rfl) (by kernel_rfl) (fun _ _ _ h => h) (Or.inl ⟨by kernel_rfl, fun W hS => by go_simp⟩) hS ?_
      try simp only [Act.put, List.setIfInBounds_toArray, List.set_cons_zero, List.set_cons_succ]
      refine anyH_at (i := 2) (v := .slice (some ⟨ab, ao, none⟩) k cap) 39 rfl (by kernel_rfl) (by kernel_rfl) (by kernel_rfl) (by kernel_rfl) (fun _ _ _ h => h) (Or.inl ⟨by kernel_rfl, fun W hS => by have q := hcx; go_simp⟩) hS ?_
      try simp only [Act.put, List.setIfInBounds_toArray, List.set_cons_zero, List.set_cons_succ]
      refine anyH_at (i := 4) (v := .slice (some ⟨bb, bo, none⟩) n1 cap1) 41 rfl (by kernel_rfl) (by kernel_rfl) (by kernel_rfl) (by kernel_rfl) (fun _ _ _ h => h) (Or.inl ⟨by kernel_rfl, fun W hS => by go_simp⟩) hS ?_
      try simp only [Act.put, List.setIfInBounds_toArray, List.set_cons_zero, List.set_cons_succ]
      refine anyH_at (i := 5) (v := .int .i64 (k : Int)) 42 rfl (by kernel_rfl) (by kernel_rfl) (by kernel_rfl) (by kernel_rfl) (fun _ _ _ h => h) (Or.inl ⟨by kernel_rfl, fun W hS => by go_simp⟩) hS ?_
      try simp only [Act.put, List.setIfInBounds_toArray, List.set_cons_zero, List.set_cons_succ]
      refine anyH_at (i := 6) (v := .slice (some ⟨bb, bo, none⟩) k cap1) 43 rfl (by kernel_rfl) (by kernel_rfl) (by kernel_rfl) (by kernel_rfl) (fun _ _ _ h => h) (Or.inl ⟨by kernel_rfl, fun W hS => by have q := hcy; go_simp⟩) hS ?_
      try simp only [Act.put, List.setIfInBounds_toArray, List.set_cons_zero, List.set_cons_succ]
      refine anyH_at (i := 9) (v := .slice (some ⟨b1, 0, none⟩) k k) 46 rfl (by kernel_rfl) (by kernel_rfl) (by kernel_rfl) (by kernel_rfl) (fun _ _ _ h => h) (Or.inl ⟨by kernel_rfl, fun W hS => by go_simp⟩) hS ?_
      try simp only [Act.put, List.setIfInBounds_toArray, List.set_cons_zero, List.set_cons_succ]
      refine anyH_at (i := 11) (v := .slice (some ⟨b2, 0, none⟩) k k) 48 rfl (by kernel_rfl) (by kernel_rfl) (by kernel_rfl) (by kernel_rfl) (fun _ _ _ h => h) (Or.inl ⟨by kernel_rfl, fun W hS => by go_simp⟩) hS ?_
      try simp only [Act.put, List.setIfInBounds_toArray, List.set_cons_zero, List.set_cons_succ]
      clear hcx hcy
      refine wpAnyH_all (rs := [3]) (by kernel_rfl) (by simp) (AllReadyH.cons (i := 3) rfl (fun KK hK => ?_) AllReadyH.nil)
      rw [if_pos (by kernel_rfl)]
      have hS0 := hide hS
      clear hS
      go_wp2_with fail
      refine (sum_to _ _ _ (unhide HRk) (unhide Bx)).mono ?_
      rintro e w8 ⟨rfl, hb⟩
      replace HX1 := hide ((show RowG _ _ _ _ from unhide HX1).keep hb)
      replace HN1 := hide ((show RowG _ _ _ _ from unhide HN1).keep hb)
      replace HRk := hide ((show RowG _ _ _ _ from unhide HRk).keep hb)
      replace HYk := hide ((show RowG _ _ _ _ from unhide HYk).keep hb)
      replace HB := hide (below_via (unhide HB) hb)
      have hS1 := hide (below_via (unhide hS0) hb)
      clear hS0 hb
      go_wp2_with fail
      refine hK.out _ _ (unhide hS1) (fun hS => ?_)
      clear hK hS1
      try simp only [Act.put, List.setIfInBounds_toArray, List.set_cons_zero, List.set_cons_succ]
      refine wpAnyH_all (rs := [7]) (by kernel_rfl) (by simp) (AllReadyH.cons (i := 7) rfl (fun KK hK => ?_) AllReadyH.nil)
      rw [if_pos (by kernel_rfl)]
      have hS0 := hide hS
      clear hS
      go_wp2_with fail
      refine (sum_to _ _ _ (unhide HYk) (unhide By)).mono ?_
      rintro e w9 ⟨rfl, hb⟩
      replace HX1 := hide ((show RowG _ _ _ _ from unhide HX1).keep hb)
      replace HN1 := hide ((show RowG _ _ _ _ from unhide HN1).keep hb)
      replace HRk := hide ((show RowG _ _ _ _ from unhide HRk).keep hb)
      replace HYk := hide ((show RowG _ _ _ _ from unhide HYk).keep hb)
      replace HB := hide (below_via (unhide HB) hb)
      have hS1 := hide (below_via (unhide hS0) hb)
      clear hS0 hb
      go_wp2_with fail
      refine hK.out _ _ (unhide hS1) (fun hS => ?_)
      clear hK hS1
      try simp only [Act.put, List.setIfInBounds_toArray, List.set_cons_zero, List.set_cons_succ]
      refine anyH_at (i := 8) (v := .int .u32 (Z : Int)) 45 rfl (by kernel_rfl) (by kernel_rfl) (by kernel_rfl) (by kernel_rfl) (fun _ _ _ h => h) (Or.inl ⟨by kernel_rfl, fun W hS => by have f := unhide f1; go_simp⟩) hS ?_
      try simp only [Act.put, List.setIfInBounds_toArray, List.set_cons_zero, List.set_cons_succ]
      refine wpAnyH_all (rs := [10]) (by kernel_rfl) (by simp) (AllReadyH.cons (i := 10) rfl (fun KK hK => ?_) AllReadyH.nil)
      rw [if_pos (by kernel_rfl)]
      have hS0 := hide hS
      clear hS
      go_wp2_with fail
      refine (sum_to _ _ _ (unhide HX1) (unhide Bo)).mono ?_
      rintro e w10 ⟨rfl, hb⟩
      replace HX1 := hide ((show RowG _ _ _ _ from unhide HX1).keep hb)
      replace HN1 := hide ((show RowG _ _ _ _ from unhide HN1).keep hb)
      replace HRk := hide ((show RowG _ _ _ _ from unhide HRk).keep hb)
      replace HYk := hide ((show RowG _ _ _ _ from unhide HYk).keep hb)
      replace HB := hide (below_via (unhide HB) hb)
      have hS1 := hide (below_via (unhide hS0) hb)
      clear hS0 hb
      go_wp2_with fail
      refine hK.out _ _ (unhide hS1) (fun hS => ?_)
      clear hK hS1
      try simp only [Act.put, List.setIfInBounds_toArray, List.set_cons_zero, List.set_cons_succ]
      refine wpAnyH_all (rs := [12]) (by kernel_rfl) (by simp) (AllReadyH.cons (i := 12) rfl (fun KK hK => ?_) AllReadyH.nil)
      rw [if_pos (by kernel_rfl)]
      have hS0 := hide hS
      clear hS
      go_wp2_with fail
      refine (sum_to _ _ _ (unhide HN1) (unhide Bz)).mono ?_
      rintro e w11 ⟨rfl, hb⟩
      replace HX1 := hide ((show RowG _ _ _ _ from unhide HX1).keep hb)
      replace HN1 := hide ((show RowG _ _ _ _ from unhide HN1).keep hb)
      replace HRk := hide ((show RowG _ _ _ _ from unhide HRk).keep hb)
      replace HYk := hide ((show RowG _ _ _ _ from unhide HYk).keep hb)
      replace HB := hide (below_via (unhide HB) hb)
      have hS1 := hide (below_via (unhide hS0) hb)
      clear hS0 hb
      go_wp2_with fail
      refine hK.out _ _ (unhide hS1) (fun hS => ?_)
      clear hK hS1
      try simp only [Act.put, List.setIfInBounds_toArray, List.set_cons_zero, List.set_cons_succ]
      refine anyH_at (i := 13) (v := .int .u32 (Z : Int)) 50 rfl (by kernel_rfl) (by kernel_rfl) (by kernel_rfl) (by kernel_rfl) (fun _ _ _ h => h) (Or.inl ⟨by kernel_rfl, fun W hS => by have f := unhide f2; go_simp⟩) hS ?_
      try simp only [Act.put, List.setIfInBounds_toArray, List.set_cons_zero, List.set_cons_succ]
      refine anyH_at (i := 14) (v := .bool true) 51 rfl (by kernel_rfl) (by kernel_rfl) (by kernel_rfl) (by kernel_rfl) (fun _ _ _ h => h) (Or.inl ⟨by kernel_rfl, fun W hS => by go_simp⟩) hS ?_
      try simp only [Act.put, List.setIfInBounds_toArray, List.set_cons_zero, List.set_cons_succ]
      refine anyH_at (i := 15) (v := .bool true) 4 rfl (by kernel_rfl) (by kernel_rfl) (by kernel_rfl) (by kernel_rfl) (fun _ _ _ h => h) (Or.inl ⟨by kernel_rfl, fun W hS => by go_simp⟩) hS ?_
      try simp only [Act.put, List.setIfInBounds_toArray, List.set_cons_zero, List.set_cons_succ]
      refine wpAnyH_done (by kernel_rfl) ?_ _
      clear hS
      refine noPanic_out ?_
      go_wp2_with fail
      go_ret
      exact ⟨rfl, unhide HB⟩
theorem walk (x : Option Addr) (n cap : Nat) (xs : List Nat) (x1 : Option Addr) (n1 cap1 : Nat) (ys : List Nat) (w : World) (h : RowG 1 w (.slice x n cap) (bys xs)) (hb : Bytes xs) (h1 : RowG 1 w (.slice x1 n1 cap1) (bys ys)) (hb1 : Bytes ys) : Calls Try.prog 7 #[.slice x n cap, .slice x1 n1 cap1] w fun r w' => r = .returned (.bool true) ∧ Below w.heap.size w w' := by
  have hl := rowB_len h
  have hl1 := rowB_len h1
  obtain ⟨K, hK⟩ : ∃ K, K = min (min n n1) 500 := ⟨_, rfl⟩
  by_cases h0 : K = 0
  · exact s_zero x x1 n cap n1 cap1 K xs ys (hide (by omega)) (hide hK) (hide (by omega)) (hide (by omega)) (hide hl.symm) (hide hl1.symm) (hide hb) (hide hb1) (hide h0) w (hide h) (hide h1)
  obtain ⟨ab, ao, ac, e1, _⟩ := h.open (by rw [bys_len]; omega)
  obtain ⟨bb, bo, bc, e2, _⟩ := h1.open (by rw [bys_len]; omega)
  injection e1 with e1 _ _
  injection e2 with e2 _ _
  subst e1 e2
  exact s_some ab ao bb bo n cap n1 cap1 K xs ys (hide (by omega)) (hide hK) (hide (by omega)) (hide (by omega)) (hide hl.symm) (hide hl1.symm) (hide hb) (hide hb1) w (hide h) (hide h1)
theorem own : ownKnob Try.prog.godebug = none := by kernel_rfl
theorem laidOut : laidOutB Try.prog = true := by kernel_rfl
set_option linter.unusedVariables false in
set_option maxRecDepth 100000 in
theorem lifted (os : Os) (started : os.Started) (H : Type) (enc : TypeId × Value → H) :
    ReturnsInHanded {} Try.checked os 7 .any (Rows.batchSumsSpec.pre6 enc Try.prog Try.f7 Rows.batchSumsRow.domain false) (Rows.batchSumsSpec.post enc Try.prog Try.f7 false true false false) := by
  refine returnsInHanded_of_change (C := Try.checked) own started (by kernel_rfl) Try.func7
    (ChangeSpec.witness6 (enc := enc) (C := Try.checked) false ⟨#[], #[.slice none 0 0, .slice none 0 0], []⟩ 8 (by kernel_rfl) (by kernel_rfl) (by kernel_rfl) (by kernel_rfl)) ?_
  intro W base args ds gs before hval0 hW hcnd _
  have hval : ∀ (j : Nat) t v, Try.f7.params[j]? = some t → args[j]? = some v → Value.okWide Try.prog W .any base t v := hval0
  have hW' := hW
  obtain ⟨p, q, hA0, hV, rfl, hfz, hnd⟩ := hW
  have hA : DataW.TrodAll enc Try.prog W 0 (fun _ => true) true Try.f7.params.toList args.toList ds p := hA0
  rw [Try.params7] at hA hval
  obtain ⟨v0, vs0, d0, ds0, p0, q0, hargs, rfl, rfl, h0, r0⟩ := trodAll_cons hA
  obtain ⟨v1, vs1, d1, ds1, p1, q1, rfl, rfl, rfl, h1, r1⟩ := trodAll_cons r0
  obtain ⟨rfl, rfl, rfl⟩ := trodAll_nil r1
  obtain rfl : args = #[v0, v1] := by cases args; simp_all
  obtain ⟨rfl, rfl⟩ := trodVars_none hV
  have k0 := h0
  have lt0 : ∀ x ∈ p0, x.block < W.heap.size := by obtain ⟨m, hm⟩ := k0; exact DataW.trod_lt m _ _ _ hm
  obtain ⟨a0, len0, cap0, rfl⟩ := okWide_slice Try.underlying25 (hval 0 25 v0 rfl rfl)
  obtain ⟨l0, hr0, ii0⟩ : ∃ l : List Nat, RowG 1 W (.slice a0 len0 cap0) (bys l) ∧ Bytes l := by
    obtain ⟨fuel, hf⟩ := h0
    exact bys_open hf
  have k1 := h1
  have lt1 : ∀ x ∈ p1, x.block < W.heap.size := by obtain ⟨m, hm⟩ := k1; exact DataW.trod_lt m _ _ _ hm
  obtain ⟨a1, len1, cap1, rfl⟩ := okWide_slice Try.underlying25 (hval 1 25 v1 rfl rfl)
  obtain ⟨l1, hr1, ii1⟩ : ∃ l : List Nat, RowG 1 W (.slice a1 len1 cap1) (bys l) ∧ Bytes l := by
    obtain ⟨fuel, hf⟩ := h1
    exact bys_open hf
  clear hA0 hval0
  refine (walk a0 len0 cap0 l0 a1 len1 cap1 l1 W hr0 ii0 hr1 ii1).mono fun e W' ⟨he, bel⟩ => ?_
  subst he
  exact ⟨_, rfl, _, _, _, [], _, [], hW', trodAll_mk1 (shut_bool Try.underlying4 _), (trodAll_cons_mk (Below.trod laidOut (by kernel_rfl) (of_decide_eq_true (by kernel_rfl)) k0 bel lt0) (trodAll_cons_mk (Below.trod laidOut (by kernel_rfl) (of_decide_eq_true (by kernel_rfl)) k1 bel lt1) trodAll_mk0)), rfl, bel.frame _, fun h => by cases h⟩
theorem over : Rows.batchSumsRow.holds Try.pinned (OpenSpec.ofChange Rows.batchSumsSpec) :=
  OpenClaim.holds_of_wide 7 Try.f7 rfl rfl rfl rfl rfl rfl rfl ⟨rfl, rfl, rfl, rfl, rfl⟩ rfl rfl rfl rfl rfl (by kernel_rfl) Try.func7 (by kernel_rfl)
    (of_decide_eq_true (by kernel_rfl)) (by unfold Func.isWrapper; first | (rw [if_pos (by decide +kernel)]; kernel_rfl) | (rw [if_neg (by decide +kernel)]; exact ⟨rfl, rfl⟩))
    (fun os started H enc _ => lifted os started H enc)
theorem proved : Rows.BatchSumsSaid := over
end Go.Proofs.Ytfahgphkceilkaa.batchSums
namespace Go.Proofs.Ytfahgphkceilkaa
theorem batchSums_holds : Rows.BatchSumsSaid := batchSums.proved
end Go.Proofs.Ytfahgphkceilkaa
