/- Lines out of bytes: the program. -/
import Derived.Test.YtfahgphkceilkaaSl
import Derived.Test.YtfahgphkceilkaaPu
namespace Go.Proofs.Ytfahgphkceilkaa
open Go.RowKit
set_option linter.unusedVariables false
set_option linter.unusedSimpArgs false
theorem bd54 (p q : Int) (w : World) : Sem.run Try.prog (Instr.build 54 #[(0, .int .i64 p), (1, .int .i64 q)]) w = .ok (.agg #[.int .i64 p, .int .i64 q]) w := by kernel_rfl
theorem one_row (w : World) (p q : Int) : RowG 2 (w.alloc (.cells #[.int .i64 p, .int .i64 q] 54)) (.slice (some ⟨w.heap.size, 0, none⟩) 1 1) [liL (p, q)] := by
  have h := two_cells (Blk.new w #[.int .i64 p, .int .i64 q] 54)
  refine Or.inr ⟨_, _, _, rfl, by simp, by simp, by simp [maxLen], fun j hj t ht => ?_, fit_li [(p, q)]⟩
  obtain rfl : j = 0 := by simp at hj; omega
  match t, ht with
  | 0, _ => exact h.1
  | 1, _ => exact h.2
theorem line_mid (xs : List Nat) (k : Nat) : lineOf (xs.drop (9 * k)) = (((xs.getD (9 * k) 0 : Nat) : Int), wrap64 (valB ((xs.drop (9 * k + 1)).take 8) : Nat)) := by
  unfold lineOf
  rw [List.drop_drop]
  congr 2
  simp [List.getD]
theorem one_take {xs : List Nat} {k : Nat} (h : k < xs.length) : valB ((xs.drop k).take 1) = xs.getD k 0 := by
  rw [List.drop_eq_getElem_cons h, List.take_succ_cons, List.take_zero]
  show xs[k] + 256 * 0 = xs.getD k 0
  simp [List.getD, h]
set_option maxHeartbeats 4000000 in
theorem lines_go (x : Option Addr) (cap : Nat) (xs : List Nat) (n : Nat) (w : World) (h : RowG 1 w (.slice x xs.length cap) (bys xs)) (hb : Bytes xs) (hn : xs.length = 9 * n) (hm : n ≤ 300) : Calls Try.prog 33 #[.slice x xs.length cap] w fun e w' => ∃ u, e = .returned u ∧ GrowG 54 2 w w' u ((linesB n xs).map liL) := by
  have hcap := rowG_le h
  have HR := hide h
  have HL := hide (fun k => linesB_next k xs)
  have HM := hide (fun k => line_mid xs k)
  have HN1 := hide (fun (k : Nat) (hk : k < n) W h => num_int (.slice (loA 1 x (9 * k) cap) 1 (cap - 9 * k)) ((xs.drop (9 * k)).take 1) W h (bytes_take (bytes_drop hb _) _) (by rw [List.length_take]; omega))
  have HO := hide (fun (k : Nat) (hk : k < n) => one_take (xs := xs) (k := 9 * k) (by omega))
  have HN2 := hide (fun (k : Nat) (hk : k < n) W h => num_i64 (.slice (loA 1 x (9 * k + 1) cap) 8 (cap - (9 * k + 1))) ((xs.drop (9 * k + 1)).take 8) W h (bytes_take (bytes_drop hb _) _) (by rw [List.length_take]; omega))
  have HG8 := hide (fun k => getD_lt hb k)
  clear h hb
  generalize hlen : xs.length = len at *
  have HN9 := hide hn
  clear hn
  go_enter Try.func33, Try.ntmps33
  go_wp2_with fail
  go_loopw [3, 4] (fun o i wr => ∃ k : Nat, k ≤ n ∧ i = .int .i64 ((9 * k : Nat) : Int) ∧ Hid (GrowG 54 2 w wr o ((linesB k xs).map liL))) (fun _ i _ => len - (intOf i).toNat)
  case atStart => exact ⟨0, by omega, rfl, hide (GrowG.nil _ _ _ _ (Below.refl _ _))⟩
  case round =>
    obtain ⟨k, hk, rfl, HG⟩ := hrel
    by_cases hlt : k < n
    · have hn := unhide HN9
      have k1 : ((9 * k : Nat) : Int) < (len : Int) := by omega
      have hq9 : 9 * k + 9 ≤ len := by omega
      have hw1 : IntKind.i64.wrap (((9 * k : Nat) : Int) + 1) = ((9 * k + 1 : Nat) : Int) := by rw [wrap_in' ⟨by omega, by omega⟩]; omega
      have hw9 : IntKind.i64.wrap (((9 * k : Nat) : Int) + 9) = ((9 * k + 9 : Nat) : Int) := by rw [wrap_in' ⟨by omega, by omega⟩]; omega
      have hs1 := fun W => sl_mid x len cap (9 * k) (9 * k + 1) (by omega) (by omega) W
      rw [show 9 * k + 1 - 9 * k = 1 by omega] at hs1
      have hs2 := fun W => sl_mid x len cap (9 * k + 1) (9 * k + 9) (by omega) (by omega) W
      rw [show 9 * k + 9 - (9 * k + 1) = 8 by omega] at hs2
      have HLn := hide (unhide HL k)
      rw [unhide HM k] at HLn
      have Hn1 := hide (unhide HN1 k hlt)
      rw [unhide HO k hlt] at Hn1
      have Hn2 := hide (unhide HN2 k hlt)
      have hg8 := unhide HG8 (9 * k)
      have hR := (show RowG _ _ _ _ from unhide HR).keep (unhide HG).below
      have HR1 := hide (rowB_mid hR (show 9 * k ≤ 9 * k + 1 by omega) (show 9 * k + 1 ≤ len by omega))
      rw [show 9 * k + 1 - 9 * k = 1 by omega] at HR1
      have HR2 := hide (rowB_mid hR (show 9 * k + 1 ≤ 9 * k + 9 by omega) (show 9 * k + 9 ≤ len by omega))
      rw [show 9 * k + 9 - (9 * k + 1) = 8 by omega] at HR2
      have hwp : wrap64 ((xs.getD (9 * k) 0 : Nat) : Int) = ((xs.getD (9 * k) 0 : Nat) : Int) := wrap_in ⟨by omega, by omega⟩
      rw [hwp] at Hn1
      generalize ((xs.getD (9 * k) 0 : Nat) : Int) = p at *
      generalize wrap64 ((valB ((xs.drop (9 * k + 1)).take 8) : Nat) : Int) = q at *
      have hll := hide (show ((linesB k xs).map liL).length + [liL (p, q)].length ≤ 1000000 by rw [List.length_map, linesB_len]; simp; omega)
      have hmap : Hid ((linesB (k + 1) xs).map liL = (linesB k xs).map liL ++ [liL (p, q)]) := hide (by rw [unhide HLn, List.map_append]; rfl)
      generalize hnx : (linesB (k + 1) xs).map liL = nx at *
      have HNX := hide hnx
      clear hnx
      clear hn
      generalize (linesB k xs).map liL = now at *
      generalize (xs.drop (9 * k)).take 1 = x1 at *
      generalize (xs.drop (9 * k + 1)).take 8 = x2 at *
      generalize hj0 : 9 * k = j0 at *
      generalize hj1 : j0 + 1 = j1 at *
      generalize hj9 : j0 + 9 = j9 at *
      clear hR HL HM HN1 HO HN2 HG8 HLn hwp hg8
      go_wp2_with fail
      have bd := (Below.refl wr.heap.size wr).drew
      replace HR1 := hide ((show RowG _ _ _ _ from unhide HR1).keep bd)
      replace HR2 := hide ((show RowG _ _ _ _ from unhide HR2).keep bd)
      replace HG := hide ((unhide HG).keep bd)
      refine wp_region_held_drew (S := fun W => Below w.heap.size w W) (by kernel_rfl) (unhide HG).below (fun hS => ?_)
      generalize hV : wr.drew = V0 at *
      clear hV bd
      refine anyH_at (i := 0) (v := u3) 14 rfl (by kernel_rfl) (by kernel_rfl) (by kernel_rfl) (by kernel_rfl) (fun _ _ _ h => h) (Or.inl ⟨by kernel_rfl, fun W hS => by go_simp⟩) hS ?_
      try simp only [Act.put, List.setIfInBounds_toArray, List.set_cons_zero, List.set_cons_succ]
      refine anyH_at (i := 1) (v := .slice x len cap) 15 rfl (by kernel_rfl) (by kernel_rfl) (by kernel_rfl) (by kernel_rfl) (fun _ _ _ h => h) (Or.inl ⟨by kernel_rfl, fun W hS => by go_simp⟩) hS ?_
      try simp only [Act.put, List.setIfInBounds_toArray, List.set_cons_zero, List.set_cons_succ]
      refine anyH_at (i := 2) (v := .int .i64 (j0 : Int)) 16 rfl (by kernel_rfl) (by kernel_rfl) (by kernel_rfl) (by kernel_rfl) (fun _ _ _ h => h) (Or.inl ⟨by kernel_rfl, fun W hS => by go_simp⟩) hS ?_
      try simp only [Act.put, List.setIfInBounds_toArray, List.set_cons_zero, List.set_cons_succ]
      refine anyH_at (i := 3) (v := .int .i64 (j1 : Int)) 17 rfl (by kernel_rfl) (by kernel_rfl) (by kernel_rfl) (by kernel_rfl) (fun _ _ _ h => h) (Or.inl ⟨by kernel_rfl, fun W hS => by go_simp⟩) hS ?_
      try simp only [Act.put, List.setIfInBounds_toArray, List.set_cons_zero, List.set_cons_succ]
      refine anyH_at (i := 4) (v := .slice (loA 1 x j0 cap) 1 (cap - j0)) 18 rfl (by kernel_rfl) (by kernel_rfl) (by kernel_rfl) (by kernel_rfl) (fun _ _ _ h => h) (Or.inl ⟨by kernel_rfl, fun W hS => by have q1 : j0 ≤ j1 := (by omega); have q2 : j1 ≤ cap := (by omega); have q3 : j1 - j0 = 1 := (by omega); (go_simp; try simp [q1, q2, q3, loA])⟩) hS ?_
      try simp only [Act.put, List.setIfInBounds_toArray, List.set_cons_zero, List.set_cons_succ]
      refine anyH_at (i := 6) (v := .slice x len cap) 20 rfl (by kernel_rfl) (by kernel_rfl) (by kernel_rfl) (by kernel_rfl) (fun _ _ _ h => h) (Or.inl ⟨by kernel_rfl, fun W hS => by go_simp⟩) hS ?_
      try simp only [Act.put, List.setIfInBounds_toArray, List.set_cons_zero, List.set_cons_succ]
      refine anyH_at (i := 7) (v := .int .i64 (j1 : Int)) 21 rfl (by kernel_rfl) (by kernel_rfl) (by kernel_rfl) (by kernel_rfl) (fun _ _ _ h => h) (Or.inl ⟨by kernel_rfl, fun W hS => by go_simp⟩) hS ?_
      try simp only [Act.put, List.setIfInBounds_toArray, List.set_cons_zero, List.set_cons_succ]
      refine anyH_at (i := 8) (v := .int .i64 (j0 : Int)) 22 rfl (by kernel_rfl) (by kernel_rfl) (by kernel_rfl) (by kernel_rfl) (fun _ _ _ h => h) (Or.inl ⟨by kernel_rfl, fun W hS => by go_simp⟩) hS ?_
      try simp only [Act.put, List.setIfInBounds_toArray, List.set_cons_zero, List.set_cons_succ]
      refine anyH_at (i := 9) (v := .int .i64 (j9 : Int)) 23 rfl (by kernel_rfl) (by kernel_rfl) (by kernel_rfl) (by kernel_rfl) (fun _ _ _ h => h) (Or.inl ⟨by kernel_rfl, fun W hS => by have f1 := hw9; go_simp⟩) hS ?_
      try simp only [Act.put, List.setIfInBounds_toArray, List.set_cons_zero, List.set_cons_succ]
      refine anyH_at (i := 10) (v := .slice (loA 1 x j1 cap) 8 (cap - j1)) 24 rfl (by kernel_rfl) (by kernel_rfl) (by kernel_rfl) (by kernel_rfl) (fun _ _ _ h => h) (Or.inl ⟨by kernel_rfl, fun W hS => by have q1 : j1 ≤ j9 := (by omega); have q2 : j9 ≤ cap := (by omega); have q3 : j9 - j1 = 8 := (by omega); (go_simp; try simp [q1, q2, q3, loA])⟩) hS ?_
      try simp only [Act.put, List.setIfInBounds_toArray, List.set_cons_zero, List.set_cons_succ]
      refine wpAnyH_all (rs := [5]) (by kernel_rfl) (by simp) (AllReadyH.cons (i := 5) rfl (fun KK hK => ?_) AllReadyH.nil)
      rw [if_pos (by kernel_rfl)]
      have hQ := hide (unhide Hn1 V0 (unhide HR1))
      have hS1 := hide hS
      go_wp2_with fail
      refine (unhide hQ).mono ?_
      rintro r V1 ⟨rfl, hV1⟩
      replace hV1 := hV1.symm
      subst hV1
      clear hQ
      go_wp2_with fail
      refine hK.out _ _ (unhide hS1) (fun _ => ?_)
      clear hK hS1
      try simp only [Act.put, List.setIfInBounds_toArray, List.set_cons_zero, List.set_cons_succ]
      refine wpAnyH_all (rs := [11]) (by kernel_rfl) (by simp) (AllReadyH.cons (i := 11) rfl (fun KK hK => ?_) AllReadyH.nil)
      rw [if_pos (by kernel_rfl)]
      have hQ := hide (unhide Hn2 V0 (unhide HR2))
      have hS1 := hide hS
      go_wp2_with fail
      refine (unhide hQ).mono ?_
      rintro r V1 ⟨rfl, hV1⟩
      replace hV1 := hV1.symm
      subst hV1
      clear hQ
      go_wp2_with fail
      refine hK.out _ _ (unhide hS1) (fun _ => ?_)
      clear hK hS1
      try simp only [Act.put, List.setIfInBounds_toArray, List.set_cons_zero, List.set_cons_succ]
      refine anyH_at (i := 12) (v := .agg #[.int .i64 p, .int .i64 q]) 26 rfl (by kernel_rfl) (by kernel_rfl) (by kernel_rfl) (by kernel_rfl) (fun _ _ _ h => h) (Or.inl ⟨by kernel_rfl, fun W hS => by have f1 := bd54 p q W; go_simp⟩) hS ?_
      try simp only [Act.put, List.setIfInBounds_toArray, List.set_cons_zero, List.set_cons_succ]
      refine wpAnyH_all (rs := [13]) (by kernel_rfl) (by simp) (AllReadyH.cons (i := 13) rfl (fun KK hK => ?_) AllReadyH.nil)
      rw [if_pos (by kernel_rfl)]
      have hS1 := hide (below_via hS (below1 V0 (.cells #[.int .i64 p, .int .i64 q] 54)))
      have HRr := hide (show RowG 2 (V0.alloc (.cells #[.int .i64 p, .int .i64 q] 54)) (.slice (some ⟨V0.heap.size, 0, none⟩) 1 1) [liL (p, q)] from one_row V0 p q)
      replace HG := hide ((unhide HG).alloc (.cells #[.int .i64 p, .int .i64 q] 54))
      clear hS
      go_wp2_with fail
      refine hK.out _ _ (unhide hS1) (fun hS => ?_)
      clear hK hS1
      try simp only [Act.put, List.setIfInBounds_toArray, List.set_cons_zero, List.set_cons_succ]
      generalize V0.alloc (.cells #[.int .i64 p, .int .i64 q] 54) = V2 at *
      generalize V0.heap.size = rb at *
      refine wpAnyH_all (rs := [14]) (by kernel_rfl) (by simp) (AllReadyH.cons (i := 14) rfl (fun KK hK => ?_) AllReadyH.nil)
      rw [if_pos (by kernel_rfl)]
      have hS1 := hide hS
      have hSw := hide hS.size
      clear hS
      refine wp_pushA 54 30 2 16 (.agg #[.int .i64 0, .int .i64 0]) (by decide) (by decide) rfl Try.underlying30 info54 _ _ rfl w V2 u3 (.slice (some ⟨rb, 0, none⟩) 1 1) now [liL (p, q)] (unhide HG) rfl rfl (unhide HRr) (unhide hll) ?_
      intro u3 V3 hg _
      rw [← unhide hmap] at hg
      replace HG := hide hg
      replace hS1 := hide hg.below
      clear hg HRr hll hmap
      refine hK.out _ _ (unhide hS1) (fun hS => ?_)
      clear hK hS1
      try simp only [Act.put, List.setIfInBounds_toArray, List.set_cons_zero, List.set_cons_succ]
      refine wpAnyH_all (rs := [15]) (by kernel_rfl) (by simp) (AllReadyH.cons (i := 15) rfl (fun KK hK => ?_) AllReadyH.nil)
      rw [if_pos (by kernel_rfl)]
      have hS1 := hide hS
      clear hS
      go_wp2_with fail
      refine hK.out _ _ (unhide hS1) (fun hS => ?_)
      clear hK hS1
      try simp only [Act.put, List.setIfInBounds_toArray, List.set_cons_zero, List.set_cons_succ]
      refine wpAnyH_done (by kernel_rfl) ?_ _
      clear hS
      have hk9 : 9 * (k + 1) = j9 := by omega
      go_wp2_with fail
      go_roundw
      case rel => exact ⟨k + 1, by omega, by rw [hk9], by rw [unhide HNX]; exact HG⟩
      case measure => simp [intOf]; omega
    · obtain rfl : k = n := by omega
      have k2 : ¬ ((9 * k : Nat) : Int) < (len : Int) := by have := unhide HN9; omega
      go_wp2_with fail
      go_ret
      exact ⟨_, rfl, unhide HG⟩
theorem lines_any (v : Value) (xs : List Nat) (n : Nat) (w : World) (h : RowG 1 w v (bys xs)) (hb : Bytes xs) (hn : xs.length = 9 * n) (hm : n ≤ 300) : Calls Try.prog 33 #[v] w fun e w' => ∃ u, e = .returned u ∧ GrowG 54 2 w w' u ((linesB n xs).map liL) := by
  obtain ⟨x, cap, rfl⟩ := rowG_slice h
  rw [bys_len] at h ⊢
  exact lines_go x cap xs n w h hb hn hm
end Go.Proofs.Ytfahgphkceilkaa
