/- The document's Crash. -/
import Derived.Test.YtdbefnghljjieaaRs
namespace Go.Proofs.Ytdbefnghljjieaa
open Go.RowKit
set_option linter.unusedVariables false
set_option linter.unusedSimpArgs false
set_option maxHeartbeats 4000000 in
set_option maxRecDepth 20000 in
theorem rcrash_st (bs bp : Nat) (vq : Value) (A : Stt) (x : Option Addr) (n xc : Nat) (l : List Nat) (w : World) (h : Sto LR w bs bp vq A) (hr : RowG 1 w (.slice x n xc) (l.map fun n : Nat => [Value.int .u8 (n : Int)])) (hb : ∀ x ∈ l, x < 256) (hrb : ∀ y, x = some y → 0 < n → y.block ≠ bs ∧ y.block ≠ bp) : Calls Try.prog 16 #[.pointer (some ⟨bs, 0, none⟩), .slice x n xc] w fun e w' => e = .returned (.tuple #[]) ∧ Sto LR w' bs bp (.slice none 0 0) (crashS (fateN l) A) ∧ But (fun k => k = bs ∨ k = bp) w w' := by
  obtain ⟨a, cap, e0⟩ := own_form h.q
  subst e0
  have c1' := h.s.at 1 _ rfl
  have HK := hide h
  have HN := hide (But.refl (fun k => k = bs ∨ k = bp) w)
  have HO := hide h.q
  have hW := hide h.good.w
  have Hn3 := hide h.n3
  have n1 := hide h.n1
  have hn4 := h.good.n2
  have HR := hide hr
  have Hb := hide hb
  have Hrb := hide hrb
  clear hr hb hrb
  clear h
  have HT := hide (fun (k : Nat) q hk => runS_next (fateN l) A.W A (k := k) (q := q) hk)
  have HL := hide (fun k => runS_len (fateN l) (A.W.take k) 0 A)
  have HE := hide (show runS (fateN l) 0 (A.W.take A.W.length) A = runS (fateN l) 0 A.W A by rw [List.take_length])
  have HI := hide (fun (k : Nat) (hk : k < A.W.length) => (⟨A.W[k], by simp [hk]⟩ : ∃ q, A.W[k]? = some q))
  have HWl := hide (fun k => runS_W (fateN l) (A.W.take k) 0 A)
  generalize hlen : A.W.length = len at *
  have HLen := hide hlen
  clear hlen
  go_enter Try.func16, Try.ntmps16
  go_wp2_with fail
  clear c1'
  go_loopw [12] (fun i wr => ∃ k : Nat, k ≤ len ∧ i = .int .i64 (k : Int) ∧ Hid (Sto LR wr bs bp (.slice a len cap) (runS (fateN l) 0 (A.W.take k) A)) ∧ Hid (wr.ownsRow 0 66 65 (.slice a len cap) len (A.W.map wrV).flatten) ∧ Hid (But (fun k => k = bs ∨ k = bp) w wr) ∧ Hid (RowG 1 wr (.slice x n xc) (l.map fun n : Nat => [Value.int .u8 (n : Int)]))) (fun i _ => len - (intOf i).toNat)
  case atStart => exact ⟨0, by omega, rfl, HK, HO, HN, HR⟩
  case round =>
    obtain ⟨k, hk, rfl, HK, HO, HN, HR⟩ := hrel
    by_cases hlt : k < len
    · obtain ⟨q, hq⟩ := unhide HI k hlt
      have hqa := unhide hW q (List.mem_of_getElem? hq)
      have hj := hide (Nat.lt_of_lt_of_eq hqa.1 (unhide HL k).symm)
      have hq2 := hide hqa.2
      obtain ⟨g, cap', e1, _⟩ := own_slice (unhide HO) (by omega)
      injection e1 with e1 _ e2
      subst e1 e2
      have HG := hide (own_item (j := k) (by rw [unhide HLen]; exact unhide HO) (fun q hq => ((unhide hW) q hq).2) hq)
      have hw := hide (wrV_len q)
      rw [hqa.2] at hw
      have HT1 := hide (unhide HT k q hq)
      have hlt1 : (k : Int) < (len : Int) := by omega
      clear hq hqa HI
      have hwr : IntKind.i64.wrap ((k : Int) + 1) = ((k + 1 : Nat) : Int) := by rw [IntKind.wrap_i64]; omega
      have HWk := hide (unhide HWl k)
      generalize hA1 : runS (fateN l) 0 (A.W.take k) A = A1 at *
      clear hA1
      generalize hA2 : runS (fateN l) 0 (A.W.take (k + 1)) A = A2 at *
      have HA2 := hide hA2
      clear hA2
      have hbs := (unhide HK).s.lt
      have hbp := (unhide HK).p.lt
      have hgl := ((unhide HO).lt g rfl).2
      have hw0 := (unhide HN).size
      go_wp2_with (first | refine load_rg rfl 66 _ rfl (unhide HG) rfl row66 size66 (unhide hw) ?_ | refine alloc_rg rfl 66 rfl al66 ?_)
      intro W HX hb
      replace HX := hide HX
      replace HK := hide ((unhide HK).below hb)
      replace HO := hide (own_keep (unhide HO) (but_of hb (fun _ => False)) (fun _ _ c => c))
      replace HN := hide ((unhide HN).trans (but_of hb (fun k => k = bs ∨ k = bp)) (fun x hx => Or.inl hx))
      have HRl := hide (row_lt (unhide HR))
      replace HR := hide ((unhide HR).keep hb)
      have hw1 := hb.size
      clear hb
      generalize hbxe : wr.heap.size = bx at *
      go_wp2_with (refine store_all (l := wrV q) rfl 66 _ _ rfl (unhide HX) rfl rfl size66 (by rw [List.size_toArray, wrV_len, zs_len]) (unhide hw) (one_wrV q) ?_)
      intro W2 HX2 hb2
      replace HX := hide HX2
      replace HK := hide ((unhide HK).keep hb2 (fun k hk c => by
        rcases hk with e | e | e
        · omega
        · omega
        · have e2 : g = k := by simpa [Value.ownBlock] using e
          omega))
      replace HO := hide (own_keep (unhide HO) hb2 (fun k e c => by
        have e2 : g = k := by simpa [Value.ownBlock] using e
        omega))
      replace HN := hide ((unhide HN).trans hb2 (fun x hx => Or.inr (by omega)))
      replace HR := hide (row_but' (unhide HR) hb2 (fun y e h0 c => by have := unhide HRl y e h0; omega))
      clear HX2 hb2
      have hnl : n = l.length := by rw [rowG_len (unhide HR), List.length_map]
      have hcell : k < n → ∃ b off, x = some ⟨b, off, none⟩ ∧ W2.cell? ⟨b, off + k, none⟩ = some (.int .u8 (l.getD k 0 : Nat)) ∧ l.getD k 0 < 256 := fun hk => by
        obtain ⟨b, off, c, e, _⟩ := (unhide HR).open (by rw [List.length_map]; omega)
        injection e with e1 e2 e3
        have hR2 := unhide HR
        rw [e1] at hR2
        have hc := hR2.cells (j := k) (t := 0) (by rw [List.length_map]; omega) (by decide)
        have hg : getG (l.map fun n : Nat => [Value.int .u8 (n : Int)]) k 0 = .int .u8 (l.getD k 0 : Nat) := by simp [getG, List.getD, show k < l.length by omega]
        rw [hg, Nat.mul_one, Nat.add_zero] at hc
        exact ⟨b, off, e1, hc, by rw [show l.getD k 0 = l[k]'(by omega) by simp [List.getD, show k < l.length by omega]]; exact unhide Hb _ (List.getElem_mem _)⟩
      obtain ⟨fate, hfate⟩ : ∃ f : Nat, f = fateN l k := ⟨_, rfl⟩
      have hf3 : fate < 3 := by rw [hfate, fateN]; exact Nat.mod_lt _ (by decide)
      rw [← hfate] at HT1
      have HFt := hide hfate
      by_cases hkn : k < n
      · obtain ⟨b, off, rfl, hc, hx⟩ := hcell hkn
        have hkn1 : (k : Int) < (n : Int) := by omega
        have hm : (((l.getD k 0 : Nat) : Int)).tmod 3 = (fate : Int) := by rw [Int.tmod_eq_emod_of_nonneg (by omega), hfate, fateN]; omega
        have hm2 : IntKind.u8.wrap (fate : Int) = (fate : Int) := by
          simp [IntKind.wrap, IntKind.bits, IntKind.signed]
          omega
        clear hcell hfate hnl HRl
        generalize l.getD k 0 = y at *
        replace hx := hide hx
        match fate, hf3 with
        | 1, _ =>
          have hm3 : ((1 : Nat) : Int) = 1 := rfl
          go_wp2_with fail
          refine wp_region_noPanic ?_
          refine wp_region_held_drew (S := fun W => Blk W bs #[.slice (some ⟨bp, 0, none⟩) A1.L.length A1.L.length, .slice (some ⟨g, 0, none⟩) len cap] 44 ∧ Blk W bx (wrV q).toArray 66) (by kernel_rfl) ⟨(unhide HK).s, unhide HX⟩ (fun hS => ?_)
          replace HN := hide (but_drew (unhide HN))
          replace HK := hide ((unhide HK).below (Below.refl _ _).drew)
          replace HO := hide (own_keep (unhide HO) (but_of (Below.refl _ _).drew (fun _ => False)) (fun _ _ c => c))
          replace HR := hide ((unhide HR).keep (Below.refl _ _).drew)
          generalize W2.drew = W3 at *
          refine anyH_at (i := 0) (v := .pointer (some ⟨bs, 0, none⟩)) 29 rfl (by kernel_rfl) (by kernel_rfl) (by kernel_rfl) (by kernel_rfl) (fun _ _ _ h => h) (Or.inl ⟨by kernel_rfl, fun W hS => by go_simp⟩) hS ?_
          try simp only [Act.put, List.setIfInBounds_toArray, List.set_cons_zero, List.set_cons_succ]
          refine anyH_at (i := 1) (v := .pointer (some ⟨bs, 0, none⟩)) 30 rfl (by kernel_rfl) (by kernel_rfl) (by kernel_rfl) (by kernel_rfl) (fun _ _ _ h => h) (Or.inl ⟨by kernel_rfl, fun W hS => by go_simp⟩) hS ?_
          try simp only [Act.put, List.setIfInBounds_toArray, List.set_cons_zero, List.set_cons_succ]
          refine anyH_at (i := 2) (v := .pointer (some ⟨bs, 0, none⟩)) 31 rfl (by kernel_rfl) (by kernel_rfl) (by kernel_rfl) (by kernel_rfl) (fun _ _ _ h => h) (Or.inl ⟨by kernel_rfl, fun W hS => by go_simp⟩) hS ?_
          try simp only [Act.put, List.setIfInBounds_toArray, List.set_cons_zero, List.set_cons_succ]
          refine anyH_at (i := 3) (v := .slice (some ⟨bp, 0, none⟩) A1.L.length A1.L.length) 32 rfl (by kernel_rfl) (by kernel_rfl) (by kernel_rfl) (by kernel_rfl) (fun _ _ _ h => h) (Or.inl ⟨by kernel_rfl, fun W hS => by have c0 := hS.1.at 0 _ rfl; go_simp⟩) hS ?_
          try simp only [Act.put, List.setIfInBounds_toArray, List.set_cons_zero, List.set_cons_succ]
          refine anyH_at (i := 4) (v := .pointer (some ⟨bx, 0, none⟩)) 33 rfl (by kernel_rfl) (by kernel_rfl) (by kernel_rfl) (by kernel_rfl) (fun _ _ _ h => h) (Or.inl ⟨by kernel_rfl, fun W hS => by go_simp⟩) hS ?_
          try simp only [Act.put, List.setIfInBounds_toArray, List.set_cons_zero, List.set_cons_succ]
          refine anyH_at (i := 5) (v := .int .i64 (q.1 : Int)) 34 rfl (by kernel_rfl) (by kernel_rfl) (by kernel_rfl) (by kernel_rfl) (fun _ _ _ h => h) (Or.inl ⟨by kernel_rfl, fun W hS => by have c1 : W.cell? ⟨bx, 0, none⟩ = some (.int .i64 (q.1 : Int)) := range_head hS.2.rg; go_simp⟩) hS ?_
          try simp only [Act.put, List.setIfInBounds_toArray, List.set_cons_zero, List.set_cons_succ]
          refine anyH_at (i := 6) (v := .pointer (some ⟨bx, 1, none⟩)) 35 rfl (by kernel_rfl) (by kernel_rfl) (by kernel_rfl) (by kernel_rfl) (fun _ _ _ h => h) (Or.inl ⟨by kernel_rfl, fun W hS => by go_simp⟩) hS ?_
          try simp only [Act.put, List.setIfInBounds_toArray, List.set_cons_zero, List.set_cons_succ]
          refine anyH_at (i := 7) (v := .agg (byv q.2).toArray) 36 rfl (by kernel_rfl) (by kernel_rfl) (by kernel_rfl) (by kernel_rfl) (fun _ _ _ h => h) (ylo_rg (by kernel_rfl) 37 _ rfl rfl (fun W hS => by have r := range_tail hS.2.rg; rwa [Nat.zero_add] at r) row37 size37 (by rw [byv_len]; exact unhide hq2)) hS ?_
          try simp only [Act.put, List.setIfInBounds_toArray, List.set_cons_zero, List.set_cons_succ]
          refine anyH_at (i := 8) (v := .agg _) 37 rfl (by kernel_rfl) (by kernel_rfl) (by kernel_rfl) (by kernel_rfl) (fun _ _ _ h => h) (yl_build (by kernel_rfl) 68 _ rfl (l := [(0, bk q.2)]) (by kernel_rfl) (bd68a q.2 (unhide hq2))) hS ?_
          try simp only [Act.put, List.setIfInBounds_toArray, List.set_cons_zero, List.set_cons_succ]
          refine anyH_at (i := 9) (v := .pointer (some ⟨bp, q.1 * 65, none⟩)) 38 rfl (by kernel_rfl) (by kernel_rfl) (by kernel_rfl) (by kernel_rfl) (fun _ _ _ h => h) (Or.inl ⟨by kernel_rfl, fun W hS => by have hq1 := unhide hj; go_simp⟩) hS ?_
          try simp only [Act.put, List.setIfInBounds_toArray, List.set_cons_zero, List.set_cons_succ]
          have HP := hide (unhide HK).p
          have Hroom := hide ((unhide HK).room (unhide hj))
          refine anyH_storem (l := rbV (some q.2)) (b := bp) (o := q.1 * 65) (i := 10) (by kernel_rfl) rfl rfl 68 _ _ rfl (unhide HP) (by kernel_rfl) (by kernel_rfl) size68 (unhide Hroom) (rbV_len _ (unhide hq2)) (one_rbV _) (fun W kW kb => ?_)
          refine ⟨⟨kb.blk hS.1 (unhide n1), kb.blk hS.2 (by omega)⟩, ?_⟩
          refine wpAnyH_done (by kernel_rfl) ?_ _
          refine noPanic_out ?_
          clear hS
          replace kW := hide kW
          have HQ := hide ((unhide HK).put (x := (some q.2)) (unhide hj) (unhide hq2) (unhide kW) kb)
          replace HN := hide ((unhide HN).trans kb (fun x hx => Or.inl (Or.inr hx)))
          replace HO := hide (own_keep (unhide HO) kb (fun k e c => unhide Hn3 (by rw [e, c])))
          replace HR := hide (row_but' (unhide HR) kb (fun y e h0 c => (unhide Hrb y e h0).2 c))
          clear kb kW HP Hroom HK
          try simp only [Act.put, List.setIfInBounds_toArray, List.set_cons_zero, List.set_cons_succ]
          go_wp2_with fail
          go_roundw
          case rel => exact ⟨k + 1, by omega, by go_num, by rw [unhide HA2, unhide HT1, setL, if_pos rfl]; exact HQ, HO, HN, HR⟩
          case measure => simp [intOf]; omega
        | 2, _ =>
          go_wp2_with fail
          refine wp_region_noPanic ?_
          refine wp_region_held_drew (S := fun W => Blk W bs #[.slice (some ⟨bp, 0, none⟩) A1.L.length A1.L.length, .slice (some ⟨g, 0, none⟩) len cap] 44 ∧ Blk W bx (wrV q).toArray 66) (by kernel_rfl) ⟨(unhide HK).s, unhide HX⟩ (fun hS => ?_)
          replace HN := hide (but_drew (unhide HN))
          replace HK := hide ((unhide HK).below (Below.refl _ _).drew)
          replace HO := hide (own_keep (unhide HO) (but_of (Below.refl _ _).drew (fun _ => False)) (fun _ _ c => c))
          replace HR := hide ((unhide HR).keep (Below.refl _ _).drew)
          generalize W2.drew = W3 at *
          refine anyH_at (i := 0) (v := .pointer (some ⟨bs, 0, none⟩)) 41 rfl (by kernel_rfl) (by kernel_rfl) (by kernel_rfl) (by kernel_rfl) (fun _ _ _ h => h) (Or.inl ⟨by kernel_rfl, fun W hS => by go_simp⟩) hS ?_
          try simp only [Act.put, List.setIfInBounds_toArray, List.set_cons_zero, List.set_cons_succ]
          refine anyH_at (i := 1) (v := .pointer (some ⟨bs, 0, none⟩)) 42 rfl (by kernel_rfl) (by kernel_rfl) (by kernel_rfl) (by kernel_rfl) (fun _ _ _ h => h) (Or.inl ⟨by kernel_rfl, fun W hS => by go_simp⟩) hS ?_
          try simp only [Act.put, List.setIfInBounds_toArray, List.set_cons_zero, List.set_cons_succ]
          refine anyH_at (i := 2) (v := .pointer (some ⟨bs, 0, none⟩)) 43 rfl (by kernel_rfl) (by kernel_rfl) (by kernel_rfl) (by kernel_rfl) (fun _ _ _ h => h) (Or.inl ⟨by kernel_rfl, fun W hS => by go_simp⟩) hS ?_
          try simp only [Act.put, List.setIfInBounds_toArray, List.set_cons_zero, List.set_cons_succ]
          refine anyH_at (i := 3) (v := .slice (some ⟨bp, 0, none⟩) A1.L.length A1.L.length) 44 rfl (by kernel_rfl) (by kernel_rfl) (by kernel_rfl) (by kernel_rfl) (fun _ _ _ h => h) (Or.inl ⟨by kernel_rfl, fun W hS => by have c0 := hS.1.at 0 _ rfl; go_simp⟩) hS ?_
          try simp only [Act.put, List.setIfInBounds_toArray, List.set_cons_zero, List.set_cons_succ]
          refine anyH_at (i := 4) (v := .pointer (some ⟨bx, 0, none⟩)) 45 rfl (by kernel_rfl) (by kernel_rfl) (by kernel_rfl) (by kernel_rfl) (fun _ _ _ h => h) (Or.inl ⟨by kernel_rfl, fun W hS => by go_simp⟩) hS ?_
          try simp only [Act.put, List.setIfInBounds_toArray, List.set_cons_zero, List.set_cons_succ]
          refine anyH_at (i := 5) (v := .int .i64 (q.1 : Int)) 46 rfl (by kernel_rfl) (by kernel_rfl) (by kernel_rfl) (by kernel_rfl) (fun _ _ _ h => h) (Or.inl ⟨by kernel_rfl, fun W hS => by have c1 : W.cell? ⟨bx, 0, none⟩ = some (.int .i64 (q.1 : Int)) := range_head hS.2.rg; go_simp⟩) hS ?_
          try simp only [Act.put, List.setIfInBounds_toArray, List.set_cons_zero, List.set_cons_succ]
          refine anyH_at (i := 6) (v := .agg _) 47 rfl (by kernel_rfl) (by kernel_rfl) (by kernel_rfl) (by kernel_rfl) (fun _ _ _ h => h) (yl_build (by kernel_rfl) 68 _ rfl (l := [(1, .bool true)]) (by kernel_rfl) bd68b) hS ?_
          try simp only [Act.put, List.setIfInBounds_toArray, List.set_cons_zero, List.set_cons_succ]
          refine anyH_at (i := 7) (v := .pointer (some ⟨bp, q.1 * 65, none⟩)) 48 rfl (by kernel_rfl) (by kernel_rfl) (by kernel_rfl) (by kernel_rfl) (fun _ _ _ h => h) (Or.inl ⟨by kernel_rfl, fun W hS => by have hq1 := unhide hj; go_simp⟩) hS ?_
          try simp only [Act.put, List.setIfInBounds_toArray, List.set_cons_zero, List.set_cons_succ]
          have HP := hide (unhide HK).p
          have Hroom := hide ((unhide HK).room (unhide hj))
          refine anyH_storem (l := rbV none) (b := bp) (o := q.1 * 65) (i := 8) (by kernel_rfl) rfl rfl 68 _ _ rfl (unhide HP) (by kernel_rfl) (by kernel_rfl) size68 (unhide Hroom) (rbV_len _ trivial) (one_rbV _) (fun W kW kb => ?_)
          refine ⟨⟨kb.blk hS.1 (unhide n1), kb.blk hS.2 (by omega)⟩, ?_⟩
          refine wpAnyH_done (by kernel_rfl) ?_ _
          refine noPanic_out ?_
          clear hS
          replace kW := hide kW
          have HQ := hide ((unhide HK).put (x := none) (unhide hj) trivial (unhide kW) kb)
          replace HN := hide ((unhide HN).trans kb (fun x hx => Or.inl (Or.inr hx)))
          replace HO := hide (own_keep (unhide HO) kb (fun k e c => unhide Hn3 (by rw [e, c])))
          replace HR := hide (row_but' (unhide HR) kb (fun y e h0 c => (unhide Hrb y e h0).2 c))
          clear kb kW HP Hroom HK
          try simp only [Act.put, List.setIfInBounds_toArray, List.set_cons_zero, List.set_cons_succ]
          go_wp2_with fail
          go_roundw
          case rel => exact ⟨k + 1, by omega, by go_num, by rw [unhide HA2, unhide HT1, setL, if_neg (by decide), if_pos rfl]; exact HQ, HO, HN, HR⟩
          case measure => simp [intOf]; omega
        | 0, _ =>
          go_wp2_with fail
          go_roundw
          case rel => exact ⟨k + 1, by omega, by go_num, by rw [unhide HA2, unhide HT1, setL, if_neg (by decide), if_neg (by decide)]; exact HK, HO, HN, HR⟩
          case measure => simp [intOf]; omega
      · have hkn1 : (n : Int) ≤ (k : Int) := by omega
        have hf0 : fate = 0 := by rw [hfate, fateN, List.getD, List.getElem?_eq_none (by omega)]; rfl
        subst hf0
        clear hcell hfate hnl HRl
        go_wp2_with fail
        go_roundw
        case rel => exact ⟨k + 1, by omega, by go_num, by rw [unhide HA2, unhide HT1, setL, if_neg (by decide), if_neg (by decide)]; exact HK, HO, HN, HR⟩
        case measure => simp [intOf]; omega
    · obtain rfl : k = len := by omega
      rw [unhide HE] at HK
      have c1 := (unhide HK).s.at 1 _ rfl
      have cf := (unhide HK).s.fz 1
      have HF := hide ((unhide HK).clear)
      rw [run_LW (fateN l) A] at HF
      have HNf := hide ((unhide HN).trans (but_setCell wr bs 1 (.slice none 0 0)) (fun x hx => Or.inl (Or.inl hx)))
      clear HK HN
      go_wp2_with fail
      go_end0
      exact ⟨rfl, unhide HF, unhide HNf⟩
end Go.Proofs.Ytdbefnghljjieaa
