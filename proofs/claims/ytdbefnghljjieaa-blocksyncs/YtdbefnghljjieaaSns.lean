/- Proved here: BlockSyncs: a sync behind each write leaves nothing that a crash could take; what is written last on a block is it. No condition. -/
import Derived.Test.YtdbefnghljjieaaPl
namespace Go.Proofs.Ytdbefnghljjieaa.blockSyncs
open Go.ChangeShapes Go.WideShapes Go.ChangeAt Go.RowKit
set_option linter.unusedVariables false
set_option linter.unusedSimpArgs false
structure SI (A : Stt) (want : List (List Nat)) : Prop extends RI A want where
  w : A.W = []
theorem SI.new : SI (newS 30) zs30 := ⟨RI.new, rfl⟩
theorem SI.yes {A : Stt} {want : List (List Nat)} (h : SI A want) {o : Opx} (h1 : o.k = 1) (h0 : doE A o = 0) : ∃ k : Nat, o.at_ = (k : Int) ∧ k < 30 ∧ SI (crashS (fun _ => 1) (doS A o)) (want.set k (ofB o.B)) ∧ ((doS A o).W.length : Int) = 1 := by
  obtain ⟨k, hk, h30, hr⟩ := h.toRI.yes h1 h0
  refine ⟨k, hk, h30, ⟨hr.sync, crashS_W _ _⟩, ?_⟩
  rw [doE, if_pos h1] at h0
  rw [doS, if_pos h1, wrS, if_pos h0, h.w]
  rfl
theorem SI.no {A : Stt} {want : List (List Nat)} (h : SI A want) {o : Opx} (h1 : o.k = 1) (h0 : ¬ doE A o = 0) : SI (crashS (fun _ => 1) (doS A o)) want ∧ ((doS A o).W.length : Int) = 0 := by
  rw [doE, if_pos h1] at h0
  have e : doS A o = A := by rw [doS, if_pos h1, wrS, if_neg h0]
  rw [e]
  exact ⟨⟨h.toRI.sync, crashS_W _ _⟩, by rw [h.w]; rfl⟩
theorem SI.crash {A : Stt} {want : List (List Nat)} (h : SI A want) (l : List Nat) : SI (crashS (fateN l) A) want := by
  have e : crashS (fateN l) A = A := by
    obtain ⟨L, W⟩ := A
    obtain rfl : W = [] := h.w
    rfl
  rw [e]; exact h
set_option maxHeartbeats 8000000 in
set_option maxRecDepth 20000 in
theorem walk (v : Value) (l : List Opx) (w : World) (h : Ops w v l) : Calls Try.prog 7 #[v] w fun r w' => r = .returned (.bool true) ∧ Below w.heap.size w w' := by
  obtain ⟨x, cap, rfl⟩ := rowG_slice h.row
  rw [List.length_map] at *
  have hmx := rowG_max h.row
  rw [List.length_map] at hmx
  have HC : Hid (∀ k o, l[k]? = some o → ∀ W, Below w.heap.size w W → ∃ b off, x = some ⟨b, off, none⟩ ∧ W.rangeAt b (off + k * 4) (opL o)) := hide (fun k o hk W hb => row_range (h.row.keep hb) (by rw [List.getElem?_map, hk]; rfl))
  have HI := hide (fun (k : Nat) (hk : k < l.length) => (⟨l[k], by simp [hk]⟩ : ∃ o, l[k]? = some o))
  have HOk : Hid (∀ o ∈ l, ∀ W, Below w.heap.size w W → OpOk W o) := hide (fun o ho W hb => (h.ok o ho).keep hb)
  have HBl : Hid (∀ o ∈ l, ∀ y, o.xf = some y → 0 < o.nf → y.block < w.heap.size) := hide (fun o ho => row_lt (h.ok o ho).f)
  have HS := hide h
  clear h
  generalize hlen : l.length = len at *
  replace hlen := hide hlen
  go_enter Try.func7, Try.ntmps7
  go_wp2_with fail
  refine (alive_any _).mono ?_
  rintro e w1 ⟨rfl, hb⟩
  have HB := hide hb
  clear hb
  go_wp2_with fail
  rw [← unhide hlen]
  refine (great_any _ l _ (by rw [unhide hlen]; exact (unhide HS).keep (unhide HB))).mono ?_
  rintro e w2 ⟨t, rfl, hs, hb⟩
  replace HB := hide (below_via (unhide HB) hb)
  clear hb
  rw [unhide hlen]
  cases t with
  | true =>
    go_wp2_with fail
    go_ret
    exact ⟨rfl, unhide HB⟩
  | false =>
  have HSm := hide (hs rfl)
  clear hs HS
  go_wp2_with fail
  refine (newx 30 (fun k => k < w.heap.size) _ (by decide) (by decide) (fun k h => Nat.lt_of_lt_of_le h (unhide HB).size)).mono ?_
  rintro e w3 ⟨p, rfl, hH, hb⟩
  have HH := hide hH
  replace HB := hide (below_via (unhide HB) hb)
  clear hb hH
  go_wp2_with (refine alloc_rg (l := bks zs30) rfl 53 rfl al53 ?_)
  intro W HW hb
  have HW := hide HW
  replace HH := hide (((unhide HH).more (Nat.le_refl _)).below hb)
  have hbw := (unhide HB).size
  replace HB := hide (below_via (unhide HB) hb)
  clear hb
  generalize hbwe : w3.heap.size = bw at *
  go_wp2_with fail
  clear hbwe
  go_loopw [22] (fun i wr => ∃ (k : Nat) (A : Stt) (want : List (List Nat)), k ≤ len ∧ i = .int .i64 (k : Int) ∧ Hid (HasX LP wr p A (fun j => j < w.heap.size ∨ j = bw)) ∧ Hid (Blk wr bw (bks want).toArray 53) ∧ Hid (Below w.heap.size w wr) ∧ Hid (SI A want)) (fun i _ => len - (intOf i).toNat)
  case atStart => exact ⟨0, _, _, by omega, rfl, HH, HW, HB, hide SI.new⟩
  case round =>
    obtain ⟨k, A, want, hk, rfl, HH, HW, HB, HV⟩ := hrel
    by_cases hlt : k < len
    · obtain ⟨o, ho⟩ := unhide HI k hlt
      obtain ⟨b, off, rfl, hr⟩ := unhide HC k o ho wr (unhide HB)
      have HR := hide hr
      have hom := List.mem_of_getElem? ho
      have HO := hide (unhide HOk o hom)
      have HF := hide (unhide HBl o hom)
      have k1 : (k : Int) < (len : Int) := by omega
      have hwr : IntKind.i64.wrap ((k : Int) + 1) = ((k + 1 : Nat) : Int) := by rw [IntKind.wrap_i64]; omega
      have h4 : (opL o).length = 4 := rfl
      replace h4 := hide h4
      have hbwl := (show Blk _ _ _ _ from unhide HW).lt
      have hL64 := hide (unhide HV).l
      clear hr ho hom
      replace HC := hide HC
      replace HI := hide HI
      replace HOk := hide HOk
      replace HBl := hide HBl
      go_wp2_with (first | refine load_rg (l := opL o) rfl 34 _ rfl (unhide HR) rfl row34 size34 (unhide h4) ?_ | refine alloc_rg rfl 34 rfl al34 ?_)
      intro W HX hb
      replace HX := hide HX
      replace HH := hide ((unhide HH).more (Nat.le_refl _) |>.below hb)
      replace HW := hide ((show Blk _ _ _ _ from unhide HW).keep hb)
      have hn0 := (unhide HB).size
      replace HB := hide (below_via (unhide HB) hb)
      have hbol := (show Blk _ _ _ _ from unhide HX).lt
      clear hb
      generalize wr.heap.size = bo at *
      go_wp2_with (refine store_all (l := opL o) rfl 34 _ _ rfl (unhide HX) rfl rfl size34 rfl rfl (one_opL o) ?_)
      intro W2 HX2 hb2
      replace HH := hide ((unhide HH).keep hb2 (Or.inr rfl))
      replace HW := hide (hb2.blk (show Blk _ _ _ _ from unhide HW) (by omega))
      replace HB := hide ((unhide HB).trans (hb2.below (fun k e => by omega) (by omega)))
      replace HX := hide HX2
      have hbo2 : bo < W2.heap.size := (show Blk _ _ _ _ from unhide HX).lt
      have HXl := hide (show ∀ j, (fun j => (j < w.heap.size ∨ j = bw) ∨ j = bo) j → j < W2.heap.size from fun j hj => by rcases hj with (hj | hj) | hj <;> omega)
      clear HX2 hb2 HR
      have c0 : W2.cell? ⟨bo, 0, none⟩ = some (.int .i64 o.k) := (show Blk _ _ _ _ from unhide HX).rg 0 _ rfl
      by_cases hk1 : o.k = 1
      · have c0' := c0
        rw [hk1] at c0
        go_wp2_with (refine load_rg (l := opL o) rfl 34 _ rfl (show Blk _ _ _ _ from unhide HX).rg rfl row34 size34 (unhide h4) ?_)
        refine (dox p A _ _ (unhide HH) (unhide HXl) o (unhide HO _ (unhide HB)) (fun y e h0 => Or.inl (Or.inl (unhide HF y e h0)))).mono ?_
        rintro e W3 ⟨rfl, hH, hkp⟩
        replace HH := hide hH
        replace HW := hide (hkp.blk (show Blk _ _ _ _ from unhide HW) (Or.inl (Or.inr rfl)))
        replace HX := hide (hkp.blk (show Blk _ _ _ _ from unhide HX) (Or.inr rfl))
        replace HB := hide ((unhide HB).trans (hkp.below (fun j hj => Or.inl (Or.inl hj))))
        replace HXl := hide (hkp.lt (unhide HXl))
        clear hH hkp c0 c0'
        by_cases hy0 : doE A o = 0
        · obtain ⟨kk, hkk, hk30, hV2, hW1⟩ := (unhide HV).yes hk1 hy0
          have HV2 := hide hV2
          have HWn := hide hW1
          rw [hy0]
          replace hkk := hide hkk
          clear hV2 hy0 hW1
          replace hk1 := hide hk1
          replace hk30 := hide hk30
          go_wp2_with fail
          replace hk30 := unhide hk30
          refine wp_region_noPanic ?_
          refine wp_region_held_drew (S := fun V => Blk V bo (opL o).toArray 34) (by kernel_rfl) (unhide HX) (fun hS => ?_)
          replace HH := hide ((unhide HH).below (Below.refl _ _).drew)
          replace HW := hide ((show Blk _ _ _ _ from unhide HW).keep (Below.refl _ _).drew)
          replace HB := hide (unhide HB).drew
          have hw3 : W3.heap.size ≤ W3.drew.heap.size := Nat.le_refl _
          have hbw3 := hide (show Blk _ _ _ _ from unhide HW).lt
          generalize W3.drew = V0 at *
          refine anyH_at (i := 0) (v := .pointer (some ⟨bo, 1, none⟩)) 34 rfl (by kernel_rfl) (by kernel_rfl) (by kernel_rfl) (by kernel_rfl) (fun _ _ _ h => h) (Or.inl ⟨by kernel_rfl, fun W hS => by go_simp⟩) hS ?_
          try simp only [Act.put, List.setIfInBounds_toArray, List.set_cons_zero, List.set_cons_succ]
          refine anyH_at (i := 1) (v := .int .i64 (kk : Int)) 35 rfl (by kernel_rfl) (by kernel_rfl) (by kernel_rfl) (by kernel_rfl) (fun _ _ _ h => h) (Or.inl ⟨by kernel_rfl, fun W hS => by have c1 : W.cell? ⟨bo, 1, none⟩ = some (.int .i64 (kk : Int)) := (by rw [← unhide hkk]; exact hS.rg 1 _ rfl); go_simp⟩) hS ?_
          try simp only [Act.put, List.setIfInBounds_toArray, List.set_cons_zero, List.set_cons_succ]
          refine anyH_at (i := 2) (v := .pointer (some ⟨bo, 2, none⟩)) 36 rfl (by kernel_rfl) (by kernel_rfl) (by kernel_rfl) (by kernel_rfl) (fun _ _ _ h => h) (Or.inl ⟨by kernel_rfl, fun W hS => by go_simp⟩) hS ?_
          try simp only [Act.put, List.setIfInBounds_toArray, List.set_cons_zero, List.set_cons_succ]
          refine anyH_at (i := 3) (v := .slice o.xb o.nb o.cb) 37 rfl (by kernel_rfl) (by kernel_rfl) (by kernel_rfl) (by kernel_rfl) (fun _ _ _ h => h) (Or.inl ⟨by kernel_rfl, fun W hS => by have c1 : W.cell? ⟨bo, 2, none⟩ = some (.slice o.xb o.nb o.cb) := hS.rg 2 _ rfl; go_simp⟩) hS ?_
          try simp only [Act.put, List.setIfInBounds_toArray, List.set_cons_zero, List.set_cons_succ]
          refine wpAnyH_all (rs := [4]) (by kernel_rfl) (by simp) (AllReadyH.cons (i := 4) rfl (fun KK hK => ?_) AllReadyH.nil)
          rw [if_pos (by kernel_rfl)]
          have hS0 := hide hS
          clear hS
          go_wp2_with fail
          refine (of_any _ o.B _ (unhide HO _ (unhide HB)).b).mono ?_
          rintro e W4 ⟨rfl, hb⟩
          have hS1 := hide ((show Blk _ _ _ _ from unhide hS0).keep hb)
          replace HH := hide ((unhide HH).below hb)
          replace HW := hide ((show Blk _ _ _ _ from unhide HW).keep hb)
          replace HB := hide (below_via (unhide HB) hb)
          clear hb hS0
          go_wp2_with fail
          refine hK.out _ _ (unhide hS1) (fun hS => ?_)
          clear hK hS1
          try simp only [Act.put, List.setIfInBounds_toArray, List.set_cons_zero, List.set_cons_succ]
          refine anyH_at (i := 5) (v := .pointer (some ⟨bw, kk * 64, none⟩)) 39 rfl (by kernel_rfl) (by kernel_rfl) (by kernel_rfl) (by kernel_rfl) (fun _ _ _ h => h) (Or.inl ⟨by kernel_rfl, fun W hS => by have hq1 : (kk : Int) < 30 := (by omega); go_simp⟩) hS ?_
          try simp only [Act.put, List.setIfInBounds_toArray, List.set_cons_zero, List.set_cons_succ]
          refine anyH_storem (l := byv (ofB o.B)) (b := bw) (o := kk * 64) (i := 6) (by kernel_rfl) rfl rfl 45 _ _ rfl (unhide HW) (by kernel_rfl) (by kernel_rfl) size45 (by rw [List.size_toArray, bks_len (unhide hL64)]; omega) (by rw [byv_len, ofB_len]) (one_byv _) (fun W5 kW kb => ?_)
          have HX5 := hide (kb.blk hS (by omega))
          refine ⟨unhide HX5, ?_⟩
          try simp only [Act.put, List.setIfInBounds_toArray, List.set_cons_zero, List.set_cons_succ]
          rw [bks_set (unhide hL64) hk30 (ofB_len _)] at kW
          replace HH := hide ((unhide HH).keep kb (Or.inl (Or.inr rfl)))
          replace HW := hide kW
          replace HB := hide ((unhide HB).trans (kb.below (fun k e => by omega) (unhide HB).size))
          clear hS kb kW hw3 hbw3
          refine wpAnyH_done (by kernel_rfl) ?_ _
          refine noPanic_out ?_
          replace HX := HX5
          clear HX5
          have HXl2 := hide (show ∀ j, (fun j => (j < w.heap.size ∨ j = bw) ∨ j = bo) j → j < W5.heap.size from fun j hj => by have := (unhide HB).size; have := (show Blk _ _ _ _ from unhide HW).lt; have := (show Blk _ _ _ _ from unhide HX).lt; rcases hj with (hj | hj) | hj <;> omega)
          clear HXl
          go_wp2_with fail
          refine (waix p _ _ _ (unhide HH)).mono ?_
          rintro e W5b ⟨rfl, e1⟩
          rw [e1, unhide HWn]
          clear e1 W5b
          go_wp2_with fail
          refine (synx p _ _ _ (unhide HH) (unhide HXl2)).mono ?_
          rintro e W7 ⟨rfl, hH, hkp⟩
          replace HH := hide hH
          replace HW := hide (hkp.blk (show Blk _ _ _ _ from unhide HW) (Or.inl (Or.inr rfl)))
          replace HB := hide ((unhide HB).trans (hkp.below (fun j hj => Or.inl (Or.inl hj))))
          clear hH hkp
          have HXl := HXl2
          have c0 := HXl2
          have HRd := hide (hide (unhide HV2).r)
          generalize hA2 : crashS (fun _ => 1) (doS A o) = A2 at *
          replace hA2 := hide hA2
          generalize hwant2 : want.set kk (ofB o.B) = want2 at *
          replace hwant2 := hide hwant2
          replace HH := hide ((unhide HH).mono (Z := fun j => j < w.heap.size ∨ j = bw) (fun j hj => Or.inl hj))
          have hwl := hide (bks_len (unhide HV2).l)
          go_wp2_with (refine load_rg (l := bks want2) rfl 53 _ rfl (show Blk _ _ _ _ from unhide HW).rg rfl row53 size53 (unhide hwl) ?_)
          clear HX c0 HXl
          have HV0 := hide (Below.refl W7.heap.size W7)
          go_loopw [55] (fun i wr => ∃ j : Nat, j ≤ 30 ∧ i = .int .i64 (j : Int) ∧ Hid (Below W7.heap.size W7 wr)) (fun i _ => 30 - (intOf i).toNat)
          case atStart => exact ⟨0, by omega, rfl, HV0⟩
          case round =>
            clear HV0
            obtain ⟨j, hj, rfl, HZ⟩ := hrel
            by_cases hj2 : j < 30
            · have hjw : j < want2.length := by rw [(unhide HV2).l.1]; exact hj2
              have hx : want2[j]? = some want2[j] := List.getElem?_eq_getElem hjw
              have hx64 := (unhide HV2).l.2 _ (List.mem_of_getElem? hx)
              obtain ⟨r1, r2⟩ := unhide (unhide HRd) j _ hx
              have hi := fun W => ix53 (unhide HV2).l hx W
              generalize want2[j] = y at *
              have he := fun W => eq45 y hx64 W
              have hg := gd45
              have hyl := hide (show (byv y).length = 64 by rw [byv_len]; exact hx64)
              replace r1 := hide r1
              replace r2 := hide r2
              have j1 : (j : Int) < 30 := by omega
              have hwr2 : IntKind.i64.wrap ((j : Int) + 1) = ((j + 1 : Nat) : Int) := by rw [IntKind.wrap_i64]; omega
              have d1 : decide ((j : Int) < 30) = true := decide_eq_true j1
              clear j1 hx hjw hx64
              go_wp2_with (refine alloc_rg rfl 45 rfl al45 ?_)
              intro U1 H9 hb
              replace H9 := hide H9
              have hvs := (unhide HZ).size
              replace HZ := hide ((unhide HZ).trans (hb.mono hvs))
              clear hb
              generalize wr.heap.size = b9 at *
              go_wp2_with (refine store_all (l := byv y) rfl 45 _ _ rfl (unhide H9) rfl rfl size45 (by rw [List.size_toArray, byv_len, zs_len]) (unhide hyl) (one_byv _) ?_)
              intro U2 H92 hb
              replace H9 := hide H92
              replace HZ := hide ((unhide HZ).trans (hb.below (fun k e => by omega) (unhide HZ).size))
              clear hb H92
              go_wp2_with fail
              refine (reax p A2 _ _ ((unhide HH).below (unhide HZ)) (j : Int)).mono ?_
              rintro e U3 ⟨rfl, hb⟩
              rw [unhide r1, unhide r2]
              replace H9 := hide ((show Blk _ _ _ _ from unhide H9).keep hb)
              replace HZ := hide (below_via (unhide HZ) hb)
              have h9l := (show Blk _ _ _ _ from unhide H9).lt
              clear hb
              go_wp2_with (refine alloc_rg rfl 45 rfl al45 ?_)
              intro U4 H10 hb
              replace H10 := hide H10
              replace H9 := hide ((show Blk _ _ _ _ from unhide H9).keep hb)
              have hz3 := (unhide HZ).size
              replace HZ := hide (below_via (unhide HZ) hb)
              clear hb
              generalize U3.heap.size = b10 at *
              go_wp2_with (refine store_all (l := byv y) rfl 45 _ _ rfl (unhide H10) rfl rfl size45 (by rw [List.size_toArray, byv_len, zs_len]) (unhide hyl) (one_byv _) ?_)
              intro U5 H102 hb
              replace H10 := hide H102
              replace H9 := hide (hb.blk (show Blk _ _ _ _ from unhide H9) (by omega))
              replace HZ := hide ((unhide HZ).trans (hb.below (fun k e => by omega) (unhide HZ).size))
              clear hb H102 hz3 h9l hvs
              go_wp2_with (first | refine load_rg (l := byv y) rfl 45 _ rfl (show Blk _ _ _ _ from unhide H10).rg rfl row45 size45 (unhide hyl) ?_ | refine load_rg (l := byv y) rfl 45 _ rfl (show Blk _ _ _ _ from unhide H9).rg rfl row45 size45 (unhide hyl) ?_)
              go_roundw
              case rel => exact ⟨j + 1, by omega, by go_num, HZ⟩
              case measure => simp [intOf]; omega
            · obtain rfl : j = 30 := by omega
              replace HH := hide ((unhide HH).below (unhide HZ))
              replace HW := hide ((show Blk _ _ _ _ from unhide HW).keep (unhide HZ))
              replace HB := hide (below_via (unhide HB) (unhide HZ))
              go_wp2_with fail
              go_roundw
              case rel => exact ⟨k + 1, A2, want2, by omega, by go_num, HH, HW, HB, HV2⟩
              case measure => simp [intOf]; omega
        · obtain ⟨hV2, hW1⟩ := (unhide HV).no hk1 hy0
          have HV2 := hide hV2
          have HWn := hide hW1
          clear hV2 hW1
          replace hk1 := hide hk1
          generalize doE A o = de at *
          have HXl2 := hide (show ∀ j, (fun j => (j < w.heap.size ∨ j = bw) ∨ j = bo) j → j < W3.heap.size from fun j hj => by have := (unhide HB).size; have := (show Blk _ _ _ _ from unhide HW).lt; have := (show Blk _ _ _ _ from unhide HX).lt; rcases hj with (hj | hj) | hj <;> omega)
          clear HXl
          go_wp2_with fail
          refine (waix p _ _ _ (unhide HH)).mono ?_
          rintro e W5b ⟨rfl, e1⟩
          rw [e1, unhide HWn]
          clear e1 W5b
          go_wp2_with fail
          refine (synx p _ _ _ (unhide HH) (unhide HXl2)).mono ?_
          rintro e W7 ⟨rfl, hH, hkp⟩
          replace HH := hide hH
          replace HW := hide (hkp.blk (show Blk _ _ _ _ from unhide HW) (Or.inl (Or.inr rfl)))
          replace HB := hide ((unhide HB).trans (hkp.below (fun j hj => Or.inl (Or.inl hj))))
          clear hH hkp
          have HXl := HXl2
          have c0 := HXl2
          have HRd := hide (hide (unhide HV2).r)
          generalize hA2 : crashS (fun _ => 1) (doS A o) = A2 at *
          replace hA2 := hide hA2
          generalize hwant2 : want = want2 at *
          replace hwant2 := hide hwant2
          replace HH := hide ((unhide HH).mono (Z := fun j => j < w.heap.size ∨ j = bw) (fun j hj => Or.inl hj))
          have hwl := hide (bks_len (unhide HV2).l)
          go_wp2_with (refine load_rg (l := bks want2) rfl 53 _ rfl (show Blk _ _ _ _ from unhide HW).rg rfl row53 size53 (unhide hwl) ?_)
          clear HX c0 HXl
          have HV0 := hide (Below.refl W7.heap.size W7)
          go_loopw [55] (fun i wr => ∃ j : Nat, j ≤ 30 ∧ i = .int .i64 (j : Int) ∧ Hid (Below W7.heap.size W7 wr)) (fun i _ => 30 - (intOf i).toNat)
          case atStart => exact ⟨0, by omega, rfl, HV0⟩
          case round =>
            clear HV0
            obtain ⟨j, hj, rfl, HZ⟩ := hrel
            by_cases hj2 : j < 30
            · have hjw : j < want2.length := by rw [(unhide HV2).l.1]; exact hj2
              have hx : want2[j]? = some want2[j] := List.getElem?_eq_getElem hjw
              have hx64 := (unhide HV2).l.2 _ (List.mem_of_getElem? hx)
              obtain ⟨r1, r2⟩ := unhide (unhide HRd) j _ hx
              have hi := fun W => ix53 (unhide HV2).l hx W
              generalize want2[j] = y at *
              have he := fun W => eq45 y hx64 W
              have hg := gd45
              have hyl := hide (show (byv y).length = 64 by rw [byv_len]; exact hx64)
              replace r1 := hide r1
              replace r2 := hide r2
              have j1 : (j : Int) < 30 := by omega
              have hwr2 : IntKind.i64.wrap ((j : Int) + 1) = ((j + 1 : Nat) : Int) := by rw [IntKind.wrap_i64]; omega
              have d1 : decide ((j : Int) < 30) = true := decide_eq_true j1
              clear j1 hx hjw hx64
              go_wp2_with (refine alloc_rg rfl 45 rfl al45 ?_)
              intro U1 H9 hb
              replace H9 := hide H9
              have hvs := (unhide HZ).size
              replace HZ := hide ((unhide HZ).trans (hb.mono hvs))
              clear hb
              generalize wr.heap.size = b9 at *
              go_wp2_with (refine store_all (l := byv y) rfl 45 _ _ rfl (unhide H9) rfl rfl size45 (by rw [List.size_toArray, byv_len, zs_len]) (unhide hyl) (one_byv _) ?_)
              intro U2 H92 hb
              replace H9 := hide H92
              replace HZ := hide ((unhide HZ).trans (hb.below (fun k e => by omega) (unhide HZ).size))
              clear hb H92
              go_wp2_with fail
              refine (reax p A2 _ _ ((unhide HH).below (unhide HZ)) (j : Int)).mono ?_
              rintro e U3 ⟨rfl, hb⟩
              rw [unhide r1, unhide r2]
              replace H9 := hide ((show Blk _ _ _ _ from unhide H9).keep hb)
              replace HZ := hide (below_via (unhide HZ) hb)
              have h9l := (show Blk _ _ _ _ from unhide H9).lt
              clear hb
              go_wp2_with (refine alloc_rg rfl 45 rfl al45 ?_)
              intro U4 H10 hb
              replace H10 := hide H10
              replace H9 := hide ((show Blk _ _ _ _ from unhide H9).keep hb)
              have hz3 := (unhide HZ).size
              replace HZ := hide (below_via (unhide HZ) hb)
              clear hb
              generalize U3.heap.size = b10 at *
              go_wp2_with (refine store_all (l := byv y) rfl 45 _ _ rfl (unhide H10) rfl rfl size45 (by rw [List.size_toArray, byv_len, zs_len]) (unhide hyl) (one_byv _) ?_)
              intro U5 H102 hb
              replace H10 := hide H102
              replace H9 := hide (hb.blk (show Blk _ _ _ _ from unhide H9) (by omega))
              replace HZ := hide ((unhide HZ).trans (hb.below (fun k e => by omega) (unhide HZ).size))
              clear hb H102 hz3 h9l hvs
              go_wp2_with (first | refine load_rg (l := byv y) rfl 45 _ rfl (show Blk _ _ _ _ from unhide H10).rg rfl row45 size45 (unhide hyl) ?_ | refine load_rg (l := byv y) rfl 45 _ rfl (show Blk _ _ _ _ from unhide H9).rg rfl row45 size45 (unhide hyl) ?_)
              go_roundw
              case rel => exact ⟨j + 1, by omega, by go_num, HZ⟩
              case measure => simp [intOf]; omega
            · obtain rfl : j = 30 := by omega
              replace HH := hide ((unhide HH).below (unhide HZ))
              replace HW := hide ((show Blk _ _ _ _ from unhide HW).keep (unhide HZ))
              replace HB := hide (below_via (unhide HB) (unhide HZ))
              go_wp2_with fail
              go_roundw
              case rel => exact ⟨k + 1, A2, want2, by omega, by go_num, HH, HW, HB, HV2⟩
              case measure => simp [intOf]; omega
      · by_cases hk3 : o.k = 3
        · rw [hk3] at c0
          have c3 : W2.cell? ⟨bo, 3, none⟩ = some (.slice o.xf o.nf o.cf) := (show Blk _ _ _ _ from unhide HX).rg 3 _ rfl
          have HV2 := hide ((unhide HV).crash o.F)
          replace hk3 := hide hk3
          clear hk1
          go_wp2_with fail
          refine (crax p A _ _ (unhide HH) (unhide HXl) o.xf o.nf o.cf o.F (unhide HO _ (unhide HB)).f (unhide HO _ (unhide HB)).f8 (fun y e h0 => Or.inl (Or.inl (unhide HF y e h0)))).mono ?_
          rintro e W3 ⟨rfl, hH, hkp⟩
          replace HH := hide hH
          replace HW := hide (hkp.blk (show Blk _ _ _ _ from unhide HW) (Or.inl (Or.inr rfl)))
          replace HB := hide ((unhide HB).trans (hkp.below (fun j hj => Or.inl (Or.inl hj))))
          clear hH hkp c0 c3
          have c0 := HXl
          have HRd := hide (hide (unhide HV2).r)
          generalize hA2 : crashS (fateN o.F) A = A2 at *
          replace hA2 := hide hA2
          generalize hwant2 : want = want2 at *
          replace hwant2 := hide hwant2
          replace HH := hide ((unhide HH).mono (Z := fun j => j < w.heap.size ∨ j = bw) (fun j hj => Or.inl hj))
          have hwl := hide (bks_len (unhide HV2).l)
          go_wp2_with (refine load_rg (l := bks want2) rfl 53 _ rfl (show Blk _ _ _ _ from unhide HW).rg rfl row53 size53 (unhide hwl) ?_)
          clear HX c0 HXl
          have HV0 := hide (Below.refl W3.heap.size W3)
          go_loopw [55] (fun i wr => ∃ j : Nat, j ≤ 30 ∧ i = .int .i64 (j : Int) ∧ Hid (Below W3.heap.size W3 wr)) (fun i _ => 30 - (intOf i).toNat)
          case atStart => exact ⟨0, by omega, rfl, HV0⟩
          case round =>
            clear HV0
            obtain ⟨j, hj, rfl, HZ⟩ := hrel
            by_cases hj2 : j < 30
            · have hjw : j < want2.length := by rw [(unhide HV2).l.1]; exact hj2
              have hx : want2[j]? = some want2[j] := List.getElem?_eq_getElem hjw
              have hx64 := (unhide HV2).l.2 _ (List.mem_of_getElem? hx)
              obtain ⟨r1, r2⟩ := unhide (unhide HRd) j _ hx
              have hi := fun W => ix53 (unhide HV2).l hx W
              generalize want2[j] = y at *
              have he := fun W => eq45 y hx64 W
              have hg := gd45
              have hyl := hide (show (byv y).length = 64 by rw [byv_len]; exact hx64)
              replace r1 := hide r1
              replace r2 := hide r2
              have j1 : (j : Int) < 30 := by omega
              have hwr2 : IntKind.i64.wrap ((j : Int) + 1) = ((j + 1 : Nat) : Int) := by rw [IntKind.wrap_i64]; omega
              have d1 : decide ((j : Int) < 30) = true := decide_eq_true j1
              clear j1 hx hjw hx64
              go_wp2_with (refine alloc_rg rfl 45 rfl al45 ?_)
              intro U1 H9 hb
              replace H9 := hide H9
              have hvs := (unhide HZ).size
              replace HZ := hide ((unhide HZ).trans (hb.mono hvs))
              clear hb
              generalize wr.heap.size = b9 at *
              go_wp2_with (refine store_all (l := byv y) rfl 45 _ _ rfl (unhide H9) rfl rfl size45 (by rw [List.size_toArray, byv_len, zs_len]) (unhide hyl) (one_byv _) ?_)
              intro U2 H92 hb
              replace H9 := hide H92
              replace HZ := hide ((unhide HZ).trans (hb.below (fun k e => by omega) (unhide HZ).size))
              clear hb H92
              go_wp2_with fail
              refine (reax p A2 _ _ ((unhide HH).below (unhide HZ)) (j : Int)).mono ?_
              rintro e U3 ⟨rfl, hb⟩
              rw [unhide r1, unhide r2]
              replace H9 := hide ((show Blk _ _ _ _ from unhide H9).keep hb)
              replace HZ := hide (below_via (unhide HZ) hb)
              have h9l := (show Blk _ _ _ _ from unhide H9).lt
              clear hb
              go_wp2_with (refine alloc_rg rfl 45 rfl al45 ?_)
              intro U4 H10 hb
              replace H10 := hide H10
              replace H9 := hide ((show Blk _ _ _ _ from unhide H9).keep hb)
              have hz3 := (unhide HZ).size
              replace HZ := hide (below_via (unhide HZ) hb)
              clear hb
              generalize U3.heap.size = b10 at *
              go_wp2_with (refine store_all (l := byv y) rfl 45 _ _ rfl (unhide H10) rfl rfl size45 (by rw [List.size_toArray, byv_len, zs_len]) (unhide hyl) (one_byv _) ?_)
              intro U5 H102 hb
              replace H10 := hide H102
              replace H9 := hide (hb.blk (show Blk _ _ _ _ from unhide H9) (by omega))
              replace HZ := hide ((unhide HZ).trans (hb.below (fun k e => by omega) (unhide HZ).size))
              clear hb H102 hz3 h9l hvs
              go_wp2_with (first | refine load_rg (l := byv y) rfl 45 _ rfl (show Blk _ _ _ _ from unhide H10).rg rfl row45 size45 (unhide hyl) ?_ | refine load_rg (l := byv y) rfl 45 _ rfl (show Blk _ _ _ _ from unhide H9).rg rfl row45 size45 (unhide hyl) ?_)
              go_roundw
              case rel => exact ⟨j + 1, by omega, by go_num, HZ⟩
              case measure => simp [intOf]; omega
            · obtain rfl : j = 30 := by omega
              replace HH := hide ((unhide HH).below (unhide HZ))
              replace HW := hide ((show Blk _ _ _ _ from unhide HW).keep (unhide HZ))
              replace HB := hide (below_via (unhide HB) (unhide HZ))
              go_wp2_with fail
              go_roundw
              case rel => exact ⟨k + 1, A2, want2, by omega, by go_num, HH, HW, HB, HV2⟩
              case measure => simp [intOf]; omega
        · have HV2 := HV
          have HRd := hide (hide (unhide HV2).r)
          replace HH := hide ((unhide HH).mono (Z := fun j => j < w.heap.size ∨ j = bw) (fun j hj => Or.inl hj))
          have hwl := hide (bks_len (unhide HV2).l)
          go_wp2_with (refine load_rg (l := bks want) rfl 53 _ rfl (show Blk _ _ _ _ from unhide HW).rg rfl row53 size53 (unhide hwl) ?_)
          clear HX c0 HXl
          have HV0 := hide (Below.refl W2.heap.size W2)
          go_loopw [55] (fun i wr => ∃ j : Nat, j ≤ 30 ∧ i = .int .i64 (j : Int) ∧ Hid (Below W2.heap.size W2 wr)) (fun i _ => 30 - (intOf i).toNat)
          case atStart => exact ⟨0, by omega, rfl, HV0⟩
          case round =>
            clear HV0
            obtain ⟨j, hj, rfl, HZ⟩ := hrel
            by_cases hj2 : j < 30
            · have hjw : j < want.length := by rw [(unhide HV2).l.1]; exact hj2
              have hx : want[j]? = some want[j] := List.getElem?_eq_getElem hjw
              have hx64 := (unhide HV2).l.2 _ (List.mem_of_getElem? hx)
              obtain ⟨r1, r2⟩ := unhide (unhide HRd) j _ hx
              have hi := fun W => ix53 (unhide HV2).l hx W
              generalize want[j] = y at *
              have he := fun W => eq45 y hx64 W
              have hg := gd45
              have hyl := hide (show (byv y).length = 64 by rw [byv_len]; exact hx64)
              replace r1 := hide r1
              replace r2 := hide r2
              have j1 : (j : Int) < 30 := by omega
              have hwr2 : IntKind.i64.wrap ((j : Int) + 1) = ((j + 1 : Nat) : Int) := by rw [IntKind.wrap_i64]; omega
              have d1 : decide ((j : Int) < 30) = true := decide_eq_true j1
              clear j1 hx hjw hx64
              go_wp2_with (refine alloc_rg rfl 45 rfl al45 ?_)
              intro U1 H9 hb
              replace H9 := hide H9
              have hvs := (unhide HZ).size
              replace HZ := hide ((unhide HZ).trans (hb.mono hvs))
              clear hb
              generalize wr.heap.size = b9 at *
              go_wp2_with (refine store_all (l := byv y) rfl 45 _ _ rfl (unhide H9) rfl rfl size45 (by rw [List.size_toArray, byv_len, zs_len]) (unhide hyl) (one_byv _) ?_)
              intro U2 H92 hb
              replace H9 := hide H92
              replace HZ := hide ((unhide HZ).trans (hb.below (fun k e => by omega) (unhide HZ).size))
              clear hb H92
              go_wp2_with fail
              refine (reax p A _ _ ((unhide HH).below (unhide HZ)) (j : Int)).mono ?_
              rintro e U3 ⟨rfl, hb⟩
              rw [unhide r1, unhide r2]
              replace H9 := hide ((show Blk _ _ _ _ from unhide H9).keep hb)
              replace HZ := hide (below_via (unhide HZ) hb)
              have h9l := (show Blk _ _ _ _ from unhide H9).lt
              clear hb
              go_wp2_with (refine alloc_rg rfl 45 rfl al45 ?_)
              intro U4 H10 hb
              replace H10 := hide H10
              replace H9 := hide ((show Blk _ _ _ _ from unhide H9).keep hb)
              have hz3 := (unhide HZ).size
              replace HZ := hide (below_via (unhide HZ) hb)
              clear hb
              generalize U3.heap.size = b10 at *
              go_wp2_with (refine store_all (l := byv y) rfl 45 _ _ rfl (unhide H10) rfl rfl size45 (by rw [List.size_toArray, byv_len, zs_len]) (unhide hyl) (one_byv _) ?_)
              intro U5 H102 hb
              replace H10 := hide H102
              replace H9 := hide (hb.blk (show Blk _ _ _ _ from unhide H9) (by omega))
              replace HZ := hide ((unhide HZ).trans (hb.below (fun k e => by omega) (unhide HZ).size))
              clear hb H102 hz3 h9l hvs
              go_wp2_with (first | refine load_rg (l := byv y) rfl 45 _ rfl (show Blk _ _ _ _ from unhide H10).rg rfl row45 size45 (unhide hyl) ?_ | refine load_rg (l := byv y) rfl 45 _ rfl (show Blk _ _ _ _ from unhide H9).rg rfl row45 size45 (unhide hyl) ?_)
              go_roundw
              case rel => exact ⟨j + 1, by omega, by go_num, HZ⟩
              case measure => simp [intOf]; omega
            · obtain rfl : j = 30 := by omega
              replace HH := hide ((unhide HH).below (unhide HZ))
              replace HW := hide ((show Blk _ _ _ _ from unhide HW).keep (unhide HZ))
              replace HB := hide (below_via (unhide HB) (unhide HZ))
              go_wp2_with fail
              go_roundw
              case rel => exact ⟨k + 1, A, want, by omega, by go_num, HH, HW, HB, HV2⟩
              case measure => simp [intOf]; omega
    · obtain rfl : k = len := by omega
      go_wp2_with fail
      refine (waix p A _ _ (unhide HH)).mono ?_
      rintro e W5 ⟨rfl, e1⟩
      rw [e1, (unhide HV).w]
      go_wp2_with fail
      go_ret
      exact ⟨rfl, unhide HB⟩
theorem own : ownKnob Try.prog.godebug = none := by kernel_rfl
theorem laidOut : laidOutB Try.prog = true := by kernel_rfl
set_option linter.unusedVariables false in
set_option maxRecDepth 100000 in
theorem lifted (os : Os) (started : os.Started) (H : Type) (enc : TypeId × Value → H) :
    ReturnsInHanded {} Try.checked os 7 .any (Rows.blockSyncsSpec.pre6 enc Try.prog Try.f7 Rows.blockSyncsRow.domain false) (Rows.blockSyncsSpec.post enc Try.prog Try.f7 false true false false) := by
  refine returnsInHanded_of_change (C := Try.checked) own started (by kernel_rfl) Try.func7
    (ChangeSpec.witness6 (enc := enc) (C := Try.checked) false ⟨#[], #[.slice none 0 0], []⟩ 8 (by kernel_rfl) (by kernel_rfl) (by kernel_rfl) (by kernel_rfl)) ?_
  intro W base args ds gs before hval0 hW hcnd _
  have hval : ∀ (j : Nat) t v, Try.f7.params[j]? = some t → args[j]? = some v → Value.okWide Try.prog W .any base t v := hval0
  have hW' := hW
  obtain ⟨p, q, hA0, hV, rfl, hfz, hnd⟩ := hW
  have hA : DataW.TrodAll enc Try.prog W 0 (fun _ => true) true Try.f7.params.toList args.toList ds p := hA0
  rw [Try.params7] at hA hval
  obtain ⟨v0, vs0, d0, ds0, p0, q0, hargs, rfl, rfl, h0, r0⟩ := trodAll_cons hA
  obtain ⟨rfl, rfl, rfl⟩ := trodAll_nil r0
  obtain rfl : args = #[v0] := by cases args; simp_all
  obtain ⟨rfl, rfl⟩ := trodVars_none hV
  have k0 := h0
  have lt0 : ∀ x ∈ p0, x.block < W.heap.size := by obtain ⟨m, hm⟩ := k0; exact DataW.trod_lt m _ _ _ hm
  obtain ⟨a0, len0, cap0, rfl⟩ := okWide_slice Try.underlying22 (hval 0 22 v0 rfl rfl)
  obtain ⟨l0, hr0⟩ : ∃ l : List Opx, Ops W (.slice a0 len0 cap0) l := by
    obtain ⟨fuel, hf⟩ := h0
    exact ops_open hf
  clear hA0 hval0
  refine (walk _ l0 W hr0).mono fun e W' ⟨he, bel⟩ => ?_
  subst he
  exact ⟨_, rfl, _, _, _, [], _, [], hW', trodAll_mk1 (shut_bool Try.underlying4 _), (trodAll_cons_mk (Below.trod laidOut (by kernel_rfl) (of_decide_eq_true (by kernel_rfl)) k0 bel lt0) trodAll_mk0), rfl, bel.frame _, fun h => by cases h⟩
theorem over : Rows.blockSyncsRow.holds Try.pinned (OpenSpec.ofChange Rows.blockSyncsSpec) :=
  OpenClaim.holds_of_wide 7 Try.f7 rfl rfl rfl rfl rfl rfl rfl ⟨rfl, rfl, rfl, rfl, rfl⟩ rfl rfl rfl rfl rfl (by kernel_rfl) Try.func7 (by kernel_rfl)
    (of_decide_eq_true (by kernel_rfl)) (by unfold Func.isWrapper; first | (rw [if_pos (by decide +kernel)]; kernel_rfl) | (rw [if_neg (by decide +kernel)]; exact ⟨rfl, rfl⟩))
    (fun os started H enc _ => lifted os started H enc)
theorem proved : Rows.BlockSyncsSaid := over
end Go.Proofs.Ytdbefnghljjieaa.blockSyncs
namespace Go.Proofs.Ytdbefnghljjieaa
theorem blockSyncs_holds : Rows.BlockSyncsSaid := blockSyncs.proved
end Go.Proofs.Ytdbefnghljjieaa
