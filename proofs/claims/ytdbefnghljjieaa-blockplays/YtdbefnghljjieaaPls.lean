/- Proved here: BlockPlays: through any steps what each answers, and what all blocks are, is the document's. No condition. -/
import Derived.Test.YtdbefnghljjieaaTw
import Derived.Test.YtdbefnghljjieaaAr
import Derived.Test.YtdbefnghljjieaaPl
namespace Go.Proofs.Ytdbefnghljjieaa.blockPlays
open Go.ChangeShapes Go.WideShapes Go.ChangeAt Go.RowKit
set_option linter.unusedVariables false
set_option linter.unusedSimpArgs false
theorem two_lt {X : Nat → Prop} {n : Nat} {w : World} (h : ∀ k, X k → k < n) (hn : n ≤ w.heap.size) : ∀ k, X k → k < w.heap.size := fun k hk => Nat.lt_of_lt_of_le (h k hk) hn
set_option maxHeartbeats 16000000 in
set_option maxRecDepth 20000 in
theorem walk (xn : Int) (v : Value) (l : List Opx) (w : World) (h : Ops w v l) : Calls Try.prog 3 #[.int .i64 xn, v] w fun r w' => r = .returned (.bool true) ∧ Below w.heap.size w w' := by
  obtain ⟨x, cap, rfl⟩ := rowG_slice h.row
  rw [List.length_map] at *
  have hmx := rowG_max h.row
  rw [List.length_map] at hmx
  have HC : Hid (∀ k o, l[k]? = some o → ∀ W, Below w.heap.size w W → ∃ b off, x = some ⟨b, off, none⟩ ∧ W.rangeAt b (off + k * 4) (opL o)) := hide (fun k o hk W hb => row_range (h.row.keep hb) (by rw [List.getElem?_map, hk]; rfl))
  have HI := hide (fun (k : Nat) (hk : k < l.length) => (⟨l[k], by simp [hk]⟩ : ∃ o, l[k]? = some o))
  have HOk : Hid (∀ o ∈ l, ∀ W, Below w.heap.size w W → OpOk W o) := hide (fun o ho W hb => (h.ok o ho).keep hb)
  have HBl : Hid (∀ o ∈ l, ∀ y, o.xf = some y → 0 < o.nf → y.block < w.heap.size) := hide (fun o ho => row_lt (h.ok o ho).f)
  have HS := hide h
  clear h
  generalize hlen : l.length = len at *
  replace hlen := hide hlen
  go_enter Try.func3, Try.ntmps3
  go_wp2_with fail
  refine (alive_any _).mono ?_
  rintro e w1 ⟨rfl, hb⟩
  have HB := hide hb
  clear hb
  go_wp2_with fail
  rw [← unhide hlen]
  refine (great_any _ l _ (by rw [unhide hlen]; exact (unhide HS).keep (unhide HB))).mono ?_
  rintro e w2 ⟨t, rfl, hs, hb⟩
  replace HB := hide (below_via (unhide HB) hb)
  clear hb
  rw [unhide hlen]
  cases t with
  | true =>
    go_wp2_with fail
    go_ret
    exact ⟨rfl, unhide HB⟩
  | false =>
  have HSm := hide (hs rfl)
  clear hs HS
  go_wp2_with fail
  by_cases hbl : 1 ≤ xn ∧ xn ≤ 4096
  · obtain ⟨n, rfl⟩ : ∃ n : Nat, xn = (n : Int) := ⟨xn.toNat, by omega⟩
    have hn1 : 1 ≤ n := by omega
    have hn2 : n ≤ 4096 := by omega
    replace hbl := hide hbl
    have HN1 := hide hn1
    have HN2' := hide hn2
    refine (newx n (fun k => k < w.heap.size) _ hn1 hn2 (fun k h => Nat.lt_of_lt_of_le h (unhide HB).size)).mono ?_
    rintro e w3 ⟨p, rfl, hH, hb⟩
    have HH := hide hH
    replace HB := hide (below_via (unhide HB) hb)
    clear hb hH
    go_wp2_with fail
    refine (rnew_ok n _ hn1 hn2).mono ?_
    intro e w4 hNP
    obtain ⟨q, rfl, hT, hb⟩ := two_new (unhide HH) (fun k h => Nat.lt_of_lt_of_le h (unhide HB).size) hNP
    have HT := hide hT
    replace HB := hide (below_via (unhide HB) hb)
    obtain ⟨bm, bpm, am, capm, rfl, _⟩ := hT.symm.left.open
    clear hb hT hNP HH hn1 hn2
    go_wp2_with fail
    go_loopw [48] (fun i wr => ∃ (k : Nat) (A : Stt), k ≤ len ∧ i = .int .i64 (k : Int) ∧ Hid (Two LP LR (fun j => j < w.heap.size) wr p (.pointer (some ⟨bm, 0, none⟩)) A A) ∧ Hid (Below w.heap.size w wr) ∧ Hid (A.L.length = n)) (fun i _ => len - (intOf i).toNat)
    case atStart => exact ⟨0, _, by omega, rfl, HT, HB, hide (by simp [newS])⟩
    case round =>
      obtain ⟨k, A, hk, rfl, HT, HB, HN⟩ := hrel
      by_cases hlt : k < len
      · obtain ⟨o, ho⟩ := unhide HI k hlt
        obtain ⟨b, off, rfl, hr⟩ := unhide HC k o ho wr (unhide HB)
        have HR := hide hr
        have hom := List.mem_of_getElem? ho
        have HO := hide (unhide HOk o hom)
        have HF := hide (unhide HBl o hom)
        have k1 : (k : Int) < (len : Int) := by omega
        have hwr : IntKind.i64.wrap ((k : Int) + 1) = ((k + 1 : Nat) : Int) := by rw [IntKind.wrap_i64]; omega
        have h4 : (opL o).length = 4 := rfl
        replace h4 := hide h4
        clear hr ho hom
        replace HC := hide HC
        replace HI := hide HI
        replace HOk := hide HOk
        replace HBl := hide HBl
        go_wp2_with (first | refine load_rg (l := opL o) rfl 34 _ rfl (unhide HR) rfl row34 size34 (unhide h4) ?_ | refine alloc_rg rfl 34 rfl al34 ?_)
        intro W HX hb
        replace HX := hide HX
        replace HT := hide (((unhide HT).more (Nat.le_refl _)).below hb)
        have hn0 := (unhide HB).size
        replace HB := hide (below_via (unhide HB) hb)
        have hbol := (show Blk _ _ _ _ from unhide HX).lt
        clear hb
        generalize wr.heap.size = bo at *
        go_wp2_with (refine store_all (l := opL o) rfl 34 _ _ rfl (unhide HX) rfl rfl size34 rfl rfl (one_opL o) ?_)
        intro W2 HX2 hb2
        replace HT := hide ((unhide HT).keep hb2 (Or.inr rfl))
        replace HB := hide ((unhide HB).trans (hb2.below (fun k e => by omega) (by omega)))
        replace HX := hide HX2
        have hbo2 : bo < W2.heap.size := (show Blk _ _ _ _ from unhide HX).lt
        have HXl := hide (show ∀ j, (fun j => j < w.heap.size ∨ j = bo) j → j < W2.heap.size from fun j hj => by rcases hj with hj | hj <;> omega)
        clear HX2 hb2 HR
        have c0 : W2.cell? ⟨bo, 0, none⟩ = some (.int .i64 o.k) := (show Blk _ _ _ _ from unhide HX).rg 0 _ rfl
        go_wp2_with (refine load_rg (l := opL o) rfl 34 _ rfl (show Blk _ _ _ _ from unhide HX).rg rfl row34 size34 (unhide h4) ?_)
        obtain ⟨Vl, g1, g2, g3, g4⟩ := (unhide HT).l (unhide HXl)
        refine (dox p A Vl _ g1 g3 o (unhide HO _ (unhide HB)) (fun y e h0 => g2 _ (Or.inl (unhide HF y e h0)))).mono ?_
        rintro e W3 ⟨rfl, hH, hkp⟩
        replace HT := hide (g4 _ _ hH hkp)
        replace HX := hide (hkp.blk (show Blk _ _ _ _ from unhide HX) (g2 _ (Or.inr rfl)))
        replace HB := hide ((unhide HB).trans (hkp.below (fun j hj => g2 _ (Or.inl hj))))
        replace HXl := hide (fun j hj => Nat.lt_of_lt_of_le (unhide HXl j hj) hkp.size)
        clear hH hkp g1 g2 g3 g4 c0
        have c0 : W3.cell? ⟨bo, 0, none⟩ = some (.int .i64 o.k) := (show Blk _ _ _ _ from unhide HX).rg 0 _ rfl
        have HN2 : Hid ((doS A o).L.length = n) := hide (by rw [doS_len]; exact unhide HN)
        by_cases hk1 : o.k = 1
        · have hde : doE A o = wrE A o.at_ := by rw [doE, if_pos hk1]
          have hds : doS A o = wrS A o.at_ (ofB o.B) := by rw [doS, if_pos hk1]
          rw [hk1] at c0
          replace hk1 := hide hk1
          go_wp2_with fail
          refine wp_region_noPanic ?_
          refine wp_region_held_drew (S := fun V => Blk V bo (opL o).toArray 34) (by kernel_rfl) (unhide HX) (fun hS => ?_)
          replace HT := hide ((unhide HT).below (Below.refl _ _).drew)
          replace HX := hide ((show Blk _ _ _ _ from unhide HX).keep (Below.refl _ _).drew)
          replace HB := hide (unhide HB).drew
          replace HXl := hide (fun j hj => show j < W3.drew.heap.size from unhide HXl j hj)
          clear c0
          generalize W3.drew = W4 at *
          refine anyH_at (i := 0) (v := .pointer (some ⟨bm, 0, none⟩)) 59 rfl (by kernel_rfl) (by kernel_rfl) (by kernel_rfl) (by kernel_rfl) (fun _ _ _ h => h) (Or.inl ⟨by kernel_rfl, fun W hS => by go_simp⟩) hS ?_
          try simp only [Act.put, List.setIfInBounds_toArray, List.set_cons_zero, List.set_cons_succ]
          refine anyH_at (i := 1) (v := .pointer (some ⟨bo, 1, none⟩)) 60 rfl (by kernel_rfl) (by kernel_rfl) (by kernel_rfl) (by kernel_rfl) (fun _ _ _ h => h) (Or.inl ⟨by kernel_rfl, fun W hS => by go_simp⟩) hS ?_
          try simp only [Act.put, List.setIfInBounds_toArray, List.set_cons_zero, List.set_cons_succ]
          refine anyH_at (i := 2) (v := .int .i64 o.at_) 61 rfl (by kernel_rfl) (by kernel_rfl) (by kernel_rfl) (by kernel_rfl) (fun _ _ _ h => h) (Or.inl ⟨by kernel_rfl, fun W hS => by have c1 : W.cell? ⟨bo, 1, none⟩ = some (.int .i64 o.at_) := hS.rg 1 _ rfl; go_simp⟩) hS ?_
          try simp only [Act.put, List.setIfInBounds_toArray, List.set_cons_zero, List.set_cons_succ]
          refine anyH_at (i := 3) (v := .pointer (some ⟨bo, 2, none⟩)) 62 rfl (by kernel_rfl) (by kernel_rfl) (by kernel_rfl) (by kernel_rfl) (fun _ _ _ h => h) (Or.inl ⟨by kernel_rfl, fun W hS => by go_simp⟩) hS ?_
          try simp only [Act.put, List.setIfInBounds_toArray, List.set_cons_zero, List.set_cons_succ]
          refine anyH_at (i := 4) (v := .slice o.xb o.nb o.cb) 63 rfl (by kernel_rfl) (by kernel_rfl) (by kernel_rfl) (by kernel_rfl) (fun _ _ _ h => h) (Or.inl ⟨by kernel_rfl, fun W hS => by have c1 : W.cell? ⟨bo, 2, none⟩ = some (.slice o.xb o.nb o.cb) := hS.rg 2 _ rfl; go_simp⟩) hS ?_
          try simp only [Act.put, List.setIfInBounds_toArray, List.set_cons_zero, List.set_cons_succ]
          refine wpAnyH_all (rs := [5]) (by kernel_rfl) (by simp) (AllReadyH.cons (i := 5) rfl (fun KK hK => ?_) AllReadyH.nil)
          rw [if_pos (by kernel_rfl)]
          clear hS
          go_wp2_with fail
          refine (of_any _ o.B _ (unhide HO _ (unhide HB)).b).mono ?_
          rintro e W5 ⟨rfl, hb⟩
          replace HX := hide ((show Blk _ _ _ _ from unhide HX).keep hb)
          replace HT := hide ((unhide HT).below hb)
          replace HB := hide (below_via (unhide HB) hb)
          replace HXl := hide (fun j hj => Nat.lt_of_lt_of_le (unhide HXl j hj) hb.size)
          clear hb
          go_wp2_with fail
          refine hK.out _ _ (unhide HX) (fun hS => ?_)
          clear hK
          try simp only [Act.put, List.setIfInBounds_toArray, List.set_cons_zero, List.set_cons_succ]
          refine wpAnyH_all (rs := [6]) (by kernel_rfl) (by simp) (AllReadyH.cons (i := 6) rfl (fun KK hK => ?_) AllReadyH.nil)
          rw [if_pos (by kernel_rfl)]
          clear hS
          go_wp2_with fail
          obtain ⟨Vl, g1, g2, g3, g4⟩ := (unhide HT).symm.l (unhide HXl)
          refine (rwrix _ A Vl _ g1 g3 o.at_ (ofB o.B) (ofB_len _)).mono ?_
          rintro e W6 ⟨rfl, hH, hkp⟩
          replace HT := hide (g4 _ _ hH hkp).symm
          replace HX := hide (hkp.blk (show Blk _ _ _ _ from unhide HX) (g2 _ (Or.inr rfl)))
          replace HB := hide ((unhide HB).trans (hkp.below (fun j hj => g2 _ (Or.inl hj))))
          clear hH hkp g1 g2 g3 g4
          rw [← hde]
          rw [← hds] at HT
          clear hde hds
          generalize doE A o = de at *
          go_wp2_with fail
          refine hK.out _ _ (unhide HX) (fun hS => ?_)
          clear hK
          try simp only [Act.put, List.setIfInBounds_toArray, List.set_cons_zero, List.set_cons_succ]
          refine anyH_at (i := 7) (v := .int .i64 de) 12 rfl (by kernel_rfl) (by kernel_rfl) (by kernel_rfl) (by kernel_rfl) (fun _ _ _ h => h) (Or.inl ⟨by kernel_rfl, fun W hS => by go_simp⟩) hS ?_
          try simp only [Act.put, List.setIfInBounds_toArray, List.set_cons_zero, List.set_cons_succ]
          clear hS
          refine wpAnyH_done (by kernel_rfl) ?_ _
          refine noPanic_out ?_
          go_wp2_with fail
          replace HT := hide ((unhide HT).mono (U := fun j => j < w.heap.size) (fun j hj => Or.inl hj))
          clear HX HXl
          generalize doS A o = A2 at *
          obtain ⟨bm2, bpm, am, capm, eqm, hM⟩ := (unhide HT).symm.left.open
          injection eqm with eqm
          injection eqm with eqm
          injection eqm with eqm
          subst eqm
          have HM := hide hM
          clear hM
          refine wp_region_noPanic ?_
          refine wp_region_held_drew (S := fun W => W = W6.drew) (by kernel_rfl) rfl (fun hS => ?_)
          replace HT := hide ((unhide HT).below (Below.refl _ _).drew)
          replace HM := hide ((show Blk _ _ _ _ from unhide HM).keep (Below.refl _ _).drew)
          replace HB := hide (unhide HB).drew
          generalize W6.drew = V0 at *
          refine anyH_at (i := 0) (v := .int .i64 de) 76 rfl (by kernel_rfl) (by kernel_rfl) (by kernel_rfl) (by kernel_rfl) (fun _ _ _ h => h) (Or.inl ⟨by kernel_rfl, fun W hS => by go_simp⟩) hS ?_
          try simp only [Act.put, List.setIfInBounds_toArray, List.set_cons_zero, List.set_cons_succ]
          refine anyH_at (i := 1) (v := .int .i64 de) 77 rfl (by kernel_rfl) (by kernel_rfl) (by kernel_rfl) (by kernel_rfl) (fun _ _ _ h => h) (Or.inl ⟨by kernel_rfl, fun W hS => by go_simp⟩) hS ?_
          try simp only [Act.put, List.setIfInBounds_toArray, List.set_cons_zero, List.set_cons_succ]
          refine anyH_at (i := 2) (v := .bool false) 78 rfl (by kernel_rfl) (by kernel_rfl) (by kernel_rfl) (by kernel_rfl) (fun _ _ _ h => h) (Or.inl ⟨by kernel_rfl, fun W hS => by go_simp⟩) hS ?_
          try simp only [Act.put, List.setIfInBounds_toArray, List.set_cons_zero, List.set_cons_succ]
          refine anyH_at (i := 3) (v := .bool false) 79 rfl (by kernel_rfl) (by kernel_rfl) (by kernel_rfl) (by kernel_rfl) (fun _ _ _ h => h) (Or.inl ⟨by kernel_rfl, fun W hS => by go_simp⟩) hS ?_
          try simp only [Act.put, List.setIfInBounds_toArray, List.set_cons_zero, List.set_cons_succ]
          refine anyH_at (i := 4) (v := p) 80 rfl (by kernel_rfl) (by kernel_rfl) (by kernel_rfl) (by kernel_rfl) (fun _ _ _ h => h) (Or.inl ⟨by kernel_rfl, fun W hS => by go_simp⟩) hS ?_
          try simp only [Act.put, List.setIfInBounds_toArray, List.set_cons_zero, List.set_cons_succ]
          refine anyH_at (i := 6) (v := .pointer (some ⟨bm, 0, none⟩)) 82 rfl (by kernel_rfl) (by kernel_rfl) (by kernel_rfl) (by kernel_rfl) (fun _ _ _ h => h) (Or.inl ⟨by kernel_rfl, fun W hS => by go_simp⟩) hS ?_
          try simp only [Act.put, List.setIfInBounds_toArray, List.set_cons_zero, List.set_cons_succ]
          refine anyH_at (i := 7) (v := .pointer (some ⟨bm, 0, none⟩)) 83 rfl (by kernel_rfl) (by kernel_rfl) (by kernel_rfl) (by kernel_rfl) (fun _ _ _ h => h) (Or.inl ⟨by kernel_rfl, fun W hS => by go_simp⟩) hS ?_
          try simp only [Act.put, List.setIfInBounds_toArray, List.set_cons_zero, List.set_cons_succ]
          refine anyH_at (i := 8) (v := .pointer (some ⟨bm, 1, none⟩)) 84 rfl (by kernel_rfl) (by kernel_rfl) (by kernel_rfl) (by kernel_rfl) (fun _ _ _ h => h) (Or.inl ⟨by kernel_rfl, fun W hS => by go_simp⟩) hS ?_
          try simp only [Act.put, List.setIfInBounds_toArray, List.set_cons_zero, List.set_cons_succ]
          refine anyH_at (i := 9) (v := .slice am A2.W.length capm) 85 rfl (by kernel_rfl) (by kernel_rfl) (by kernel_rfl) (by kernel_rfl) (fun _ _ _ h => h) (Or.inl ⟨by kernel_rfl, fun W hS => by have c1 : V0.cell? ⟨bm, 1, none⟩ = some (.slice am A2.W.length capm) := (show Blk _ _ _ _ from unhide HM).at 1 _ rfl; go_simp⟩) hS ?_
          try simp only [Act.put, List.setIfInBounds_toArray, List.set_cons_zero, List.set_cons_succ]
          refine anyH_at (i := 10) (v := .int .i64 (A2.W.length : Int)) 86 rfl (by kernel_rfl) (by kernel_rfl) (by kernel_rfl) (by kernel_rfl) (fun _ _ _ h => h) (Or.inl ⟨by kernel_rfl, fun W hS => by go_simp⟩) hS ?_
          try simp only [Act.put, List.setIfInBounds_toArray, List.set_cons_zero, List.set_cons_succ]
          refine wpAnyH_all (rs := [5]) (by kernel_rfl) (by simp) (AllReadyH.cons (i := 5) rfl (fun KK hK => ?_) AllReadyH.nil)
          rw [if_pos (by kernel_rfl)]
          clear hS
          go_wp2_with fail
          refine (waix p _ _ _ (unhide HT).left).mono ?_
          rintro e U ⟨rfl, e1⟩
          rw [e1]
          clear e1 U
          go_wp2_with fail
          refine hK.out _ _ rfl (fun hS => ?_)
          clear hK
          try simp only [Act.put, List.setIfInBounds_toArray, List.set_cons_zero, List.set_cons_succ]
          refine anyH_at (i := 11) (v := .bool false) 87 rfl (by kernel_rfl) (by kernel_rfl) (by kernel_rfl) (by kernel_rfl) (fun _ _ _ h => h) (Or.inl ⟨by kernel_rfl, fun W hS => by go_simp⟩) hS ?_
          try simp only [Act.put, List.setIfInBounds_toArray, List.set_cons_zero, List.set_cons_succ]
          refine anyH_at (i := 12) (v := .bool false) 88 rfl (by kernel_rfl) (by kernel_rfl) (by kernel_rfl) (by kernel_rfl) (fun _ _ _ h => h) (Or.inl ⟨by kernel_rfl, fun W hS => by go_simp⟩) hS ?_
          try simp only [Act.put, List.setIfInBounds_toArray, List.set_cons_zero, List.set_cons_succ]
          refine anyH_at (i := 13) (v := .bool false) 89 rfl (by kernel_rfl) (by kernel_rfl) (by kernel_rfl) (by kernel_rfl) (fun _ _ _ h => h) (Or.inl ⟨by kernel_rfl, fun W hS => by go_simp⟩) hS ?_
          try simp only [Act.put, List.setIfInBounds_toArray, List.set_cons_zero, List.set_cons_succ]
          refine anyH_at (i := 14) (v := p) 90 rfl (by kernel_rfl) (by kernel_rfl) (by kernel_rfl) (by kernel_rfl) (fun _ _ _ h => h) (Or.inl ⟨by kernel_rfl, fun W hS => by go_simp⟩) hS ?_
          try simp only [Act.put, List.setIfInBounds_toArray, List.set_cons_zero, List.set_cons_succ]
          refine anyH_at (i := 16) (v := .pointer (some ⟨bm, 0, none⟩)) 92 rfl (by kernel_rfl) (by kernel_rfl) (by kernel_rfl) (by kernel_rfl) (fun _ _ _ h => h) (Or.inl ⟨by kernel_rfl, fun W hS => by go_simp⟩) hS ?_
          try simp only [Act.put, List.setIfInBounds_toArray, List.set_cons_zero, List.set_cons_succ]
          refine anyH_at (i := 17) (v := .pointer (some ⟨bm, 0, none⟩)) 93 rfl (by kernel_rfl) (by kernel_rfl) (by kernel_rfl) (by kernel_rfl) (fun _ _ _ h => h) (Or.inl ⟨by kernel_rfl, fun W hS => by go_simp⟩) hS ?_
          try simp only [Act.put, List.setIfInBounds_toArray, List.set_cons_zero, List.set_cons_succ]
          refine anyH_at (i := 18) (v := .pointer (some ⟨bm, 0, none⟩)) 94 rfl (by kernel_rfl) (by kernel_rfl) (by kernel_rfl) (by kernel_rfl) (fun _ _ _ h => h) (Or.inl ⟨by kernel_rfl, fun W hS => by go_simp⟩) hS ?_
          try simp only [Act.put, List.setIfInBounds_toArray, List.set_cons_zero, List.set_cons_succ]
          refine anyH_at (i := 19) (v := .slice (some ⟨bpm, 0, none⟩) A2.L.length A2.L.length) 95 rfl (by kernel_rfl) (by kernel_rfl) (by kernel_rfl) (by kernel_rfl) (fun _ _ _ h => h) (Or.inl ⟨by kernel_rfl, fun W hS => by have c1 : V0.cell? ⟨bm, 0, none⟩ = some (.slice (some ⟨bpm, 0, none⟩) A2.L.length A2.L.length) := (show Blk _ _ _ _ from unhide HM).at 0 _ rfl; go_simp⟩) hS ?_
          try simp only [Act.put, List.setIfInBounds_toArray, List.set_cons_zero, List.set_cons_succ]
          refine anyH_at (i := 20) (v := .int .i64 (A2.L.length : Int)) 96 rfl (by kernel_rfl) (by kernel_rfl) (by kernel_rfl) (by kernel_rfl) (fun _ _ _ h => h) (Or.inl ⟨by kernel_rfl, fun W hS => by go_simp⟩) hS ?_
          try simp only [Act.put, List.setIfInBounds_toArray, List.set_cons_zero, List.set_cons_succ]
          refine wpAnyH_all (rs := [15]) (by kernel_rfl) (by simp) (AllReadyH.cons (i := 15) rfl (fun KK hK => ?_) AllReadyH.nil)
          rw [if_pos (by kernel_rfl)]
          clear hS
          go_wp2_with fail
          refine (sizx p _ _ _ (unhide HT).left).mono ?_
          rintro e U ⟨rfl, e1⟩
          rw [e1]
          clear e1 U
          go_wp2_with fail
          refine hK.out _ _ rfl (fun hS => ?_)
          clear hK
          try simp only [Act.put, List.setIfInBounds_toArray, List.set_cons_zero, List.set_cons_succ]
          refine anyH_at (i := 21) (v := .bool false) 97 rfl (by kernel_rfl) (by kernel_rfl) (by kernel_rfl) (by kernel_rfl) (fun _ _ _ h => h) (Or.inl ⟨by kernel_rfl, fun W hS => by go_simp⟩) hS ?_
          try simp only [Act.put, List.setIfInBounds_toArray, List.set_cons_zero, List.set_cons_succ]
          refine anyH_at (i := 22) (v := .bool false) 98 rfl (by kernel_rfl) (by kernel_rfl) (by kernel_rfl) (by kernel_rfl) (fun _ _ _ h => h) (Or.inl ⟨by kernel_rfl, fun W hS => by go_simp⟩) hS ?_
          try simp only [Act.put, List.setIfInBounds_toArray, List.set_cons_zero, List.set_cons_succ]
          clear hS
          refine wpAnyH_done (by kernel_rfl) ?_ _
          refine noPanic_out ?_
          go_wp2_with fail
          go_roundw
          case rel => exact ⟨k + 1, A2, by omega, by go_num, HT, HB, HN2⟩
          case measure => simp [intOf]; omega
        · by_cases hk2 : o.k = 2
          · have hde : doE A o = 0 := by rw [doE, if_neg hk1]
            have hds : doS A o = crashS (fun _ => 1) A := by rw [doS, if_neg hk1, if_pos hk2]
            rw [hk2] at c0
            rw [hde]
            replace hk2 := hide hk2
            clear hde hk1
            go_wp2_with fail
            obtain ⟨Vl, g1, g2, g3, g4⟩ := (unhide HT).symm.l (unhide HXl)
            refine (rsynx _ A Vl _ g1 g3).mono ?_
            rintro e W6 ⟨rfl, hH, hkp⟩
            replace HT := hide (g4 _ _ hH hkp).symm
            replace HX := hide (hkp.blk (show Blk _ _ _ _ from unhide HX) (g2 _ (Or.inr rfl)))
            replace HB := hide ((unhide HB).trans (hkp.below (fun j hj => g2 _ (Or.inl hj))))
            clear hH hkp g1 g2 g3 g4 c0
            rw [← hds] at HT
            clear hds
            go_wp2_with fail
            replace HT := hide ((unhide HT).mono (U := fun j => j < w.heap.size) (fun j hj => Or.inl hj))
            clear HX HXl
            generalize doS A o = A2 at *
            obtain ⟨bm2, bpm, am, capm, eqm, hM⟩ := (unhide HT).symm.left.open
            injection eqm with eqm
            injection eqm with eqm
            injection eqm with eqm
            subst eqm
            have HM := hide hM
            clear hM
            refine wp_region_noPanic ?_
            refine wp_region_held_drew (S := fun W => W = W6.drew) (by kernel_rfl) rfl (fun hS => ?_)
            replace HT := hide ((unhide HT).below (Below.refl _ _).drew)
            replace HM := hide ((show Blk _ _ _ _ from unhide HM).keep (Below.refl _ _).drew)
            replace HB := hide (unhide HB).drew
            generalize W6.drew = V0 at *
            refine anyH_at (i := 0) (v := .int .i64 0) 76 rfl (by kernel_rfl) (by kernel_rfl) (by kernel_rfl) (by kernel_rfl) (fun _ _ _ h => h) (Or.inl ⟨by kernel_rfl, fun W hS => by go_simp⟩) hS ?_
            try simp only [Act.put, List.setIfInBounds_toArray, List.set_cons_zero, List.set_cons_succ]
            refine anyH_at (i := 1) (v := .int .i64 0) 77 rfl (by kernel_rfl) (by kernel_rfl) (by kernel_rfl) (by kernel_rfl) (fun _ _ _ h => h) (Or.inl ⟨by kernel_rfl, fun W hS => by go_simp⟩) hS ?_
            try simp only [Act.put, List.setIfInBounds_toArray, List.set_cons_zero, List.set_cons_succ]
            refine anyH_at (i := 2) (v := .bool false) 78 rfl (by kernel_rfl) (by kernel_rfl) (by kernel_rfl) (by kernel_rfl) (fun _ _ _ h => h) (Or.inl ⟨by kernel_rfl, fun W hS => by go_simp⟩) hS ?_
            try simp only [Act.put, List.setIfInBounds_toArray, List.set_cons_zero, List.set_cons_succ]
            refine anyH_at (i := 3) (v := .bool false) 79 rfl (by kernel_rfl) (by kernel_rfl) (by kernel_rfl) (by kernel_rfl) (fun _ _ _ h => h) (Or.inl ⟨by kernel_rfl, fun W hS => by go_simp⟩) hS ?_
            try simp only [Act.put, List.setIfInBounds_toArray, List.set_cons_zero, List.set_cons_succ]
            refine anyH_at (i := 4) (v := p) 80 rfl (by kernel_rfl) (by kernel_rfl) (by kernel_rfl) (by kernel_rfl) (fun _ _ _ h => h) (Or.inl ⟨by kernel_rfl, fun W hS => by go_simp⟩) hS ?_
            try simp only [Act.put, List.setIfInBounds_toArray, List.set_cons_zero, List.set_cons_succ]
            refine anyH_at (i := 6) (v := .pointer (some ⟨bm, 0, none⟩)) 82 rfl (by kernel_rfl) (by kernel_rfl) (by kernel_rfl) (by kernel_rfl) (fun _ _ _ h => h) (Or.inl ⟨by kernel_rfl, fun W hS => by go_simp⟩) hS ?_
            try simp only [Act.put, List.setIfInBounds_toArray, List.set_cons_zero, List.set_cons_succ]
            refine anyH_at (i := 7) (v := .pointer (some ⟨bm, 0, none⟩)) 83 rfl (by kernel_rfl) (by kernel_rfl) (by kernel_rfl) (by kernel_rfl) (fun _ _ _ h => h) (Or.inl ⟨by kernel_rfl, fun W hS => by go_simp⟩) hS ?_
            try simp only [Act.put, List.setIfInBounds_toArray, List.set_cons_zero, List.set_cons_succ]
            refine anyH_at (i := 8) (v := .pointer (some ⟨bm, 1, none⟩)) 84 rfl (by kernel_rfl) (by kernel_rfl) (by kernel_rfl) (by kernel_rfl) (fun _ _ _ h => h) (Or.inl ⟨by kernel_rfl, fun W hS => by go_simp⟩) hS ?_
            try simp only [Act.put, List.setIfInBounds_toArray, List.set_cons_zero, List.set_cons_succ]
            refine anyH_at (i := 9) (v := .slice am A2.W.length capm) 85 rfl (by kernel_rfl) (by kernel_rfl) (by kernel_rfl) (by kernel_rfl) (fun _ _ _ h => h) (Or.inl ⟨by kernel_rfl, fun W hS => by have c1 : V0.cell? ⟨bm, 1, none⟩ = some (.slice am A2.W.length capm) := (show Blk _ _ _ _ from unhide HM).at 1 _ rfl; go_simp⟩) hS ?_
            try simp only [Act.put, List.setIfInBounds_toArray, List.set_cons_zero, List.set_cons_succ]
            refine anyH_at (i := 10) (v := .int .i64 (A2.W.length : Int)) 86 rfl (by kernel_rfl) (by kernel_rfl) (by kernel_rfl) (by kernel_rfl) (fun _ _ _ h => h) (Or.inl ⟨by kernel_rfl, fun W hS => by go_simp⟩) hS ?_
            try simp only [Act.put, List.setIfInBounds_toArray, List.set_cons_zero, List.set_cons_succ]
            refine wpAnyH_all (rs := [5]) (by kernel_rfl) (by simp) (AllReadyH.cons (i := 5) rfl (fun KK hK => ?_) AllReadyH.nil)
            rw [if_pos (by kernel_rfl)]
            clear hS
            go_wp2_with fail
            refine (waix p _ _ _ (unhide HT).left).mono ?_
            rintro e U ⟨rfl, e1⟩
            rw [e1]
            clear e1 U
            go_wp2_with fail
            refine hK.out _ _ rfl (fun hS => ?_)
            clear hK
            try simp only [Act.put, List.setIfInBounds_toArray, List.set_cons_zero, List.set_cons_succ]
            refine anyH_at (i := 11) (v := .bool false) 87 rfl (by kernel_rfl) (by kernel_rfl) (by kernel_rfl) (by kernel_rfl) (fun _ _ _ h => h) (Or.inl ⟨by kernel_rfl, fun W hS => by go_simp⟩) hS ?_
            try simp only [Act.put, List.setIfInBounds_toArray, List.set_cons_zero, List.set_cons_succ]
            refine anyH_at (i := 12) (v := .bool false) 88 rfl (by kernel_rfl) (by kernel_rfl) (by kernel_rfl) (by kernel_rfl) (fun _ _ _ h => h) (Or.inl ⟨by kernel_rfl, fun W hS => by go_simp⟩) hS ?_
            try simp only [Act.put, List.setIfInBounds_toArray, List.set_cons_zero, List.set_cons_succ]
            refine anyH_at (i := 13) (v := .bool false) 89 rfl (by kernel_rfl) (by kernel_rfl) (by kernel_rfl) (by kernel_rfl) (fun _ _ _ h => h) (Or.inl ⟨by kernel_rfl, fun W hS => by go_simp⟩) hS ?_
            try simp only [Act.put, List.setIfInBounds_toArray, List.set_cons_zero, List.set_cons_succ]
            refine anyH_at (i := 14) (v := p) 90 rfl (by kernel_rfl) (by kernel_rfl) (by kernel_rfl) (by kernel_rfl) (fun _ _ _ h => h) (Or.inl ⟨by kernel_rfl, fun W hS => by go_simp⟩) hS ?_
            try simp only [Act.put, List.setIfInBounds_toArray, List.set_cons_zero, List.set_cons_succ]
            refine anyH_at (i := 16) (v := .pointer (some ⟨bm, 0, none⟩)) 92 rfl (by kernel_rfl) (by kernel_rfl) (by kernel_rfl) (by kernel_rfl) (fun _ _ _ h => h) (Or.inl ⟨by kernel_rfl, fun W hS => by go_simp⟩) hS ?_
            try simp only [Act.put, List.setIfInBounds_toArray, List.set_cons_zero, List.set_cons_succ]
            refine anyH_at (i := 17) (v := .pointer (some ⟨bm, 0, none⟩)) 93 rfl (by kernel_rfl) (by kernel_rfl) (by kernel_rfl) (by kernel_rfl) (fun _ _ _ h => h) (Or.inl ⟨by kernel_rfl, fun W hS => by go_simp⟩) hS ?_
            try simp only [Act.put, List.setIfInBounds_toArray, List.set_cons_zero, List.set_cons_succ]
            refine anyH_at (i := 18) (v := .pointer (some ⟨bm, 0, none⟩)) 94 rfl (by kernel_rfl) (by kernel_rfl) (by kernel_rfl) (by kernel_rfl) (fun _ _ _ h => h) (Or.inl ⟨by kernel_rfl, fun W hS => by go_simp⟩) hS ?_
            try simp only [Act.put, List.setIfInBounds_toArray, List.set_cons_zero, List.set_cons_succ]
            refine anyH_at (i := 19) (v := .slice (some ⟨bpm, 0, none⟩) A2.L.length A2.L.length) 95 rfl (by kernel_rfl) (by kernel_rfl) (by kernel_rfl) (by kernel_rfl) (fun _ _ _ h => h) (Or.inl ⟨by kernel_rfl, fun W hS => by have c1 : V0.cell? ⟨bm, 0, none⟩ = some (.slice (some ⟨bpm, 0, none⟩) A2.L.length A2.L.length) := (show Blk _ _ _ _ from unhide HM).at 0 _ rfl; go_simp⟩) hS ?_
            try simp only [Act.put, List.setIfInBounds_toArray, List.set_cons_zero, List.set_cons_succ]
            refine anyH_at (i := 20) (v := .int .i64 (A2.L.length : Int)) 96 rfl (by kernel_rfl) (by kernel_rfl) (by kernel_rfl) (by kernel_rfl) (fun _ _ _ h => h) (Or.inl ⟨by kernel_rfl, fun W hS => by go_simp⟩) hS ?_
            try simp only [Act.put, List.setIfInBounds_toArray, List.set_cons_zero, List.set_cons_succ]
            refine wpAnyH_all (rs := [15]) (by kernel_rfl) (by simp) (AllReadyH.cons (i := 15) rfl (fun KK hK => ?_) AllReadyH.nil)
            rw [if_pos (by kernel_rfl)]
            clear hS
            go_wp2_with fail
            refine (sizx p _ _ _ (unhide HT).left).mono ?_
            rintro e U ⟨rfl, e1⟩
            rw [e1]
            clear e1 U
            go_wp2_with fail
            refine hK.out _ _ rfl (fun hS => ?_)
            clear hK
            try simp only [Act.put, List.setIfInBounds_toArray, List.set_cons_zero, List.set_cons_succ]
            refine anyH_at (i := 21) (v := .bool false) 97 rfl (by kernel_rfl) (by kernel_rfl) (by kernel_rfl) (by kernel_rfl) (fun _ _ _ h => h) (Or.inl ⟨by kernel_rfl, fun W hS => by go_simp⟩) hS ?_
            try simp only [Act.put, List.setIfInBounds_toArray, List.set_cons_zero, List.set_cons_succ]
            refine anyH_at (i := 22) (v := .bool false) 98 rfl (by kernel_rfl) (by kernel_rfl) (by kernel_rfl) (by kernel_rfl) (fun _ _ _ h => h) (Or.inl ⟨by kernel_rfl, fun W hS => by go_simp⟩) hS ?_
            try simp only [Act.put, List.setIfInBounds_toArray, List.set_cons_zero, List.set_cons_succ]
            clear hS
            refine wpAnyH_done (by kernel_rfl) ?_ _
            refine noPanic_out ?_
            go_wp2_with fail
            go_roundw
            case rel => exact ⟨k + 1, A2, by omega, by go_num, HT, HB, HN2⟩
            case measure => simp [intOf]; omega
          · by_cases hk3 : o.k = 3
            · have hde : doE A o = 0 := by rw [doE, if_neg hk1]
              have hds : doS A o = crashS (fateN o.F) A := by rw [doS, if_neg hk1, if_neg hk2, if_pos hk3]
              rw [hk3] at c0
              rw [hde]
              have c3 : W3.cell? ⟨bo, 3, none⟩ = some (.slice o.xf o.nf o.cf) := (show Blk _ _ _ _ from unhide HX).rg 3 _ rfl
              replace hk3 := hide hk3
              clear hde hk1 hk2
              go_wp2_with fail
              obtain ⟨Vl, g1, g2, g3, g4⟩ := (unhide HT).symm.l (unhide HXl)
              refine (rcrax _ A Vl _ g1 g3 o.xf o.nf o.cf o.F (unhide HO _ (unhide HB)).f (unhide HO _ (unhide HB)).f8 (fun y e h0 => g2 _ (Or.inl (unhide HF y e h0)))).mono ?_
              rintro e W6 ⟨rfl, hH, hkp⟩
              replace HT := hide (g4 _ _ hH hkp).symm
              replace HX := hide (hkp.blk (show Blk _ _ _ _ from unhide HX) (g2 _ (Or.inr rfl)))
              replace HB := hide ((unhide HB).trans (hkp.below (fun j hj => g2 _ (Or.inl hj))))
              clear hH hkp g1 g2 g3 g4 c0 c3
              rw [← hds] at HT
              clear hds
              go_wp2_with fail
              replace HT := hide ((unhide HT).mono (U := fun j => j < w.heap.size) (fun j hj => Or.inl hj))
              clear HX HXl
              generalize doS A o = A2 at *
              obtain ⟨bm2, bpm, am, capm, eqm, hM⟩ := (unhide HT).symm.left.open
              injection eqm with eqm
              injection eqm with eqm
              injection eqm with eqm
              subst eqm
              have HM := hide hM
              clear hM
              refine wp_region_noPanic ?_
              refine wp_region_held_drew (S := fun W => W = W6.drew) (by kernel_rfl) rfl (fun hS => ?_)
              replace HT := hide ((unhide HT).below (Below.refl _ _).drew)
              replace HM := hide ((show Blk _ _ _ _ from unhide HM).keep (Below.refl _ _).drew)
              replace HB := hide (unhide HB).drew
              generalize W6.drew = V0 at *
              refine anyH_at (i := 0) (v := .int .i64 0) 76 rfl (by kernel_rfl) (by kernel_rfl) (by kernel_rfl) (by kernel_rfl) (fun _ _ _ h => h) (Or.inl ⟨by kernel_rfl, fun W hS => by go_simp⟩) hS ?_
              try simp only [Act.put, List.setIfInBounds_toArray, List.set_cons_zero, List.set_cons_succ]
              refine anyH_at (i := 1) (v := .int .i64 0) 77 rfl (by kernel_rfl) (by kernel_rfl) (by kernel_rfl) (by kernel_rfl) (fun _ _ _ h => h) (Or.inl ⟨by kernel_rfl, fun W hS => by go_simp⟩) hS ?_
              try simp only [Act.put, List.setIfInBounds_toArray, List.set_cons_zero, List.set_cons_succ]
              refine anyH_at (i := 2) (v := .bool false) 78 rfl (by kernel_rfl) (by kernel_rfl) (by kernel_rfl) (by kernel_rfl) (fun _ _ _ h => h) (Or.inl ⟨by kernel_rfl, fun W hS => by go_simp⟩) hS ?_
              try simp only [Act.put, List.setIfInBounds_toArray, List.set_cons_zero, List.set_cons_succ]
              refine anyH_at (i := 3) (v := .bool false) 79 rfl (by kernel_rfl) (by kernel_rfl) (by kernel_rfl) (by kernel_rfl) (fun _ _ _ h => h) (Or.inl ⟨by kernel_rfl, fun W hS => by go_simp⟩) hS ?_
              try simp only [Act.put, List.setIfInBounds_toArray, List.set_cons_zero, List.set_cons_succ]
              refine anyH_at (i := 4) (v := p) 80 rfl (by kernel_rfl) (by kernel_rfl) (by kernel_rfl) (by kernel_rfl) (fun _ _ _ h => h) (Or.inl ⟨by kernel_rfl, fun W hS => by go_simp⟩) hS ?_
              try simp only [Act.put, List.setIfInBounds_toArray, List.set_cons_zero, List.set_cons_succ]
              refine anyH_at (i := 6) (v := .pointer (some ⟨bm, 0, none⟩)) 82 rfl (by kernel_rfl) (by kernel_rfl) (by kernel_rfl) (by kernel_rfl) (fun _ _ _ h => h) (Or.inl ⟨by kernel_rfl, fun W hS => by go_simp⟩) hS ?_
              try simp only [Act.put, List.setIfInBounds_toArray, List.set_cons_zero, List.set_cons_succ]
              refine anyH_at (i := 7) (v := .pointer (some ⟨bm, 0, none⟩)) 83 rfl (by kernel_rfl) (by kernel_rfl) (by kernel_rfl) (by kernel_rfl) (fun _ _ _ h => h) (Or.inl ⟨by kernel_rfl, fun W hS => by go_simp⟩) hS ?_
              try simp only [Act.put, List.setIfInBounds_toArray, List.set_cons_zero, List.set_cons_succ]
              refine anyH_at (i := 8) (v := .pointer (some ⟨bm, 1, none⟩)) 84 rfl (by kernel_rfl) (by kernel_rfl) (by kernel_rfl) (by kernel_rfl) (fun _ _ _ h => h) (Or.inl ⟨by kernel_rfl, fun W hS => by go_simp⟩) hS ?_
              try simp only [Act.put, List.setIfInBounds_toArray, List.set_cons_zero, List.set_cons_succ]
              refine anyH_at (i := 9) (v := .slice am A2.W.length capm) 85 rfl (by kernel_rfl) (by kernel_rfl) (by kernel_rfl) (by kernel_rfl) (fun _ _ _ h => h) (Or.inl ⟨by kernel_rfl, fun W hS => by have c1 : V0.cell? ⟨bm, 1, none⟩ = some (.slice am A2.W.length capm) := (show Blk _ _ _ _ from unhide HM).at 1 _ rfl; go_simp⟩) hS ?_
              try simp only [Act.put, List.setIfInBounds_toArray, List.set_cons_zero, List.set_cons_succ]
              refine anyH_at (i := 10) (v := .int .i64 (A2.W.length : Int)) 86 rfl (by kernel_rfl) (by kernel_rfl) (by kernel_rfl) (by kernel_rfl) (fun _ _ _ h => h) (Or.inl ⟨by kernel_rfl, fun W hS => by go_simp⟩) hS ?_
              try simp only [Act.put, List.setIfInBounds_toArray, List.set_cons_zero, List.set_cons_succ]
              refine wpAnyH_all (rs := [5]) (by kernel_rfl) (by simp) (AllReadyH.cons (i := 5) rfl (fun KK hK => ?_) AllReadyH.nil)
              rw [if_pos (by kernel_rfl)]
              clear hS
              go_wp2_with fail
              refine (waix p _ _ _ (unhide HT).left).mono ?_
              rintro e U ⟨rfl, e1⟩
              rw [e1]
              clear e1 U
              go_wp2_with fail
              refine hK.out _ _ rfl (fun hS => ?_)
              clear hK
              try simp only [Act.put, List.setIfInBounds_toArray, List.set_cons_zero, List.set_cons_succ]
              refine anyH_at (i := 11) (v := .bool false) 87 rfl (by kernel_rfl) (by kernel_rfl) (by kernel_rfl) (by kernel_rfl) (fun _ _ _ h => h) (Or.inl ⟨by kernel_rfl, fun W hS => by go_simp⟩) hS ?_
              try simp only [Act.put, List.setIfInBounds_toArray, List.set_cons_zero, List.set_cons_succ]
              refine anyH_at (i := 12) (v := .bool false) 88 rfl (by kernel_rfl) (by kernel_rfl) (by kernel_rfl) (by kernel_rfl) (fun _ _ _ h => h) (Or.inl ⟨by kernel_rfl, fun W hS => by go_simp⟩) hS ?_
              try simp only [Act.put, List.setIfInBounds_toArray, List.set_cons_zero, List.set_cons_succ]
              refine anyH_at (i := 13) (v := .bool false) 89 rfl (by kernel_rfl) (by kernel_rfl) (by kernel_rfl) (by kernel_rfl) (fun _ _ _ h => h) (Or.inl ⟨by kernel_rfl, fun W hS => by go_simp⟩) hS ?_
              try simp only [Act.put, List.setIfInBounds_toArray, List.set_cons_zero, List.set_cons_succ]
              refine anyH_at (i := 14) (v := p) 90 rfl (by kernel_rfl) (by kernel_rfl) (by kernel_rfl) (by kernel_rfl) (fun _ _ _ h => h) (Or.inl ⟨by kernel_rfl, fun W hS => by go_simp⟩) hS ?_
              try simp only [Act.put, List.setIfInBounds_toArray, List.set_cons_zero, List.set_cons_succ]
              refine anyH_at (i := 16) (v := .pointer (some ⟨bm, 0, none⟩)) 92 rfl (by kernel_rfl) (by kernel_rfl) (by kernel_rfl) (by kernel_rfl) (fun _ _ _ h => h) (Or.inl ⟨by kernel_rfl, fun W hS => by go_simp⟩) hS ?_
              try simp only [Act.put, List.setIfInBounds_toArray, List.set_cons_zero, List.set_cons_succ]
              refine anyH_at (i := 17) (v := .pointer (some ⟨bm, 0, none⟩)) 93 rfl (by kernel_rfl) (by kernel_rfl) (by kernel_rfl) (by kernel_rfl) (fun _ _ _ h => h) (Or.inl ⟨by kernel_rfl, fun W hS => by go_simp⟩) hS ?_
              try simp only [Act.put, List.setIfInBounds_toArray, List.set_cons_zero, List.set_cons_succ]
              refine anyH_at (i := 18) (v := .pointer (some ⟨bm, 0, none⟩)) 94 rfl (by kernel_rfl) (by kernel_rfl) (by kernel_rfl) (by kernel_rfl) (fun _ _ _ h => h) (Or.inl ⟨by kernel_rfl, fun W hS => by go_simp⟩) hS ?_
              try simp only [Act.put, List.setIfInBounds_toArray, List.set_cons_zero, List.set_cons_succ]
              refine anyH_at (i := 19) (v := .slice (some ⟨bpm, 0, none⟩) A2.L.length A2.L.length) 95 rfl (by kernel_rfl) (by kernel_rfl) (by kernel_rfl) (by kernel_rfl) (fun _ _ _ h => h) (Or.inl ⟨by kernel_rfl, fun W hS => by have c1 : V0.cell? ⟨bm, 0, none⟩ = some (.slice (some ⟨bpm, 0, none⟩) A2.L.length A2.L.length) := (show Blk _ _ _ _ from unhide HM).at 0 _ rfl; go_simp⟩) hS ?_
              try simp only [Act.put, List.setIfInBounds_toArray, List.set_cons_zero, List.set_cons_succ]
              refine anyH_at (i := 20) (v := .int .i64 (A2.L.length : Int)) 96 rfl (by kernel_rfl) (by kernel_rfl) (by kernel_rfl) (by kernel_rfl) (fun _ _ _ h => h) (Or.inl ⟨by kernel_rfl, fun W hS => by go_simp⟩) hS ?_
              try simp only [Act.put, List.setIfInBounds_toArray, List.set_cons_zero, List.set_cons_succ]
              refine wpAnyH_all (rs := [15]) (by kernel_rfl) (by simp) (AllReadyH.cons (i := 15) rfl (fun KK hK => ?_) AllReadyH.nil)
              rw [if_pos (by kernel_rfl)]
              clear hS
              go_wp2_with fail
              refine (sizx p _ _ _ (unhide HT).left).mono ?_
              rintro e U ⟨rfl, e1⟩
              rw [e1]
              clear e1 U
              go_wp2_with fail
              refine hK.out _ _ rfl (fun hS => ?_)
              clear hK
              try simp only [Act.put, List.setIfInBounds_toArray, List.set_cons_zero, List.set_cons_succ]
              refine anyH_at (i := 21) (v := .bool false) 97 rfl (by kernel_rfl) (by kernel_rfl) (by kernel_rfl) (by kernel_rfl) (fun _ _ _ h => h) (Or.inl ⟨by kernel_rfl, fun W hS => by go_simp⟩) hS ?_
              try simp only [Act.put, List.setIfInBounds_toArray, List.set_cons_zero, List.set_cons_succ]
              refine anyH_at (i := 22) (v := .bool false) 98 rfl (by kernel_rfl) (by kernel_rfl) (by kernel_rfl) (by kernel_rfl) (fun _ _ _ h => h) (Or.inl ⟨by kernel_rfl, fun W hS => by go_simp⟩) hS ?_
              try simp only [Act.put, List.setIfInBounds_toArray, List.set_cons_zero, List.set_cons_succ]
              clear hS
              refine wpAnyH_done (by kernel_rfl) ?_ _
              refine noPanic_out ?_
              go_wp2_with fail
              go_roundw
              case rel => exact ⟨k + 1, A2, by omega, by go_num, HT, HB, HN2⟩
              case measure => simp [intOf]; omega
            · have hde : doE A o = 0 := by rw [doE, if_neg hk1]
              have hds : doS A o = A := by rw [doS, if_neg hk1, if_neg hk2, if_neg hk3]
              rw [hde]
              have HT2 : Hid (Two LP LR (fun j => j < w.heap.size ∨ j = bo) W3 p (.pointer (some ⟨bm, 0, none⟩)) (doS A o) (doS A o)) := by rw [hds] at HT ⊢; exact HT
              replace HT := HT2
              clear hde hds HT2
              go_wp2_with fail
              clear hk1 hk2 hk3 c0
              replace HT := hide ((unhide HT).mono (U := fun j => j < w.heap.size) (fun j hj => Or.inl hj))
              clear HX HXl
              generalize doS A o = A2 at *
              obtain ⟨bm2, bpm, am, capm, eqm, hM⟩ := (unhide HT).symm.left.open
              injection eqm with eqm
              injection eqm with eqm
              injection eqm with eqm
              subst eqm
              have HM := hide hM
              clear hM
              refine wp_region_noPanic ?_
              refine wp_region_held_drew (S := fun W => W = W3.drew) (by kernel_rfl) rfl (fun hS => ?_)
              replace HT := hide ((unhide HT).below (Below.refl _ _).drew)
              replace HM := hide ((show Blk _ _ _ _ from unhide HM).keep (Below.refl _ _).drew)
              replace HB := hide (unhide HB).drew
              generalize W3.drew = V0 at *
              refine anyH_at (i := 0) (v := .int .i64 0) 76 rfl (by kernel_rfl) (by kernel_rfl) (by kernel_rfl) (by kernel_rfl) (fun _ _ _ h => h) (Or.inl ⟨by kernel_rfl, fun W hS => by go_simp⟩) hS ?_
              try simp only [Act.put, List.setIfInBounds_toArray, List.set_cons_zero, List.set_cons_succ]
              refine anyH_at (i := 1) (v := .int .i64 0) 77 rfl (by kernel_rfl) (by kernel_rfl) (by kernel_rfl) (by kernel_rfl) (fun _ _ _ h => h) (Or.inl ⟨by kernel_rfl, fun W hS => by go_simp⟩) hS ?_
              try simp only [Act.put, List.setIfInBounds_toArray, List.set_cons_zero, List.set_cons_succ]
              refine anyH_at (i := 2) (v := .bool false) 78 rfl (by kernel_rfl) (by kernel_rfl) (by kernel_rfl) (by kernel_rfl) (fun _ _ _ h => h) (Or.inl ⟨by kernel_rfl, fun W hS => by go_simp⟩) hS ?_
              try simp only [Act.put, List.setIfInBounds_toArray, List.set_cons_zero, List.set_cons_succ]
              refine anyH_at (i := 3) (v := .bool false) 79 rfl (by kernel_rfl) (by kernel_rfl) (by kernel_rfl) (by kernel_rfl) (fun _ _ _ h => h) (Or.inl ⟨by kernel_rfl, fun W hS => by go_simp⟩) hS ?_
              try simp only [Act.put, List.setIfInBounds_toArray, List.set_cons_zero, List.set_cons_succ]
              refine anyH_at (i := 4) (v := p) 80 rfl (by kernel_rfl) (by kernel_rfl) (by kernel_rfl) (by kernel_rfl) (fun _ _ _ h => h) (Or.inl ⟨by kernel_rfl, fun W hS => by go_simp⟩) hS ?_
              try simp only [Act.put, List.setIfInBounds_toArray, List.set_cons_zero, List.set_cons_succ]
              refine anyH_at (i := 6) (v := .pointer (some ⟨bm, 0, none⟩)) 82 rfl (by kernel_rfl) (by kernel_rfl) (by kernel_rfl) (by kernel_rfl) (fun _ _ _ h => h) (Or.inl ⟨by kernel_rfl, fun W hS => by go_simp⟩) hS ?_
              try simp only [Act.put, List.setIfInBounds_toArray, List.set_cons_zero, List.set_cons_succ]
              refine anyH_at (i := 7) (v := .pointer (some ⟨bm, 0, none⟩)) 83 rfl (by kernel_rfl) (by kernel_rfl) (by kernel_rfl) (by kernel_rfl) (fun _ _ _ h => h) (Or.inl ⟨by kernel_rfl, fun W hS => by go_simp⟩) hS ?_
              try simp only [Act.put, List.setIfInBounds_toArray, List.set_cons_zero, List.set_cons_succ]
              refine anyH_at (i := 8) (v := .pointer (some ⟨bm, 1, none⟩)) 84 rfl (by kernel_rfl) (by kernel_rfl) (by kernel_rfl) (by kernel_rfl) (fun _ _ _ h => h) (Or.inl ⟨by kernel_rfl, fun W hS => by go_simp⟩) hS ?_
              try simp only [Act.put, List.setIfInBounds_toArray, List.set_cons_zero, List.set_cons_succ]
              refine anyH_at (i := 9) (v := .slice am A2.W.length capm) 85 rfl (by kernel_rfl) (by kernel_rfl) (by kernel_rfl) (by kernel_rfl) (fun _ _ _ h => h) (Or.inl ⟨by kernel_rfl, fun W hS => by have c1 : V0.cell? ⟨bm, 1, none⟩ = some (.slice am A2.W.length capm) := (show Blk _ _ _ _ from unhide HM).at 1 _ rfl; go_simp⟩) hS ?_
              try simp only [Act.put, List.setIfInBounds_toArray, List.set_cons_zero, List.set_cons_succ]
              refine anyH_at (i := 10) (v := .int .i64 (A2.W.length : Int)) 86 rfl (by kernel_rfl) (by kernel_rfl) (by kernel_rfl) (by kernel_rfl) (fun _ _ _ h => h) (Or.inl ⟨by kernel_rfl, fun W hS => by go_simp⟩) hS ?_
              try simp only [Act.put, List.setIfInBounds_toArray, List.set_cons_zero, List.set_cons_succ]
              refine wpAnyH_all (rs := [5]) (by kernel_rfl) (by simp) (AllReadyH.cons (i := 5) rfl (fun KK hK => ?_) AllReadyH.nil)
              rw [if_pos (by kernel_rfl)]
              clear hS
              go_wp2_with fail
              refine (waix p _ _ _ (unhide HT).left).mono ?_
              rintro e U ⟨rfl, e1⟩
              rw [e1]
              clear e1 U
              go_wp2_with fail
              refine hK.out _ _ rfl (fun hS => ?_)
              clear hK
              try simp only [Act.put, List.setIfInBounds_toArray, List.set_cons_zero, List.set_cons_succ]
              refine anyH_at (i := 11) (v := .bool false) 87 rfl (by kernel_rfl) (by kernel_rfl) (by kernel_rfl) (by kernel_rfl) (fun _ _ _ h => h) (Or.inl ⟨by kernel_rfl, fun W hS => by go_simp⟩) hS ?_
              try simp only [Act.put, List.setIfInBounds_toArray, List.set_cons_zero, List.set_cons_succ]
              refine anyH_at (i := 12) (v := .bool false) 88 rfl (by kernel_rfl) (by kernel_rfl) (by kernel_rfl) (by kernel_rfl) (fun _ _ _ h => h) (Or.inl ⟨by kernel_rfl, fun W hS => by go_simp⟩) hS ?_
              try simp only [Act.put, List.setIfInBounds_toArray, List.set_cons_zero, List.set_cons_succ]
              refine anyH_at (i := 13) (v := .bool false) 89 rfl (by kernel_rfl) (by kernel_rfl) (by kernel_rfl) (by kernel_rfl) (fun _ _ _ h => h) (Or.inl ⟨by kernel_rfl, fun W hS => by go_simp⟩) hS ?_
              try simp only [Act.put, List.setIfInBounds_toArray, List.set_cons_zero, List.set_cons_succ]
              refine anyH_at (i := 14) (v := p) 90 rfl (by kernel_rfl) (by kernel_rfl) (by kernel_rfl) (by kernel_rfl) (fun _ _ _ h => h) (Or.inl ⟨by kernel_rfl, fun W hS => by go_simp⟩) hS ?_
              try simp only [Act.put, List.setIfInBounds_toArray, List.set_cons_zero, List.set_cons_succ]
              refine anyH_at (i := 16) (v := .pointer (some ⟨bm, 0, none⟩)) 92 rfl (by kernel_rfl) (by kernel_rfl) (by kernel_rfl) (by kernel_rfl) (fun _ _ _ h => h) (Or.inl ⟨by kernel_rfl, fun W hS => by go_simp⟩) hS ?_
              try simp only [Act.put, List.setIfInBounds_toArray, List.set_cons_zero, List.set_cons_succ]
              refine anyH_at (i := 17) (v := .pointer (some ⟨bm, 0, none⟩)) 93 rfl (by kernel_rfl) (by kernel_rfl) (by kernel_rfl) (by kernel_rfl) (fun _ _ _ h => h) (Or.inl ⟨by kernel_rfl, fun W hS => by go_simp⟩) hS ?_
              try simp only [Act.put, List.setIfInBounds_toArray, List.set_cons_zero, List.set_cons_succ]
              refine anyH_at (i := 18) (v := .pointer (some ⟨bm, 0, none⟩)) 94 rfl (by kernel_rfl) (by kernel_rfl) (by kernel_rfl) (by kernel_rfl) (fun _ _ _ h => h) (Or.inl ⟨by kernel_rfl, fun W hS => by go_simp⟩) hS ?_
              try simp only [Act.put, List.setIfInBounds_toArray, List.set_cons_zero, List.set_cons_succ]
              refine anyH_at (i := 19) (v := .slice (some ⟨bpm, 0, none⟩) A2.L.length A2.L.length) 95 rfl (by kernel_rfl) (by kernel_rfl) (by kernel_rfl) (by kernel_rfl) (fun _ _ _ h => h) (Or.inl ⟨by kernel_rfl, fun W hS => by have c1 : V0.cell? ⟨bm, 0, none⟩ = some (.slice (some ⟨bpm, 0, none⟩) A2.L.length A2.L.length) := (show Blk _ _ _ _ from unhide HM).at 0 _ rfl; go_simp⟩) hS ?_
              try simp only [Act.put, List.setIfInBounds_toArray, List.set_cons_zero, List.set_cons_succ]
              refine anyH_at (i := 20) (v := .int .i64 (A2.L.length : Int)) 96 rfl (by kernel_rfl) (by kernel_rfl) (by kernel_rfl) (by kernel_rfl) (fun _ _ _ h => h) (Or.inl ⟨by kernel_rfl, fun W hS => by go_simp⟩) hS ?_
              try simp only [Act.put, List.setIfInBounds_toArray, List.set_cons_zero, List.set_cons_succ]
              refine wpAnyH_all (rs := [15]) (by kernel_rfl) (by simp) (AllReadyH.cons (i := 15) rfl (fun KK hK => ?_) AllReadyH.nil)
              rw [if_pos (by kernel_rfl)]
              clear hS
              go_wp2_with fail
              refine (sizx p _ _ _ (unhide HT).left).mono ?_
              rintro e U ⟨rfl, e1⟩
              rw [e1]
              clear e1 U
              go_wp2_with fail
              refine hK.out _ _ rfl (fun hS => ?_)
              clear hK
              try simp only [Act.put, List.setIfInBounds_toArray, List.set_cons_zero, List.set_cons_succ]
              refine anyH_at (i := 21) (v := .bool false) 97 rfl (by kernel_rfl) (by kernel_rfl) (by kernel_rfl) (by kernel_rfl) (fun _ _ _ h => h) (Or.inl ⟨by kernel_rfl, fun W hS => by go_simp⟩) hS ?_
              try simp only [Act.put, List.setIfInBounds_toArray, List.set_cons_zero, List.set_cons_succ]
              refine anyH_at (i := 22) (v := .bool false) 98 rfl (by kernel_rfl) (by kernel_rfl) (by kernel_rfl) (by kernel_rfl) (fun _ _ _ h => h) (Or.inl ⟨by kernel_rfl, fun W hS => by go_simp⟩) hS ?_
              try simp only [Act.put, List.setIfInBounds_toArray, List.set_cons_zero, List.set_cons_succ]
              clear hS
              refine wpAnyH_done (by kernel_rfl) ?_ _
              refine noPanic_out ?_
              go_wp2_with fail
              go_roundw
              case rel => exact ⟨k + 1, A2, by omega, by go_num, HT, HB, HN2⟩
              case measure => simp [intOf]; omega
      · obtain rfl : k = len := by omega
        have HG := hide (unhide HT).left.good
        obtain ⟨bm2, bpm, am, capm, eqm, hM⟩ := (unhide HT).symm.left.open
        injection eqm with eqm
        injection eqm with eqm
        injection eqm with eqm
        subst eqm
        have HM := hide hM
        clear hM
        have hn2 := unhide HN2'
        have hln := unhide HN
        obtain ⟨top, htop⟩ : ∃ top : Nat, top = min n 200 := ⟨_, rfl⟩
        have hmin : (if (200 : Int) < (A.L.length : Int) then (200 : Int) else (A.L.length : Int)) = (top : Int) := by split <;> omega
        have HV0 := hide (Below.refl wr.heap.size wr)
        replace hln := hide hln
        replace htop' := hide htop
        have htl : top ≤ 200 := by omega
        clear htop
        go_wp2_with fail
        go_loopw [13] (fun i wv => ∃ j : Nat, j ≤ top + 2 ∧ i = .int .i64 ((j : Int) - 1) ∧ Hid (Below wr.heap.size wr wv)) (fun i _ => (top + 2) - (intOf i + 1).toNat)
        case atStart => exact ⟨0, by omega, rfl, HV0⟩
        case round =>
          clear HV0
          obtain ⟨j, hj, rfl, HZ⟩ := hrel
          have c0 := ((show Blk _ _ _ _ from unhide HM).keep (unhide HZ)).at 0 _ rfl
          by_cases hj2 : j ≤ top + 1
          · have hjt : (j : Int) - 1 ≤ (top : Int) := by omega
            have hwr2 : IntKind.i64.wrap ((j : Int) - 1 + 1) = ((j + 1 : Nat) : Int) - 1 := by rw [IntKind.wrap_i64]; omega
            have hy64 := rdB_len (unhide HG) ((j : Int) - 1)
            have HR1 := hide (fun W h => reax p A (fun j => j < w.heap.size) W h ((j : Int) - 1))
            have HR2 := hide (fun W h => rreax (.pointer (some ⟨bm, 0, none⟩)) A (fun j => j < w.heap.size) W h ((j : Int) - 1))
            generalize hja : (j : Int) - 1 = ja at *
            replace hja := hide hja
            generalize rdB A ja = y at *
            generalize rdE A ja = ye at *
            have he := fun W => eq37 y hy64 W
            have hg := gd37
            have hyl := hide (show (byv y).length = 64 by rw [byv_len]; exact hy64)
            have hvs := (unhide HZ).size
            clear hy64
            go_wp2_with fail
            refine (unhide HR1 _ ((unhide HT).left.below (unhide HZ))).mono ?_
            rintro e U3 ⟨rfl, hb⟩
            replace HZ := hide (below_via (unhide HZ) hb)
            clear hb c0
            go_wp2_with (refine alloc_rg rfl 45 rfl al45 ?_)
            intro U4 H9 hb
            replace H9 := hide H9
            have hz3 := (unhide HZ).size
            replace HZ := hide (below_via (unhide HZ) hb)
            clear hb
            generalize U3.heap.size = b9 at *
            go_wp2_with (refine store_all (l := byv y) rfl 45 _ _ rfl (unhide H9) rfl rfl size45 (by rw [List.size_toArray, byv_len, zs_len]) (unhide hyl) (one_byv _) ?_)
            intro U5 H92 hb
            replace H9 := hide H92
            replace HZ := hide ((unhide HZ).trans (hb.below (fun k e => by omega) (unhide HZ).size))
            clear hb H92
            go_wp2_with fail
            refine (unhide HR2 _ ((unhide HT).symm.left.below (unhide HZ))).mono ?_
            rintro e U6 ⟨rfl, hb⟩
            replace H9 := hide ((show Blk _ _ _ _ from unhide H9).keep hb)
            replace HZ := hide (below_via (unhide HZ) hb)
            have h9l := (show Blk _ _ _ _ from unhide H9).lt
            clear hb
            go_wp2_with (refine alloc_rg rfl 37 rfl al37 ?_)
            intro U7 H10 hb
            replace H10 := hide H10
            replace H9 := hide ((show Blk _ _ _ _ from unhide H9).keep hb)
            have hz4 := (unhide HZ).size
            replace HZ := hide (below_via (unhide HZ) hb)
            clear hb
            generalize U6.heap.size = b10 at *
            go_wp2_with (refine store_all (l := byv y) rfl 37 _ _ rfl (unhide H10) rfl rfl size37 (by rw [List.size_toArray, byv_len, zs_len]) (unhide hyl) (one_byv _) ?_)
            intro U8 H102 hb
            replace H10 := hide H102
            replace H9 := hide (hb.blk (show Blk _ _ _ _ from unhide H9) (by omega))
            replace HZ := hide ((unhide HZ).trans (hb.below (fun k e => by omega) (unhide HZ).size))
            clear hb H102 hz3 h9l hvs hz4
            go_wp2_with (first | refine load_rg (l := byv y) rfl 45 _ rfl (show Blk _ _ _ _ from unhide H9).rg rfl row45 size45 (unhide hyl) ?_ | refine load_rg (l := byv y) rfl 37 _ rfl (show Blk _ _ _ _ from unhide H10).rg rfl row37 size37 (unhide hyl) ?_)
            go_roundw
            case rel => exact ⟨j + 1, by omega, by first | rfl | (congr 1; omega) | go_num, HZ⟩
            case measure => have := unhide hja; simp [intOf]; omega
          · have hjt : ¬ (j : Int) - 1 ≤ (top : Int) := by omega
            go_wp2_with fail
            go_ret
            exact ⟨rfl, below_via (unhide HB) (unhide HZ)⟩
  · refine (new_no xn _ hbl).mono ?_
    rintro e w3 ⟨rfl, e1⟩
    rw [e1]
    clear e1 w3
    go_wp2_with fail
    refine (rnew_no xn _ hbl).mono ?_
    rintro e w3 ⟨rfl, e1⟩
    rw [e1]
    clear e1 w3
    go_wp2_with fail
    go_ret
    exact ⟨rfl, unhide HB⟩
theorem own : ownKnob Try.prog.godebug = none := by kernel_rfl
theorem laidOut : laidOutB Try.prog = true := by kernel_rfl
set_option linter.unusedVariables false in
set_option maxRecDepth 100000 in
theorem lifted (os : Os) (started : os.Started) (H : Type) (enc : TypeId × Value → H) :
    ReturnsInHanded {} Try.checked os 3 .any (Rows.blockPlaysSpec.pre6 enc Try.prog Try.f3 Rows.blockPlaysRow.domain false) (Rows.blockPlaysSpec.post enc Try.prog Try.f3 false true false false) := by
  refine returnsInHanded_of_change (C := Try.checked) own started (by kernel_rfl) Try.func3
    (ChangeSpec.witness6 (enc := enc) (C := Try.checked) false ⟨#[], #[.int .i64 0, .slice none 0 0], []⟩ 8 (by kernel_rfl) (by kernel_rfl) (by kernel_rfl) (by kernel_rfl)) ?_
  intro W base args ds gs before hval0 hW hcnd _
  have hval : ∀ (j : Nat) t v, Try.f3.params[j]? = some t → args[j]? = some v → Value.okWide Try.prog W .any base t v := hval0
  have hW' := hW
  obtain ⟨p, q, hA0, hV, rfl, hfz, hnd⟩ := hW
  have hA : DataW.TrodAll enc Try.prog W 0 (fun _ => true) true Try.f3.params.toList args.toList ds p := hA0
  rw [Try.params3] at hA hval
  obtain ⟨v0, vs0, d0, ds0, p0, q0, hargs, rfl, rfl, h0, r0⟩ := trodAll_cons hA
  obtain ⟨v1, vs1, d1, ds1, p1, q1, rfl, rfl, rfl, h1, r1⟩ := trodAll_cons r0
  obtain ⟨rfl, rfl, rfl⟩ := trodAll_nil r1
  obtain rfl : args = #[v0, v1] := by cases args; simp_all
  obtain ⟨rfl, rfl⟩ := trodVars_none hV
  have k0 := h0
  have lt0 : ∀ x ∈ p0, x.block < W.heap.size := by obtain ⟨m, hm⟩ := k0; exact DataW.trod_lt m _ _ _ hm
  obtain ⟨xn0, rfl⟩ := okWide_int Try.underlying3 (hval 0 3 v0 rfl rfl)
  have k1 := h1
  have lt1 : ∀ x ∈ p1, x.block < W.heap.size := by obtain ⟨m, hm⟩ := k1; exact DataW.trod_lt m _ _ _ hm
  obtain ⟨a1, len1, cap1, rfl⟩ := okWide_slice Try.underlying22 (hval 1 22 v1 rfl rfl)
  obtain ⟨l1, hr1⟩ : ∃ l : List Opx, Ops W (.slice a1 len1 cap1) l := by
    obtain ⟨fuel, hf⟩ := h1
    exact ops_open hf
  clear hA0 hval0
  refine (walk xn0 _ l1 W hr1).mono fun e W' ⟨he, bel⟩ => ?_
  subst he
  exact ⟨_, rfl, _, _, _, [], _, [], hW', trodAll_mk1 (shut_bool Try.underlying4 _), (trodAll_cons_mk (Below.trod laidOut (by kernel_rfl) (of_decide_eq_true (by kernel_rfl)) k0 bel lt0) (trodAll_cons_mk (Below.trod laidOut (by kernel_rfl) (of_decide_eq_true (by kernel_rfl)) k1 bel lt1) trodAll_mk0)), rfl, bel.frame _, fun h => by cases h⟩
theorem over : Rows.blockPlaysRow.holds Try.pinned (OpenSpec.ofChange Rows.blockPlaysSpec) :=
  OpenClaim.holds_of_wide 3 Try.f3 rfl rfl rfl rfl rfl rfl rfl ⟨rfl, rfl, rfl, rfl, rfl⟩ rfl rfl rfl rfl rfl (by kernel_rfl) Try.func3 (by kernel_rfl)
    (of_decide_eq_true (by kernel_rfl)) (by unfold Func.isWrapper; first | (rw [if_pos (by decide +kernel)]; kernel_rfl) | (rw [if_neg (by decide +kernel)]; exact ⟨rfl, rfl⟩))
    (fun os started H enc _ => lifted os started H enc)
theorem proved : Rows.BlockPlaysSaid := over
end Go.Proofs.Ytdbefnghljjieaa.blockPlays
namespace Go.Proofs.Ytdbefnghljjieaa
theorem blockPlays_holds : Rows.BlockPlaysSaid := blockPlays.proved
end Go.Proofs.Ytdbefnghljjieaa
