/- Proved here: BlockLasts: what was synced lasts through any crash, if it isn't written again; with fates of 1 alone a crash is a sync. No condition. -/
import Derived.Test.YtdbefnghljjieaaLsp
namespace Go.Proofs.Ytdbefnghljjieaa.blockLasts
open Go.ChangeShapes Go.WideShapes Go.ChangeAt Go.RowKit
set_option linter.unusedVariables false
set_option linter.unusedSimpArgs false
theorem ints_set' (l : List Int) (k : Nat) (x : Int) : ((ints l).set k (.int .i64 x)).toArray = (ints (l.set k x)).toArray := by rw [← ints_set, List.setIfInBounds_toArray]
theorem bools_set' (l : List Bool) (k : Nat) (x : Bool) : ((bools l).set k (.bool x)).toArray = (bools (l.set k x)).toArray := by rw [← bools_set, List.setIfInBounds_toArray]
theorem Two.moreP {Y Z : Lay} {X P : Nat → Prop} {w : World} {p q : Value} {A B : Stt} (h : Two Y Z X w p q A B) (hP : ∀ k, P k → w.heap.size ≤ k) : Two Y Z (fun k => X k ∨ P k) w p q A B := by
  obtain ⟨F, G, h1, h2, h3, h4, h5⟩ := h
  refine ⟨F, G, h1, h2, h3, fun k hk u => ?_, fun k hk u => ?_⟩
  · rcases u with u | u
    · exact h4 k hk u
    · have := h1.lt k hk; have := hP k u; omega
  · rcases u with u | u
    · exact h5 k hk u
    · have := h2.lt k hk; have := hP k u; omega
theorem row_kp {m : Nat} {X : Nat → Prop} {w w' : World} {x : Option Addr} {n c : Nat} {l : List (List Value)} (h : RowG m w (.slice x n c) l) (hb : Kp X w w') (hn : ∀ y, x = some y → 0 < n → X y.block) : RowG m w' (.slice x n c) l := by
  rcases h with h | ⟨b, off, cap, h1, h2, h3, h6, h4, h5⟩
  · exact Or.inl h
  · injection h1 with e1 e2 e3
    subst e1 e3
    exact Or.inr ⟨b, off, _, by rw [e2], h2, h3, h6, fun j hj t ht => (World.cell?_of_block (w := w) (hb.block b (hn ⟨b, off, none⟩ rfl (by omega)))).trans (h4 j hj t ht), h5⟩
set_option maxHeartbeats 16000000 in
set_option maxRecDepth 20000 in
theorem walk (v : Value) (l : List Opx) (v2 : Value) (r : List Opx) (w : World) (h : Ops w v l) (h2 : Ops w v2 r) : Calls Try.prog 4 #[v, v2] w fun r w' => r = .returned (.bool true) ∧ Below w.heap.size w w' := by
  obtain ⟨x, cap, rfl⟩ := rowG_slice h.row
  rw [List.length_map] at *
  have hmx := rowG_max h.row
  rw [List.length_map] at hmx
  have HC : Hid (∀ k o, l[k]? = some o → ∀ W, Below w.heap.size w W → ∃ b off, x = some ⟨b, off, none⟩ ∧ W.rangeAt b (off + k * 4) (opL o)) := hide (fun k o hk W hb => row_range (h.row.keep hb) (by rw [List.getElem?_map, hk]; rfl))
  have HI := hide (fun (k : Nat) (hk : k < l.length) => (⟨l[k], by simp [hk]⟩ : ∃ o, l[k]? = some o))
  have HOk : Hid (∀ o ∈ l, ∀ W, Below w.heap.size w W → OpOk W o) := hide (fun o ho W hb => (h.ok o ho).keep hb)
  have HBl : Hid (∀ o ∈ l, ∀ y, o.xf = some y → 0 < o.nf → y.block < w.heap.size) := hide (fun o ho => row_lt (h.ok o ho).f)
  have HS := hide h
  clear h
  generalize hlen : l.length = len at *
  replace hlen := hide hlen
  obtain ⟨x2, cap2, rfl⟩ := rowG_slice h2.row
  rw [List.length_map] at *
  have hmx2 := rowG_max h2.row
  rw [List.length_map] at hmx2
  have HC2 : Hid (∀ k o, r[k]? = some o → ∀ W, Below w.heap.size w W → ∃ b off, x2 = some ⟨b, off, none⟩ ∧ W.rangeAt b (off + k * 4) (opL o)) := hide (fun k o hk W hb => row_range (h2.row.keep hb) (by rw [List.getElem?_map, hk]; rfl))
  have HI2 := hide (fun (k : Nat) (hk : k < r.length) => (⟨r[k], by simp [hk]⟩ : ∃ o, r[k]? = some o))
  have HOk2 : Hid (∀ o ∈ r, ∀ W, Below w.heap.size w W → OpOk W o) := hide (fun o ho W hb => (h2.ok o ho).keep hb)
  have HBl2 : Hid (∀ o ∈ r, ∀ y, o.xf = some y → 0 < o.nf → y.block < w.heap.size) := hide (fun o ho => row_lt (h2.ok o ho).f)
  have HS2 := hide h2
  clear h2
  generalize hlen2 : r.length = len2 at *
  replace hlen2 := hide hlen2
  go_enter Try.func4, Try.ntmps4
  go_wp2_with fail
  refine (alive_any _).mono ?_
  rintro e w1 ⟨rfl, hb⟩
  have HB := hide hb
  clear hb
  go_wp2_with fail
  rw [← unhide hlen]
  refine (great_any _ l _ (by rw [unhide hlen]; exact (unhide HS).keep (unhide HB))).mono ?_
  rintro e w2 ⟨t, rfl, hs, hb⟩
  replace HB := hide (below_via (unhide HB) hb)
  clear hb
  rw [unhide hlen]
  cases t with
  | true =>
    go_wp2_with fail
    go_ret
    exact ⟨rfl, unhide HB⟩
  | false =>
  clear hs HS
  go_wp2_with fail
  rw [← unhide hlen2]
  refine (great_any _ r _ (by rw [unhide hlen2]; exact (unhide HS2).keep (unhide HB))).mono ?_
  rintro e w22 ⟨t, rfl, hs, hb⟩
  replace HB := hide (below_via (unhide HB) hb)
  clear hb
  rw [unhide hlen2]
  cases t with
  | true =>
    go_wp2_with fail
    go_ret
    exact ⟨rfl, unhide HB⟩
  | false =>
  clear hs HS2
  go_wp2_with fail
  refine (newx 30 (fun k => k < w.heap.size) _ (by decide) (by decide) (fun k h => Nat.lt_of_lt_of_le h (unhide HB).size)).mono ?_
  rintro e w3 ⟨p, rfl, hH, hb⟩
  have HH := hide hH
  replace HB := hide (below_via (unhide HB) hb)
  clear hb hH
  go_wp2_with fail
  refine (new_ok 30 _ (by decide) (by decide)).mono ?_
  intro e w4 hNP
  obtain ⟨q, rfl, hT, hb⟩ := two_new (unhide HH) (fun k h => Nat.lt_of_lt_of_le h (unhide HB).size) hNP
  have HT := hide hT
  replace HB := hide (below_via (unhide HB) hb)
  clear hb hT hNP HH
  go_wp2_with fail
  go_loopw [41] (fun i wr => ∃ (k : Nat) (A : Stt), k ≤ len ∧ i = .int .i64 (k : Int) ∧ Hid (Two LP LP (fun j => j < w.heap.size) wr p q A A) ∧ Hid (Below w.heap.size w wr) ∧ Hid (A.L.length = 30)) (fun i _ => len - (intOf i).toNat)
  case atStart => exact ⟨0, _, by omega, rfl, HT, HB, hide (by simp [newS])⟩
  case round =>
    clear HT HB
    obtain ⟨k, A, hk, rfl, HT, HB, HN⟩ := hrel
    by_cases hlt : k < len
    · obtain ⟨o, ho⟩ := unhide HI k hlt
      obtain ⟨b, off, rfl, hr⟩ := unhide HC k o ho wr (unhide HB)
      have HR := hide hr
      have hom := List.mem_of_getElem? ho
      have HO := hide (unhide HOk o hom)
      have HF := hide (unhide HBl o hom)
      have k1 : (k : Int) < (len : Int) := by omega
      have hwr : IntKind.i64.wrap ((k : Int) + 1) = ((k + 1 : Nat) : Int) := by rw [IntKind.wrap_i64]; omega
      have h4 : (opL o).length = 4 := rfl
      replace h4 := hide h4
      clear hr ho hom
      replace HC := hide HC
      replace HI := hide HI
      replace HOk := hide HOk
      replace HBl := hide HBl
      go_wp2_with (first | refine load_rg (l := opL o) rfl 34 _ rfl (unhide HR) rfl row34 size34 (unhide h4) ?_ | refine alloc_rg rfl 34 rfl al34 ?_)
      intro W HX hb
      replace HX := hide HX
      replace HT := hide (((unhide HT).more (Nat.le_refl _)).below hb)
      have hn0 := (unhide HB).size
      replace HB := hide (below_via (unhide HB) hb)
      have hbol := (show Blk _ _ _ _ from unhide HX).lt
      clear hb
      generalize wr.heap.size = bo at *
      go_wp2_with (refine store_all (l := opL o) rfl 34 _ _ rfl (unhide HX) rfl rfl size34 rfl rfl (one_opL o) ?_)
      intro W2 HX2 hb2
      replace HT := hide ((unhide HT).keep hb2 (Or.inr rfl))
      replace HB := hide ((unhide HB).trans (hb2.below (fun k e => by omega) (by omega)))
      replace HX := hide HX2
      have hbo2 : bo < W2.heap.size := (show Blk _ _ _ _ from unhide HX).lt
      have HXl := hide (show ∀ j, (fun j => j < w.heap.size ∨ j = bo) j → j < W2.heap.size from fun j hj => by rcases hj with hj | hj <;> omega)
      clear HX2 hb2 HR
      have c0 : W2.cell? ⟨bo, 0, none⟩ = some (.int .i64 o.k) := (show Blk _ _ _ _ from unhide HX).rg 0 _ rfl
      clear c0
      go_wp2_with (refine load_rg (l := opL o) rfl 34 _ rfl (show Blk _ _ _ _ from unhide HX).rg rfl row34 size34 (unhide h4) ?_)
      obtain ⟨Vl, g1, g2, g3, g4⟩ := (unhide HT).l (unhide HXl)
      refine (dox _ A Vl _ g1 g3 o (unhide HO _ (unhide HB)) (fun y e h0 => g2 _ (Or.inl (unhide HF y e h0)))).mono ?_
      rintro e W3 ⟨rfl, hH, hkp⟩
      replace HT := hide (g4 _ _ hH hkp)
      replace HX := hide (hkp.blk (show Blk _ _ _ _ from unhide HX) (g2 _ (Or.inr rfl)))
      replace HB := hide ((unhide HB).trans (hkp.below (fun j hj => g2 _ (Or.inl hj))))
      replace HXl := hide (fun j hj => Nat.lt_of_lt_of_le (unhide HXl j hj) hkp.size)
      clear hH hkp g1 g2 g3 g4
      go_wp2_with (refine load_rg (l := opL o) rfl 34 _ rfl (show Blk _ _ _ _ from unhide HX).rg rfl row34 size34 (unhide h4) ?_)
      obtain ⟨Vl, g1, g2, g3, g4⟩ := (unhide HT).symm.l (unhide HXl)
      refine (dox _ A Vl _ g1 g3 o (unhide HO _ (unhide HB)) (fun y e h0 => g2 _ (Or.inl (unhide HF y e h0)))).mono ?_
      rintro e W4 ⟨rfl, hH, hkp⟩
      replace HT := hide (g4 _ _ hH hkp)
      replace HT := hide (unhide HT).symm
      replace HX := hide (hkp.blk (show Blk _ _ _ _ from unhide HX) (g2 _ (Or.inr rfl)))
      replace HB := hide ((unhide HB).trans (hkp.below (fun j hj => g2 _ (Or.inl hj))))
      replace HXl := hide (fun j hj => Nat.lt_of_lt_of_le (unhide HXl j hj) hkp.size)
      clear hH hkp g1 g2 g3 g4
      have HN2 : Hid ((doS A o).L.length = 30) := hide (by rw [doS_len]; exact unhide HN)
      replace HT := hide ((unhide HT).mono (U := fun j => j < w.heap.size) (fun j hj => Or.inl hj))
      clear HX HXl
      generalize doS A o = A2 at *
      go_wp2_with fail
      go_roundw
      case rel => exact ⟨k + 1, A2, by omega, by go_num, HT, HB, HN2⟩
      case measure => simp [intOf]; omega
    · obtain rfl : k = len := by omega
      clear hlt HC HI HOk HBl
      obtain ⟨wA, ewA⟩ : ∃ wA, wA = wr := ⟨wr, rfl⟩
      subst ewA
      go_wp2_with fail
      refine (waix p A _ _ (unhide HT).left).mono ?_
      rintro e wb ⟨rfl, e1⟩
      rw [e1]
      clear e1 wb
      have hwl : A.W.length ≤ 4096 := (unhide HT).left.good.n2
      have HON := hide crash_ones
      have hon := hide (unhide HON A)
      generalize hwle : A.W.length = wl at *
      replace hwle := hide hwle
      clear HON
      have HG0 := hide (GrowG.nil 5 1 wA wA (Below.refl _ _))
      go_wp2_with fail
      go_loopw [11, 54] (fun o i wr => ∃ n : Nat, n ≤ wl ∧ i = .int .i64 (n : Int) ∧ Hid (GrowG 5 1 wA wr o (bysN (List.replicate n 1)))) (fun _ i _ => wl - (intOf i).toNat)
      case atStart => exact ⟨0, by omega, rfl, HG0⟩
      case round =>
        clear HG0
        obtain ⟨n, hn, rfl, HG⟩ := hrel
        by_cases hlt : n < wl
        · have n1 : (n : Int) < (wl : Int) := by omega
          have hwr : IntKind.i64.wrap ((n : Int) + 1) = ((n + 1 : Nat) : Int) := by rw [IntKind.wrap_i64]; omega
          have HNx := hide (ones_next n)
          have hll := hide (show (bysN (List.replicate n 1)).length + [[Value.int .u8 1]].length ≤ 1000000 by simp; omega)
          have HG2 := hide ((unhide HG).alloc (.cells #[.int .u8 1] 5))
          have HC5 := hide (one_cells (Blk.new wr #[.int .u8 1] 5))
          clear HG
          generalize bysN (List.replicate n 1) = ys at *
          generalize hzs : bysN (List.replicate (n + 1) 1) = zs at *
          replace hzs := hide hzs
          go_wp2_with (at_builtin; refine pushG_law 5 32 1 1 (.int .u8 0) (by decide) (by decide) rfl Try.underlying32 info5 rfl _ _ rfl wA _ _ ys [[.int .u8 1]] (unhide HG2) rfl rfl (by simp) rfl (unhide HC5) (fun f hf => by rw [List.mem_singleton.1 hf]; exact ⟨rfl, fun u hu => by rw [List.mem_singleton.1 hu]; rfl⟩) (unhide hll) ?_)
          intro v2 W2 hG hS
          have hG2 : GrowG 5 1 wA W2 v2 zs := by rw [← unhide HNx]; exact hG
          replace hG2 := hide hG2
          clear hG hS HG2 HC5 HNx
          go_wp2_with fail
          go_roundw
          case rel => exact ⟨n + 1, by omega, by go_num, by rw [unhide hzs]; exact hG2⟩
          case measure => simp [intOf]; omega
        · obtain rfl : n = wl := by omega
          have HR := hide (unhide HG).row
          obtain ⟨ax, cx, hu⟩ := rowG_slice (unhide HR)
          rw [List.length_map, List.length_replicate] at hu
          subst hu
          have HFr := hide (fun y (e : ax = some y) => (unhide HG).fresh (y := y) (n := n) (c := cx) (by rw [e]))
          have HFl := hide (fun y (e : ax = some y) => ((unhide HG).owns.lt y.block (by rw [e]; rfl)).2)
          replace HT := hide ((Two.moreP (unhide HT) (P := fun j => ∃ y, ax = some y ∧ y.block = j) (fun k hk => by
            obtain ⟨y, e, rfl⟩ := hk
            exact unhide HFr y e)).below (unhide HG).below)
          replace HB := hide (below_via (unhide HB) (unhide HG).below)
          have HXl := hide (show ∀ j, (fun j => j < w.heap.size ∨ ∃ y, ax = some y ∧ y.block = j) j → j < wr.heap.size from fun j hj => by
            rcases hj with hj | ⟨y, e, rfl⟩
            · exact Nat.lt_of_lt_of_le hj (unhide HB).size
            · exact unhide HFl y e)
          clear HG HFr HFl
          go_wp2_with fail
          obtain ⟨Vl, g1, g2, g3, g4⟩ := (unhide HT).l (unhide HXl)
          refine (synx _ A Vl _ g1 g3).mono ?_
          rintro e W3 ⟨rfl, hH, hkp⟩
          replace HT := hide (g4 _ _ hH hkp)
          replace HR := hide (row_kp (unhide HR) hkp (fun y e h0 => g2 _ (Or.inr ⟨y, e, rfl⟩)))
          replace HB := hide ((unhide HB).trans (hkp.below (fun j hj => g2 _ (Or.inl hj))))
          replace HXl := hide (fun j hj => Nat.lt_of_lt_of_le (unhide HXl j hj) hkp.size)
          clear hH hkp g1 g2 g3 g4
          go_wp2_with fail
          obtain ⟨Vl, g1, g2, g3, g4⟩ := (unhide HT).symm.l (unhide HXl)
          refine (crax _ A Vl _ g1 g3 ax n cx (List.replicate n 1) (unhide HR) (fun x hx => by rw [(List.mem_replicate.1 hx).2]; decide) (fun y e h0 => g2 _ (Or.inr ⟨y, e, rfl⟩))).mono ?_
          rintro e W4 ⟨rfl, hH, hkp⟩
          rw [unhide hon] at hH
          replace HT := hide (g4 _ _ hH hkp).symm
          replace HB := hide ((unhide HB).trans (hkp.below (fun j hj => g2 _ (Or.inl hj))))
          replace HT := hide ((unhide HT).mono (U := fun j => j < w.heap.size) (fun j hj => Or.inl hj))
          clear hH hkp g1 g2 g3 g4 HXl HR
          have HN0 : Hid ((crashS (fun _ => 1) A).L.length = 30) := hide (by rw [crashS_len]; exact unhide HN)
          have HW0 : Hid ((crashS (fun _ => 1) A).W = []) := hide (crashS_W _ _)
          clear hon HN hwle
          generalize crashS (fun _ => 1) A = A0 at *
          have HGd := hide (unhide HT).left.good
          have HL := hide (rdBs_ok (unhide HGd))
          have HEl := hide (rdEs_len A0)
          have HAt := hide (fun (a : Nat) (ha : a < 30) => And.intro (rdBs_at A0 ha) (rdEs_at A0 ha))
          generalize rdBs A0 = nb at *
          generalize rdEs A0 = ne at *
          go_wp2_with (refine alloc_rg (l := bks zs30) rfl 53 rfl al53 ?_)
          intro W5 H12 hb
          replace H12 := hide H12
          replace HT := hide (((unhide HT).more (Nat.le_refl _)).below hb)
          have hn0 := (unhide HB).size
          replace HB := hide (below_via (unhide HB) hb)
          have h12l := (show Blk _ _ _ _ from unhide H12).lt
          clear hb
          generalize W4.heap.size = b12 at *
          go_wp2_with (refine alloc_rg (l := ints (List.replicate 30 0)) rfl 54 rfl al54 ?_)
          intro W6 H13 hb
          replace H13 := hide H13
          replace H12 := hide ((show Blk _ _ _ _ from unhide H12).keep hb)
          replace HT := hide (((unhide HT).more (Nat.le_refl _)).below hb)
          replace HB := hide (below_via (unhide HB) hb)
          clear hb
          generalize hb13e : W5.heap.size = b13 at *
          clear hb13e
          have HM := hide (fun j h => mix_ok (unhide HL) zs30_ok (j := j) h)
          have HMn := hide (fun j x h => mix_next (unhide HL) zs30_ok (j := j) (x := x) h)
          have HMa := hide (mix_all (unhide HL) zs30_ok)
          have HMi := hide (fun j h => mixI_len (unhide HEl) (List.length_replicate (a := (0 : Int))) (j := j) h)
          have HMin := hide (fun j x h => mixI_next (unhide HEl) (List.length_replicate (a := (0 : Int))) (j := j) (x := x) h)
          have HMia := hide (mixI_all (unhide HEl) (List.length_replicate (a := (0 : Int))))
          have HM0 : Hid (Blk W6 b12 (bks (mix nb zs30 0)).toArray 53) := H12
          have HM1 : Hid (Blk W6 b13 (ints (mixI ne (List.replicate 30 0) 0)).toArray 54) := H13
          generalize List.replicate 30 (0 : Int) = zi at *
          go_wp2_with fail
          go_loopw [65] (fun i wr => ∃ j : Nat, j ≤ 30 ∧ i = .int .i64 (j : Int) ∧ Hid (Two LP LP (fun j => (j < w.heap.size ∨ j = b12) ∨ j = b13) wr p q A0 A0) ∧ Hid (Blk wr b12 (bks (mix nb zs30 j)).toArray 53) ∧ Hid (Blk wr b13 (ints (mixI ne zi j)).toArray 54) ∧ Hid (Below w.heap.size w wr)) (fun i _ => 30 - (intOf i).toNat)
          case atStart => exact ⟨0, by omega, rfl, HT, HM0, HM1, HB⟩
          case round =>
            clear HT HM0 HM1 HB H12 H13
            obtain ⟨j, hj, rfl, HT, H12, H13, HB⟩ := hrel
            by_cases hj2 : j < 30
            · have d1 : decide ((j : Int) < 30) = true := decide_eq_true (by omega)
              have hwr2 : IntKind.i64.wrap ((j : Int) + 1) = ((j + 1 : Nat) : Int) := by rw [IntKind.wrap_i64]; omega
              obtain ⟨a1, a2⟩ := unhide HAt j hj2
              have hy64 := (unhide HL).2 _ (List.mem_of_getElem? a1)
              have hMn := hide (unhide HMn j _ a1)
              have hMin := hide (unhide HMin j _ a2)
              have hM := hide (unhide HM j hj)
              have hM2 := hide (unhide HM (j + 1) (by omega))
              have hMi := hide (unhide HMi j hj)
              have HRd := hide (fun W h => reax p A0 (fun j => (j < w.heap.size ∨ j = b12) ∨ j = b13) W h (j : Int))
              have HRd2 := hide (fun W h => reax q A0 (fun j => (j < w.heap.size ∨ j = b12) ∨ j = b13) W h (j : Int))
              generalize rdB A0 (j : Int) = y at *
              generalize rdE A0 (j : Int) = ye at *
              have hgM := hide (show (mix nb zs30 (j + 1))[j]? = some y by rw [← unhide hMn]; exact List.getElem?_set_self (by rw [(unhide hM).1]; exact hj2))
              have hgI := hide (show (mixI ne zi (j + 1))[j]? = some ye by rw [← unhide hMin]; exact List.getElem?_set_self (by rw [unhide hMi]; exact hj2))
              have hyl := hide (show (byv y).length = 64 by rw [byv_len]; exact hy64)
              have he2 := hide (fun W => eq45 y hy64 W)
              have hy64' := hide hy64
              clear a1 a2 hy64
              go_wp2_with fail
              refine (unhide HRd _ (unhide HT).left).mono ?_
              rintro e U3 ⟨rfl, hb⟩
              replace HT := hide ((unhide HT).below hb)
              replace H12 := hide ((show Blk _ _ _ _ from unhide H12).keep hb)
              replace H13 := hide ((show Blk _ _ _ _ from unhide H13).keep hb)
              replace HB := hide (below_via (unhide HB) hb)
              clear hb
              go_wp2_with (refine store_mid (l := byv y) (o := j * 64) rfl 45 _ _ rfl (unhide H12) rfl rfl size45 (by rw [List.size_toArray, bks_len (unhide hM)]; omega) (unhide hyl) (one_byv _) ?_)
              intro U4 hW hb
              rw [bks_set (unhide hM) hj2 (unhide hy64'), unhide hMn] at hW
              replace H12 := hide hW
              replace HT := hide ((unhide HT).keep hb (Or.inl (Or.inr rfl)))
              replace H13 := hide (hb.blk (show Blk _ _ _ _ from unhide H13) (by omega))
              replace HB := hide ((unhide HB).trans (hb.below (fun k e => by omega) (unhide HB).size))
              clear hb hW
              go_wp2_with (refine store_cell (k := j) (v := .int .i64 ye) rfl 26 _ _ rfl (unhide H13) rfl rfl (by rw [List.size_toArray, ints_len, unhide hMi]; exact hj2) size26 rfl rfl ?_)
              intro U5 hW hb
              rw [ints_set', unhide hMin] at hW
              replace H13 := hide hW
              replace HT := hide ((unhide HT).keep hb (Or.inr rfl))
              replace H12 := hide (hb.blk (show Blk _ _ _ _ from unhide H12) (by omega))
              replace HB := hide ((unhide HB).trans (hb.below (fun k e => by omega) (unhide HB).size))
              clear hb hW
              go_wp2_with fail
              refine (unhide HRd2 _ (unhide HT).symm.left).mono ?_
              rintro e U6 ⟨rfl, hb⟩
              replace HT := hide ((unhide HT).below hb)
              replace H12 := hide ((show Blk _ _ _ _ from unhide H12).keep hb)
              replace H13 := hide ((show Blk _ _ _ _ from unhide H13).keep hb)
              replace HB := hide (below_via (unhide HB) hb)
              clear hb
              have l12 := (show Blk _ _ _ _ from unhide H12).lt
              have l13 := (show Blk _ _ _ _ from unhide H13).lt
              go_wp2_with (refine alloc_rg rfl 45 rfl al45 ?_)
              intro U7 H15 hb
              replace H15 := hide H15
              replace HT := hide (((unhide HT).more (Nat.le_refl _)).below hb)
              replace H12 := hide ((show Blk _ _ _ _ from unhide H12).keep hb)
              replace H13 := hide ((show Blk _ _ _ _ from unhide H13).keep hb)
              have hz4 := (unhide HB).size
              replace HB := hide (below_via (unhide HB) hb)
              clear hb
              generalize U6.heap.size = b15 at *
              go_wp2_with (refine store_all (l := byv y) rfl 45 _ _ rfl (unhide H15) rfl rfl size45 (by rw [List.size_toArray, byv_len, zs_len]) (unhide hyl) (one_byv _) ?_)
              intro U8 H152 hb
              replace H15 := hide H152
              replace HT := hide ((unhide HT).keep hb (Or.inr rfl))
              replace HT := hide ((unhide HT).mono (U := fun j => (j < w.heap.size ∨ j = b12) ∨ j = b13) (fun j hj => Or.inl hj))
              replace H12 := hide (hb.blk (show Blk _ _ _ _ from unhide H12) (by omega))
              replace H13 := hide (hb.blk (show Blk _ _ _ _ from unhide H13) (by omega))
              replace HB := hide ((unhide HB).trans (hb.below (fun k e => by omega) (unhide HB).size))
              have HR12 := hide (bks_range (unhide H12) (unhide hM2) (unhide hgM))
              have HR13 := hide (ints_at (unhide H13) (unhide hgI))
              clear hb H152 l12 l13 hz4
              go_wp2_with fail
              refine wp_region_noPanic ?_
              refine wp_region_held_drew (S := fun V => Blk V b15 (byv y).toArray 45 ∧ V.rangeAt b12 (j * 64) (byv y) ∧ V.cell? ⟨b13, j, none⟩ = some (.int .i64 ye)) (by kernel_rfl) ⟨unhide H15, unhide HR12, unhide HR13⟩ (fun hS => ?_)
              replace HT := hide ((unhide HT).below (Below.refl _ _).drew)
              replace H12 := hide ((show Blk _ _ _ _ from unhide H12).keep (Below.refl _ _).drew)
              replace H13 := hide ((show Blk _ _ _ _ from unhide H13).keep (Below.refl _ _).drew)
              replace HB := hide (unhide HB).drew
              generalize U8.drew = V0 at *
              refine anyH_at (i := 0) (v := .agg (byv y).toArray) 84 rfl (by kernel_rfl) (by kernel_rfl) (by kernel_rfl) (by kernel_rfl) (fun _ _ _ h => h) (ylo_rg (by kernel_rfl) 45 _ rfl rfl (fun W hS => hS.1.rg) row45 size45 (unhide hyl)) hS ?_
              try simp only [Act.put, List.setIfInBounds_toArray, List.set_cons_zero, List.set_cons_succ]
              refine anyH_at (i := 1) (v := .int .i64 (j : Int)) 85 rfl (by kernel_rfl) (by kernel_rfl) (by kernel_rfl) (by kernel_rfl) (fun _ _ _ h => h) (Or.inl ⟨by kernel_rfl, fun W hS => by go_simp⟩) hS ?_
              try simp only [Act.put, List.setIfInBounds_toArray, List.set_cons_zero, List.set_cons_succ]
              refine anyH_at (i := 2) (v := .pointer (some ⟨b12, j * 64, none⟩)) 86 rfl (by kernel_rfl) (by kernel_rfl) (by kernel_rfl) (by kernel_rfl) (fun _ _ _ h => h) (Or.inl ⟨by kernel_rfl, fun W hS => by have hq1 : (j : Int) < 30 := (by omega); go_simp⟩) hS ?_
              try simp only [Act.put, List.setIfInBounds_toArray, List.set_cons_zero, List.set_cons_succ]
              refine anyH_at (i := 3) (v := .agg (byv y).toArray) 87 rfl (by kernel_rfl) (by kernel_rfl) (by kernel_rfl) (by kernel_rfl) (fun _ _ _ h => h) (ylo_rg (by kernel_rfl) 45 _ rfl rfl (fun W hS => hS.2.1) row45 size45 (unhide hyl)) hS ?_
              try simp only [Act.put, List.setIfInBounds_toArray, List.set_cons_zero, List.set_cons_succ]
              refine anyH_at (i := 4) (v := .bool false) 88 rfl (by kernel_rfl) (by kernel_rfl) (by kernel_rfl) (by kernel_rfl) (fun _ _ _ h => h) (Or.inl ⟨by kernel_rfl, fun W hS => by have he := unhide he2; have hg := gd45; go_simp⟩) hS ?_
              try simp only [Act.put, List.setIfInBounds_toArray, List.set_cons_zero, List.set_cons_succ]
              refine anyH_at (i := 5) (v := .bool false) 89 rfl (by kernel_rfl) (by kernel_rfl) (by kernel_rfl) (by kernel_rfl) (fun _ _ _ h => h) (Or.inl ⟨by kernel_rfl, fun W hS => by go_simp⟩) hS ?_
              try simp only [Act.put, List.setIfInBounds_toArray, List.set_cons_zero, List.set_cons_succ]
              refine anyH_at (i := 6) (v := .int .i64 ye) 90 rfl (by kernel_rfl) (by kernel_rfl) (by kernel_rfl) (by kernel_rfl) (fun _ _ _ h => h) (Or.inl ⟨by kernel_rfl, fun W hS => by go_simp⟩) hS ?_
              try simp only [Act.put, List.setIfInBounds_toArray, List.set_cons_zero, List.set_cons_succ]
              refine anyH_at (i := 7) (v := .int .i64 (j : Int)) 91 rfl (by kernel_rfl) (by kernel_rfl) (by kernel_rfl) (by kernel_rfl) (fun _ _ _ h => h) (Or.inl ⟨by kernel_rfl, fun W hS => by go_simp⟩) hS ?_
              try simp only [Act.put, List.setIfInBounds_toArray, List.set_cons_zero, List.set_cons_succ]
              refine anyH_at (i := 8) (v := .pointer (some ⟨b13, j, none⟩)) 92 rfl (by kernel_rfl) (by kernel_rfl) (by kernel_rfl) (by kernel_rfl) (fun _ _ _ h => h) (Or.inl ⟨by kernel_rfl, fun W hS => by have hq1 : (j : Int) < 30 := (by omega); go_simp⟩) hS ?_
              try simp only [Act.put, List.setIfInBounds_toArray, List.set_cons_zero, List.set_cons_succ]
              refine anyH_at (i := 9) (v := .int .i64 ye) 93 rfl (by kernel_rfl) (by kernel_rfl) (by kernel_rfl) (by kernel_rfl) (fun _ _ _ h => h) (Or.inl ⟨by kernel_rfl, fun W hS => by have c1 := hS.2.2; go_simp⟩) hS ?_
              try simp only [Act.put, List.setIfInBounds_toArray, List.set_cons_zero, List.set_cons_succ]
              refine anyH_at (i := 10) (v := .bool false) 94 rfl (by kernel_rfl) (by kernel_rfl) (by kernel_rfl) (by kernel_rfl) (fun _ _ _ h => h) (Or.inl ⟨by kernel_rfl, fun W hS => by go_simp⟩) hS ?_
              try simp only [Act.put, List.setIfInBounds_toArray, List.set_cons_zero, List.set_cons_succ]
              refine anyH_at (i := 11) (v := .bool false) 95 rfl (by kernel_rfl) (by kernel_rfl) (by kernel_rfl) (by kernel_rfl) (fun _ _ _ h => h) (Or.inl ⟨by kernel_rfl, fun W hS => by go_simp⟩) hS ?_
              try simp only [Act.put, List.setIfInBounds_toArray, List.set_cons_zero, List.set_cons_succ]
              refine wpAnyH_done (by kernel_rfl) ?_ _
              refine noPanic_out ?_
              clear hS
              go_wp2_with fail
              go_roundw
              case rel => exact ⟨j + 1, by omega, by go_num, HT, H12, H13, HB⟩
              case measure => simp [intOf]; omega
            · obtain rfl : j = 30 := by omega
              rw [unhide HMa] at H12
              rw [unhide HMia] at H13
              have HH := hide (unhide HT).left
              clear HT HM HMn HMi HMin HMa HMia
              go_wp2_with (refine alloc_rg (l := bools (List.replicate 30 false)) rfl 55 rfl al55 ?_)
              intro W7 H17 hb
              replace H17 := hide H17
              replace HH := hide (((unhide HH).more (Nat.le_refl _)).below hb)
              have l12 := (show Blk _ _ _ _ from unhide H12).lt
              have l13 := (show Blk _ _ _ _ from unhide H13).lt
              replace H12 := hide ((show Blk _ _ _ _ from unhide H12).keep hb)
              replace H13 := hide ((show Blk _ _ _ _ from unhide H13).keep hb)
              have hn17 := (unhide HB).size
              replace HB := hide (below_via (unhide HB) hb)
              clear hb
              generalize wr.heap.size = b17 at *
              have HV := hide (KI.new (unhide HN0) (unhide HW0))
              go_wp2_with fail
              go_loopw [99] (fun i wr => ∃ (k : Nat) (A : Stt) (again : List Bool), k ≤ len2 ∧ i = .int .i64 (k : Int) ∧ Hid (HasX LP wr p A (fun j => ((j < w.heap.size ∨ j = b12) ∨ j = b13) ∨ j = b17)) ∧ Hid (Blk wr b12 (bks nb).toArray 53) ∧ Hid (Blk wr b13 (ints ne).toArray 54) ∧ Hid (Blk wr b17 (bools again).toArray 55) ∧ Hid (Below w.heap.size w wr) ∧ Hid (KI A0 A again)) (fun i _ => len2 - (intOf i).toNat)
              case atStart => exact ⟨0, _, _, by omega, rfl, HH, H12, H13, H17, HB, HV⟩
              case round =>
                clear HH H12 H13 H17 HB HV
                obtain ⟨k, A, again, hk, rfl, HH, H12, H13, H17, HB, HV⟩ := hrel
                by_cases hlt : k < len2
                · have l17a := (show Blk _ _ _ _ from unhide H17).lt
                  obtain ⟨o, ho⟩ := unhide HI2 k hlt
                  obtain ⟨b, off, rfl, hr⟩ := unhide HC2 k o ho wr (unhide HB)
                  have HR := hide hr
                  have hom := List.mem_of_getElem? ho
                  have HO := hide (unhide HOk2 o hom)
                  have HF := hide (unhide HBl2 o hom)
                  have k1 : (k : Int) < (len2 : Int) := by omega
                  have hwr : IntKind.i64.wrap ((k : Int) + 1) = ((k + 1 : Nat) : Int) := by rw [IntKind.wrap_i64]; omega
                  have h4 : (opL o).length = 4 := rfl
                  replace h4 := hide h4
                  clear hr ho hom
                  replace HC2 := hide HC2
                  replace HI2 := hide HI2
                  replace HOk2 := hide HOk2
                  replace HBl2 := hide HBl2
                  go_wp2_with (first | refine load_rg (l := opL o) rfl 34 _ rfl (unhide HR) rfl row34 size34 (unhide h4) ?_ | refine alloc_rg rfl 34 rfl al34 ?_)
                  intro W HX hb
                  replace HX := hide HX
                  replace HH := hide ((unhide HH).more (Nat.le_refl _) |>.below hb)
                  replace H12 := hide ((show Blk _ _ _ _ from unhide H12).keep hb)
                  replace H13 := hide ((show Blk _ _ _ _ from unhide H13).keep hb)
                  have l17 := l17a
                  replace H17 := hide ((show Blk _ _ _ _ from unhide H17).keep hb)
                  have hn0 := (unhide HB).size
                  replace HB := hide (below_via (unhide HB) hb)
                  have hbol := (show Blk _ _ _ _ from unhide HX).lt
                  clear hb
                  generalize wr.heap.size = bo at *
                  go_wp2_with (refine store_all (l := opL o) rfl 34 _ _ rfl (unhide HX) rfl rfl size34 rfl rfl (one_opL o) ?_)
                  intro W2 HX2 hb2
                  replace HH := hide ((unhide HH).keep hb2 (Or.inr rfl))
                  replace H12 := hide (hb2.blk (show Blk _ _ _ _ from unhide H12) (by omega))
                  replace H13 := hide (hb2.blk (show Blk _ _ _ _ from unhide H13) (by omega))
                  replace H17 := hide (hb2.blk (show Blk _ _ _ _ from unhide H17) (by omega))
                  replace HB := hide ((unhide HB).trans (hb2.below (fun k e => by omega) (by omega)))
                  replace HX := hide HX2
                  have hbo2 : bo < W2.heap.size := (show Blk _ _ _ _ from unhide HX).lt
                  have HXl := hide (show ∀ j, (fun j => (((j < w.heap.size ∨ j = b12) ∨ j = b13) ∨ j = b17) ∨ j = bo) j → j < W2.heap.size from fun j hj => by rcases hj with (((hj | hj) | hj) | hj) | hj <;> omega)
                  clear HX2 hb2 HR
                  have c0 : W2.cell? ⟨bo, 0, none⟩ = some (.int .i64 o.k) := (show Blk _ _ _ _ from unhide HX).rg 0 _ rfl
                  go_wp2_with (refine load_rg (l := opL o) rfl 34 _ rfl (show Blk _ _ _ _ from unhide HX).rg rfl row34 size34 (unhide h4) ?_)
                  refine (dox p A _ _ (unhide HH) (unhide HXl) o (unhide HO _ (unhide HB)) (fun y e h0 => Or.inl (Or.inl (Or.inl (Or.inl (unhide HF y e h0)))))).mono ?_
                  rintro e W3 ⟨rfl, hH, hkp⟩
                  replace HH := hide hH
                  replace H12 := hide (hkp.blk (show Blk _ _ _ _ from unhide H12) (Or.inl (Or.inl (Or.inl (Or.inr rfl)))))
                  replace H13 := hide (hkp.blk (show Blk _ _ _ _ from unhide H13) (Or.inl (Or.inl (Or.inr rfl))))
                  replace H17 := hide (hkp.blk (show Blk _ _ _ _ from unhide H17) (Or.inl (Or.inr rfl)))
                  replace HX := hide (hkp.blk (show Blk _ _ _ _ from unhide HX) (Or.inr rfl))
                  replace HB := hide ((unhide HB).trans (hkp.below (fun j hj => Or.inl (Or.inl (Or.inl (Or.inl hj))))))
                  clear hH hkp c0 HXl
                  replace HH := hide ((unhide HH).mono (Z := fun j => ((j < w.heap.size ∨ j = b12) ∨ j = b13) ∨ j = b17) (fun j hj => Or.inl hj))
                  have c0 : W3.cell? ⟨bo, 0, none⟩ = some (.int .i64 o.k) := (show Blk _ _ _ _ from unhide HX).rg 0 _ rfl
                  by_cases hy : o.k = 1 ∧ doE A o = 0
                  · obtain ⟨hy1, hy0⟩ := hy
                    obtain ⟨kk, hkk, hk30, hV2⟩ := (unhide HV).yes hy1 hy0
                    have HV2 := hide hV2
                    rw [hy1] at c0
                    rw [hy0]
                    have c1 : W3.cell? ⟨bo, 1, none⟩ = some (.int .i64 (kk : Int)) := by rw [← hkk]; exact (show Blk _ _ _ _ from unhide HX).rg 1 _ rfl
                    have hm := hide (unhide HV).m
                    replace hkk := hide hkk
                    clear hV2 hy0
                    replace hy1 := hide hy1
                    go_wp2_with (refine store_cell (k := kk) (v := .bool true) rfl 4 _ _ rfl (unhide H17) rfl rfl (by rw [List.size_toArray, bools_len, unhide hm]; exact hk30) size4 rfl rfl ?_)
                    intro W4 hW hb
                    rw [bools_set'] at hW
                    replace H17 := hide hW
                    replace HH := hide ((unhide HH).keep hb (Or.inr rfl))
                    replace H12 := hide (hb.blk (show Blk _ _ _ _ from unhide H12) (by omega))
                    replace H13 := hide (hb.blk (show Blk _ _ _ _ from unhide H13) (by omega))
                    replace HB := hide ((unhide HB).trans (hb.below (fun k e => by omega) (unhide HB).size))
                    clear hb hW c0 c1 HX
                    go_wp2_with fail
                    go_roundw
                    case rel => exact ⟨k + 1, doS A o, again.set kk true, by omega, by go_num, HH, H12, H13, H17, HB, HV2⟩
                    case measure => simp [intOf]; omega
                  · have HV2 := hide ((unhide HV).no hy)
                    by_cases hy0 : doE A o = 0
                    · have hy1 : ¬ o.k = 1 := fun e => hy ⟨e, hy0⟩
                      rw [hy0]
                      clear hy hy0
                      generalize doS A o = A2 at *
                      go_wp2_with fail
                      go_roundw
                      case rel => exact ⟨k + 1, A2, again, by omega, by go_num, HH, H12, H13, H17, HB, HV2⟩
                      case measure => simp [intOf]; omega
                    · clear hy
                      generalize doE A o = de at *
                      generalize doS A o = A2 at *
                      go_wp2_with fail
                      go_roundw
                      case rel => exact ⟨k + 1, A2, again, by omega, by go_num, HH, H12, H13, H17, HB, HV2⟩
                      case measure => simp [intOf]; omega
                · obtain rfl : k = len2 := by omega
                  clear hlt HC2 HI2 HOk2 HBl2
                  have HXl := hide (show ∀ j, (fun j => ((j < w.heap.size ∨ j = b12) ∨ j = b13) ∨ j = b17) j → j < wr.heap.size from fun j hj => by have := (show Blk _ _ _ _ from unhide H12).lt; have := (show Blk _ _ _ _ from unhide H13).lt; have := (show Blk _ _ _ _ from unhide H17).lt; have := (unhide HB).size; rcases hj with ((hj | hj) | hj) | hj <;> omega)
                  go_wp2_with fail
                  refine (crax p A _ _ (unhide HH) (unhide HXl) none 0 0 [] (Or.inl ⟨none, 0, rfl, rfl, fun _ => rfl⟩) (fun x hx => by cases hx) (fun y e h0 => by cases e)).mono ?_
                  rintro e W8 ⟨rfl, hH, hkp⟩
                  replace HH := hide hH
                  replace H12 := hide (hkp.blk (show Blk _ _ _ _ from unhide H12) (Or.inl (Or.inl (Or.inr rfl))))
                  replace H13 := hide (hkp.blk (show Blk _ _ _ _ from unhide H13) (Or.inl (Or.inr rfl)))
                  replace H17 := hide (hkp.blk (show Blk _ _ _ _ from unhide H17) (Or.inr rfl))
                  replace HB := hide ((unhide HB).trans (hkp.below (fun j hj => Or.inl (Or.inl (Or.inl hj)))))
                  clear hH hkp HXl
                  have HRe := hide (fun a h => (unhide HV).read (unhide HW0) (unhide HN0) a h)
                  have HWe : Hid ((crashS (fateN []) A).W = []) := hide (crashS_W _ _)
                  have HGe := hide (unhide HH).good
                  have hm := hide (unhide HV).m
                  generalize crashS (fateN []) A = A5 at *
                  have HV0 := hide (Below.refl W8.heap.size W8)
                  go_wp2_with fail
                  go_loopw [118] (fun i wr => ∃ j : Nat, j ≤ 30 ∧ i = .int .i64 (j : Int) ∧ Hid (Below W8.heap.size W8 wr)) (fun i _ => 30 - (intOf i).toNat)
                  case atStart => exact ⟨0, by omega, rfl, HV0⟩
                  case round =>
                    clear HV0
                    obtain ⟨j, hj, rfl, HZ⟩ := hrel
                    by_cases hj2 : j < 30
                    · have d1 : decide ((j : Int) < 30) = true := decide_eq_true (by omega)
                      have hwr2 : IntKind.i64.wrap ((j : Int) + 1) = ((j + 1 : Nat) : Int) := by rw [IntKind.wrap_i64]; omega
                      obtain ⟨a1, a2⟩ := unhide HAt j hj2
                      have hag : again[j]? = some (again[j]'(by rw [unhide hm]; exact hj2)) := List.getElem?_eq_getElem _
                      have HRj := hide (unhide HRe j)
                      have hy64 := rdB_len (unhide HGe) (j : Int)
                      have HRd := hide (fun W h => reax p A5 (fun j => ((j < w.heap.size ∨ j = b12) ∨ j = b13) ∨ j = b17) W h (j : Int))
                      generalize hagv : again[j]'(by rw [unhide hm]; exact hj2) = ag at *
                      replace hag := hide hag
                      clear hagv
                      generalize rdB A5 (j : Int) = y at *
                      generalize rdE A5 (j : Int) = ye at *
                      generalize rdB A0 (j : Int) = y0 at *
                      generalize rdE A0 (j : Int) = ye0 at *
                      replace a1 := hide a1
                      replace a2 := hide a2
                      have hyl := hide (show (byv y).length = 64 by rw [byv_len]; exact hy64)
                      have hvs := (unhide HZ).size
                      replace hy64 := hide hy64
                      go_wp2_with fail
                      refine (unhide HRd _ ((unhide HH).below (unhide HZ))).mono ?_
                      rintro e U3 ⟨rfl, hb⟩
                      replace HZ := hide (below_via (unhide HZ) hb)
                      clear hb
                      go_wp2_with (refine alloc_rg rfl 45 rfl al45 ?_)
                      intro U4 H21 hb
                      replace H21 := hide H21
                      have hz3 := (unhide HZ).size
                      replace HZ := hide (below_via (unhide HZ) hb)
                      clear hb
                      generalize U3.heap.size = b21 at *
                      go_wp2_with (refine store_all (l := byv y) rfl 45 _ _ rfl (unhide H21) rfl rfl size45 (by rw [List.size_toArray, byv_len, zs_len]) (unhide hyl) (one_byv _) ?_)
                      intro U5 H212 hb
                      replace H21 := hide H212
                      replace HZ := hide ((unhide HZ).trans (hb.below (fun k e => by omega) (unhide HZ).size))
                      have HR12 := hide (bks_range ((show Blk _ _ _ _ from unhide H12).keep (unhide HZ)) (unhide HL) (unhide a1))
                      have HR13 := hide (ints_at ((show Blk _ _ _ _ from unhide H13).keep (unhide HZ)) (unhide a2))
                      have HR17 := hide (bools_at ((show Blk _ _ _ _ from unhide H17).keep (unhide HZ)) (unhide hag))
                      clear hb H212 hz3 hvs
                      cases ag with
                      | true =>
                        go_wp2_with fail
                        refine wp_region_noPanic ?_
                        refine wp_region_held_drew (S := fun V => Blk V b21 (byv y).toArray 45 ∧ V.rangeAt b12 (j * 64) (byv y0) ∧ V.cell? ⟨b13, j, none⟩ = some (.int .i64 ye0) ∧ V.cell? ⟨b17, j, none⟩ = some (.bool true)) (by kernel_rfl) ⟨unhide H21, unhide HR12, unhide HR13, unhide HR17⟩ (fun hS => ?_)
                        replace HZ := hide (unhide HZ).drew
                        generalize U5.drew = V0 at *
                        refine anyH_at (i := 0) (v := .int .i64 (j : Int)) 127 rfl (by kernel_rfl) (by kernel_rfl) (by kernel_rfl) (by kernel_rfl) (fun _ _ _ h => h) (Or.inl ⟨by kernel_rfl, fun W hS => by go_simp⟩) hS ?_
                        try simp only [Act.put, List.setIfInBounds_toArray, List.set_cons_zero, List.set_cons_succ]
                        refine anyH_at (i := 1) (v := .pointer (some ⟨b17, j, none⟩)) 128 rfl (by kernel_rfl) (by kernel_rfl) (by kernel_rfl) (by kernel_rfl) (fun _ _ _ h => h) (Or.inl ⟨by kernel_rfl, fun W hS => by have hq1 : (j : Int) < 30 := (by omega); go_simp⟩) hS ?_
                        try simp only [Act.put, List.setIfInBounds_toArray, List.set_cons_zero, List.set_cons_succ]
                        refine anyH_at (i := 2) (v := .bool true) 129 rfl (by kernel_rfl) (by kernel_rfl) (by kernel_rfl) (by kernel_rfl) (fun _ _ _ h => h) (Or.inl ⟨by kernel_rfl, fun W hS => by have c1 := hS.2.2.2; go_simp⟩) hS ?_
                        try simp only [Act.put, List.setIfInBounds_toArray, List.set_cons_zero, List.set_cons_succ]
                        refine anyH_at (i := 3) (v := .bool false) 130 rfl (by kernel_rfl) (by kernel_rfl) (by kernel_rfl) (by kernel_rfl) (fun _ _ _ h => h) (Or.inl ⟨by kernel_rfl, fun W hS => by go_simp⟩) hS ?_
                        try simp only [Act.put, List.setIfInBounds_toArray, List.set_cons_zero, List.set_cons_succ]
                        refine anyH_at (i := 4) (v := .bool false) 131 rfl (by kernel_rfl) (by kernel_rfl) (by kernel_rfl) (by kernel_rfl) (fun _ _ _ h => h) (Or.inl ⟨by kernel_rfl, fun W hS => by go_simp⟩) hS ?_
                        try simp only [Act.put, List.setIfInBounds_toArray, List.set_cons_zero, List.set_cons_succ]
                        refine anyH_at (i := 5) (v := undef) 132 rfl (by kernel_rfl) (by kernel_rfl) (by kernel_rfl) (by kernel_rfl) (fun _ _ _ h => h) (Or.inr ⟨by kernel_rfl, rfl⟩) hS ?_
                        try simp only [Act.put, List.setIfInBounds_toArray, List.set_cons_zero, List.set_cons_succ]
                        refine anyH_at (i := 6) (v := undef) 133 rfl (by kernel_rfl) (by kernel_rfl) (by kernel_rfl) (by kernel_rfl) (fun _ _ _ h => h) (Or.inr ⟨by kernel_rfl, rfl⟩) hS ?_
                        try simp only [Act.put, List.setIfInBounds_toArray, List.set_cons_zero, List.set_cons_succ]
                        refine anyH_at (i := 7) (v := undef) 134 rfl (by kernel_rfl) (by kernel_rfl) (by kernel_rfl) (by kernel_rfl) (fun _ _ _ h => h) (Or.inr ⟨by kernel_rfl, rfl⟩) hS ?_
                        try simp only [Act.put, List.setIfInBounds_toArray, List.set_cons_zero, List.set_cons_succ]
                        refine anyH_at (i := 8) (v := undef) 135 rfl (by kernel_rfl) (by kernel_rfl) (by kernel_rfl) (by kernel_rfl) (fun _ _ _ h => h) (Or.inr ⟨by kernel_rfl, rfl⟩) hS ?_
                        try simp only [Act.put, List.setIfInBounds_toArray, List.set_cons_zero, List.set_cons_succ]
                        refine anyH_at (i := 9) (v := undef) 136 rfl (by kernel_rfl) (by kernel_rfl) (by kernel_rfl) (by kernel_rfl) (fun _ _ _ h => h) (Or.inr ⟨by kernel_rfl, rfl⟩) hS ?_
                        try simp only [Act.put, List.setIfInBounds_toArray, List.set_cons_zero, List.set_cons_succ]
                        refine anyH_at (i := 10) (v := undef) 137 rfl (by kernel_rfl) (by kernel_rfl) (by kernel_rfl) (by kernel_rfl) (fun _ _ _ h => h) (Or.inr ⟨by kernel_rfl, rfl⟩) hS ?_
                        try simp only [Act.put, List.setIfInBounds_toArray, List.set_cons_zero, List.set_cons_succ]
                        refine anyH_at (i := 11) (v := undef) 138 rfl (by kernel_rfl) (by kernel_rfl) (by kernel_rfl) (by kernel_rfl) (fun _ _ _ h => h) (Or.inr ⟨by kernel_rfl, rfl⟩) hS ?_
                        try simp only [Act.put, List.setIfInBounds_toArray, List.set_cons_zero, List.set_cons_succ]
                        refine anyH_at (i := 12) (v := undef) 139 rfl (by kernel_rfl) (by kernel_rfl) (by kernel_rfl) (by kernel_rfl) (fun _ _ _ h => h) (Or.inr ⟨by kernel_rfl, rfl⟩) hS ?_
                        try simp only [Act.put, List.setIfInBounds_toArray, List.set_cons_zero, List.set_cons_succ]
                        refine anyH_at (i := 13) (v := undef) 140 rfl (by kernel_rfl) (by kernel_rfl) (by kernel_rfl) (by kernel_rfl) (fun _ _ _ h => h) (Or.inr ⟨by kernel_rfl, rfl⟩) hS ?_
                        try simp only [Act.put, List.setIfInBounds_toArray, List.set_cons_zero, List.set_cons_succ]
                        refine anyH_at (i := 14) (v := undef) 141 rfl (by kernel_rfl) (by kernel_rfl) (by kernel_rfl) (by kernel_rfl) (fun _ _ _ h => h) (Or.inr ⟨by kernel_rfl, rfl⟩) hS ?_
                        try simp only [Act.put, List.setIfInBounds_toArray, List.set_cons_zero, List.set_cons_succ]
                        refine anyH_at (i := 15) (v := undef) 142 rfl (by kernel_rfl) (by kernel_rfl) (by kernel_rfl) (by kernel_rfl) (fun _ _ _ h => h) (Or.inr ⟨by kernel_rfl, rfl⟩) hS ?_
                        try simp only [Act.put, List.setIfInBounds_toArray, List.set_cons_zero, List.set_cons_succ]
                        refine anyH_at (i := 16) (v := undef) 143 rfl (by kernel_rfl) (by kernel_rfl) (by kernel_rfl) (by kernel_rfl) (fun _ _ _ h => h) (Or.inr ⟨by kernel_rfl, rfl⟩) hS ?_
                        try simp only [Act.put, List.setIfInBounds_toArray, List.set_cons_zero, List.set_cons_succ]
                        refine anyH_at (i := 17) (v := .bool false) 144 rfl (by kernel_rfl) (by kernel_rfl) (by kernel_rfl) (by kernel_rfl) (fun _ _ _ h => h) (Or.inl ⟨by kernel_rfl, fun W hS => by go_simp⟩) hS ?_
                        try simp only [Act.put, List.setIfInBounds_toArray, List.set_cons_zero, List.set_cons_succ]
                        refine wpAnyH_done (by kernel_rfl) ?_ _
                        refine noPanic_out ?_
                        clear hS
                        go_wp2_with fail
                        go_roundw
                        case rel => exact ⟨j + 1, by omega, by go_num, HZ⟩
                        case measure => simp [intOf]; omega
                      | false =>
                        obtain ⟨r1, r2⟩ := unhide HRj (unhide hag)
                        subst r1 r2
                        have he2 := hide (fun W => eq45 y (unhide hy64) W)
                        go_wp2_with fail
                        refine wp_region_noPanic ?_
                        refine wp_region_held_drew (S := fun V => Blk V b21 (byv y).toArray 45 ∧ V.rangeAt b12 (j * 64) (byv y) ∧ V.cell? ⟨b13, j, none⟩ = some (.int .i64 ye) ∧ V.cell? ⟨b17, j, none⟩ = some (.bool false)) (by kernel_rfl) ⟨unhide H21, unhide HR12, unhide HR13, unhide HR17⟩ (fun hS => ?_)
                        replace HZ := hide (unhide HZ).drew
                        generalize U5.drew = V0 at *
                        refine anyH_at (i := 0) (v := .int .i64 (j : Int)) 127 rfl (by kernel_rfl) (by kernel_rfl) (by kernel_rfl) (by kernel_rfl) (fun _ _ _ h => h) (Or.inl ⟨by kernel_rfl, fun W hS => by go_simp⟩) hS ?_
                        try simp only [Act.put, List.setIfInBounds_toArray, List.set_cons_zero, List.set_cons_succ]
                        refine anyH_at (i := 1) (v := .pointer (some ⟨b17, j, none⟩)) 128 rfl (by kernel_rfl) (by kernel_rfl) (by kernel_rfl) (by kernel_rfl) (fun _ _ _ h => h) (Or.inl ⟨by kernel_rfl, fun W hS => by have hq1 : (j : Int) < 30 := (by omega); go_simp⟩) hS ?_
                        try simp only [Act.put, List.setIfInBounds_toArray, List.set_cons_zero, List.set_cons_succ]
                        refine anyH_at (i := 2) (v := .bool false) 129 rfl (by kernel_rfl) (by kernel_rfl) (by kernel_rfl) (by kernel_rfl) (fun _ _ _ h => h) (Or.inl ⟨by kernel_rfl, fun W hS => by have c1 := hS.2.2.2; go_simp⟩) hS ?_
                        try simp only [Act.put, List.setIfInBounds_toArray, List.set_cons_zero, List.set_cons_succ]
                        refine anyH_at (i := 3) (v := .bool true) 130 rfl (by kernel_rfl) (by kernel_rfl) (by kernel_rfl) (by kernel_rfl) (fun _ _ _ h => h) (Or.inl ⟨by kernel_rfl, fun W hS => by go_simp⟩) hS ?_
                        try simp only [Act.put, List.setIfInBounds_toArray, List.set_cons_zero, List.set_cons_succ]
                        refine anyH_at (i := 4) (v := .bool true) 131 rfl (by kernel_rfl) (by kernel_rfl) (by kernel_rfl) (by kernel_rfl) (fun _ _ _ h => h) (Or.inl ⟨by kernel_rfl, fun W hS => by go_simp⟩) hS ?_
                        try simp only [Act.put, List.setIfInBounds_toArray, List.set_cons_zero, List.set_cons_succ]
                        refine anyH_at (i := 5) (v := .agg (byv y).toArray) 132 rfl (by kernel_rfl) (by kernel_rfl) (by kernel_rfl) (by kernel_rfl) (fun _ _ _ h => h) (ylo_rg (by kernel_rfl) 45 _ rfl rfl (fun W hS => hS.1.rg) row45 size45 (unhide hyl)) hS ?_
                        try simp only [Act.put, List.setIfInBounds_toArray, List.set_cons_zero, List.set_cons_succ]
                        refine anyH_at (i := 6) (v := .int .i64 (j : Int)) 133 rfl (by kernel_rfl) (by kernel_rfl) (by kernel_rfl) (by kernel_rfl) (fun _ _ _ h => h) (Or.inl ⟨by kernel_rfl, fun W hS => by go_simp⟩) hS ?_
                        try simp only [Act.put, List.setIfInBounds_toArray, List.set_cons_zero, List.set_cons_succ]
                        refine anyH_at (i := 7) (v := .pointer (some ⟨b12, j * 64, none⟩)) 134 rfl (by kernel_rfl) (by kernel_rfl) (by kernel_rfl) (by kernel_rfl) (fun _ _ _ h => h) (Or.inl ⟨by kernel_rfl, fun W hS => by have hq1 : (j : Int) < 30 := (by omega); go_simp⟩) hS ?_
                        try simp only [Act.put, List.setIfInBounds_toArray, List.set_cons_zero, List.set_cons_succ]
                        refine anyH_at (i := 8) (v := .agg (byv y).toArray) 135 rfl (by kernel_rfl) (by kernel_rfl) (by kernel_rfl) (by kernel_rfl) (fun _ _ _ h => h) (ylo_rg (by kernel_rfl) 45 _ rfl rfl (fun W hS => hS.2.1) row45 size45 (unhide hyl)) hS ?_
                        try simp only [Act.put, List.setIfInBounds_toArray, List.set_cons_zero, List.set_cons_succ]
                        refine anyH_at (i := 9) (v := .bool false) 136 rfl (by kernel_rfl) (by kernel_rfl) (by kernel_rfl) (by kernel_rfl) (fun _ _ _ h => h) (Or.inl ⟨by kernel_rfl, fun W hS => by have he := unhide he2; have hg := gd45; go_simp⟩) hS ?_
                        try simp only [Act.put, List.setIfInBounds_toArray, List.set_cons_zero, List.set_cons_succ]
                        refine anyH_at (i := 10) (v := .bool false) 137 rfl (by kernel_rfl) (by kernel_rfl) (by kernel_rfl) (by kernel_rfl) (fun _ _ _ h => h) (Or.inl ⟨by kernel_rfl, fun W hS => by go_simp⟩) hS ?_
                        try simp only [Act.put, List.setIfInBounds_toArray, List.set_cons_zero, List.set_cons_succ]
                        refine anyH_at (i := 11) (v := .int .i64 ye) 138 rfl (by kernel_rfl) (by kernel_rfl) (by kernel_rfl) (by kernel_rfl) (fun _ _ _ h => h) (Or.inl ⟨by kernel_rfl, fun W hS => by go_simp⟩) hS ?_
                        try simp only [Act.put, List.setIfInBounds_toArray, List.set_cons_zero, List.set_cons_succ]
                        refine anyH_at (i := 12) (v := .int .i64 (j : Int)) 139 rfl (by kernel_rfl) (by kernel_rfl) (by kernel_rfl) (by kernel_rfl) (fun _ _ _ h => h) (Or.inl ⟨by kernel_rfl, fun W hS => by go_simp⟩) hS ?_
                        try simp only [Act.put, List.setIfInBounds_toArray, List.set_cons_zero, List.set_cons_succ]
                        refine anyH_at (i := 13) (v := .pointer (some ⟨b13, j, none⟩)) 140 rfl (by kernel_rfl) (by kernel_rfl) (by kernel_rfl) (by kernel_rfl) (fun _ _ _ h => h) (Or.inl ⟨by kernel_rfl, fun W hS => by have hq1 : (j : Int) < 30 := (by omega); go_simp⟩) hS ?_
                        try simp only [Act.put, List.setIfInBounds_toArray, List.set_cons_zero, List.set_cons_succ]
                        refine anyH_at (i := 14) (v := .int .i64 ye) 141 rfl (by kernel_rfl) (by kernel_rfl) (by kernel_rfl) (by kernel_rfl) (fun _ _ _ h => h) (Or.inl ⟨by kernel_rfl, fun W hS => by have c1 := hS.2.2.1; go_simp⟩) hS ?_
                        try simp only [Act.put, List.setIfInBounds_toArray, List.set_cons_zero, List.set_cons_succ]
                        refine anyH_at (i := 15) (v := .bool false) 142 rfl (by kernel_rfl) (by kernel_rfl) (by kernel_rfl) (by kernel_rfl) (fun _ _ _ h => h) (Or.inl ⟨by kernel_rfl, fun W hS => by go_simp⟩) hS ?_
                        try simp only [Act.put, List.setIfInBounds_toArray, List.set_cons_zero, List.set_cons_succ]
                        refine anyH_at (i := 16) (v := .bool false) 143 rfl (by kernel_rfl) (by kernel_rfl) (by kernel_rfl) (by kernel_rfl) (fun _ _ _ h => h) (Or.inl ⟨by kernel_rfl, fun W hS => by go_simp⟩) hS ?_
                        try simp only [Act.put, List.setIfInBounds_toArray, List.set_cons_zero, List.set_cons_succ]
                        refine anyH_at (i := 17) (v := .bool false) 144 rfl (by kernel_rfl) (by kernel_rfl) (by kernel_rfl) (by kernel_rfl) (fun _ _ _ h => h) (Or.inl ⟨by kernel_rfl, fun W hS => by go_simp⟩) hS ?_
                        try simp only [Act.put, List.setIfInBounds_toArray, List.set_cons_zero, List.set_cons_succ]
                        refine wpAnyH_done (by kernel_rfl) ?_ _
                        refine noPanic_out ?_
                        clear hS
                        go_wp2_with fail
                        go_roundw
                        case rel => exact ⟨j + 1, by omega, by go_num, HZ⟩
                        case measure => simp [intOf]; omega
                    · obtain rfl : j = 30 := by omega
                      replace HH := hide ((unhide HH).below (unhide HZ))
                      replace HB := hide (below_via (unhide HB) (unhide HZ))
                      go_wp2_with fail
                      refine (waix p A5 _ _ (unhide HH)).mono ?_
                      rintro e U9 ⟨rfl, e1⟩
                      rw [e1, unhide HWe]
                      go_wp2_with fail
                      go_ret
                      exact ⟨rfl, unhide HB⟩
theorem own : ownKnob Try.prog.godebug = none := by kernel_rfl
theorem laidOut : laidOutB Try.prog = true := by kernel_rfl
set_option linter.unusedVariables false in
set_option maxRecDepth 100000 in
theorem lifted (os : Os) (started : os.Started) (H : Type) (enc : TypeId × Value → H) :
    ReturnsInHanded {} Try.checked os 4 .any (Rows.blockLastsSpec.pre6 enc Try.prog Try.f4 Rows.blockLastsRow.domain false) (Rows.blockLastsSpec.post enc Try.prog Try.f4 false true false false) := by
  refine returnsInHanded_of_change (C := Try.checked) own started (by kernel_rfl) Try.func4
    (ChangeSpec.witness6 (enc := enc) (C := Try.checked) false ⟨#[], #[.slice none 0 0, .slice none 0 0], []⟩ 8 (by kernel_rfl) (by kernel_rfl) (by kernel_rfl) (by kernel_rfl)) ?_
  intro W base args ds gs before hval0 hW hcnd _
  have hval : ∀ (j : Nat) t v, Try.f4.params[j]? = some t → args[j]? = some v → Value.okWide Try.prog W .any base t v := hval0
  have hW' := hW
  obtain ⟨p, q, hA0, hV, rfl, hfz, hnd⟩ := hW
  have hA : DataW.TrodAll enc Try.prog W 0 (fun _ => true) true Try.f4.params.toList args.toList ds p := hA0
  rw [Try.params4] at hA hval
  obtain ⟨v0, vs0, d0, ds0, p0, q0, hargs, rfl, rfl, h0, r0⟩ := trodAll_cons hA
  obtain ⟨v1, vs1, d1, ds1, p1, q1, rfl, rfl, rfl, h1, r1⟩ := trodAll_cons r0
  obtain ⟨rfl, rfl, rfl⟩ := trodAll_nil r1
  obtain rfl : args = #[v0, v1] := by cases args; simp_all
  obtain ⟨rfl, rfl⟩ := trodVars_none hV
  have k0 := h0
  have lt0 : ∀ x ∈ p0, x.block < W.heap.size := by obtain ⟨m, hm⟩ := k0; exact DataW.trod_lt m _ _ _ hm
  obtain ⟨a0, len0, cap0, rfl⟩ := okWide_slice Try.underlying22 (hval 0 22 v0 rfl rfl)
  obtain ⟨l0, hr0⟩ : ∃ l : List Opx, Ops W (.slice a0 len0 cap0) l := by
    obtain ⟨fuel, hf⟩ := h0
    exact ops_open hf
  have k1 := h1
  have lt1 : ∀ x ∈ p1, x.block < W.heap.size := by obtain ⟨m, hm⟩ := k1; exact DataW.trod_lt m _ _ _ hm
  obtain ⟨a1, len1, cap1, rfl⟩ := okWide_slice Try.underlying22 (hval 1 22 v1 rfl rfl)
  obtain ⟨l1, hr1⟩ : ∃ l : List Opx, Ops W (.slice a1 len1 cap1) l := by
    obtain ⟨fuel, hf⟩ := h1
    exact ops_open hf
  clear hA0 hval0
  refine (walk _ l0 _ l1 W hr0 hr1).mono fun e W' ⟨he, bel⟩ => ?_
  subst he
  exact ⟨_, rfl, _, _, _, [], _, [], hW', trodAll_mk1 (shut_bool Try.underlying4 _), (trodAll_cons_mk (Below.trod laidOut (by kernel_rfl) (of_decide_eq_true (by kernel_rfl)) k0 bel lt0) (trodAll_cons_mk (Below.trod laidOut (by kernel_rfl) (of_decide_eq_true (by kernel_rfl)) k1 bel lt1) trodAll_mk0)), rfl, bel.frame _, fun h => by cases h⟩
theorem over : Rows.blockLastsRow.holds Try.pinned (OpenSpec.ofChange Rows.blockLastsSpec) :=
  OpenClaim.holds_of_wide 4 Try.f4 rfl rfl rfl rfl rfl rfl rfl ⟨rfl, rfl, rfl, rfl, rfl⟩ rfl rfl rfl rfl rfl (by kernel_rfl) Try.func4 (by kernel_rfl)
    (of_decide_eq_true (by kernel_rfl)) (by unfold Func.isWrapper; first | (rw [if_pos (by decide +kernel)]; kernel_rfl) | (rw [if_neg (by decide +kernel)]; exact ⟨rfl, rfl⟩))
    (fun os started H enc _ => lifted os started H enc)
theorem proved : Rows.BlockLastsSaid := over
end Go.Proofs.Ytdbefnghljjieaa.blockLasts
namespace Go.Proofs.Ytdbefnghljjieaa
theorem blockLasts_holds : Rows.BlockLastsSaid := blockLasts.proved
end Go.Proofs.Ytdbefnghljjieaa
