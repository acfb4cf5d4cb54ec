/- Proved here: ChartSums: Net of Net is Net, in whatever order lines stand; of lines that may be it is nothing all together; two Nets, netted, are the Net of both. No condition. -/
import Derived.Test.YtalbdkihlcbhbaaAl
import Derived.Test.YtalbdkihlcbhbaaAr
import Derived.Test.YtalbdkihlcbhbaaSm
import Derived.Test.YtalbdkihlcbhbaaSr
namespace Go.Proofs.Ytalbdkihlcbhbaa.chartSums
open Go.ChangeShapes Go.WideShapes Go.ChangeAt Go.RowKit
set_option linter.unusedVariables false
set_option linter.unusedSimpArgs false
theorem s_long (x : Option Addr) (n cap : Nat) (A : Nat) (d1 : decide ((200 : Int) < (n : Int)) = true) (w : World) : Calls Try.prog 6 #[.slice x n cap, .int .u8 (A : Int)] w fun e w' => e = .returned (.bool true) ∧ Below w.heap.size w w' := by
  go_enter Try.func6, Try.ntmps6
  go_wp2_with fail
  refine (alive_any _).mono ?_
  rintro e w1 ⟨rfl, hb⟩
  replace hb := hide hb
  go_wp2_with fail
  go_ret
  exact ⟨rfl, unhide hb⟩
set_option maxHeartbeats 16000000 in
set_option maxRecDepth 20000 in
theorem s_ok (x : Option Addr) (n cap A k : Nat) (l : List Li) (d1 : decide ((200 : Int) < (n : Int)) = false) (hn : n ≤ 200) (hA : A ≤ 255) (ht : Int.tmod (A : Int) ((n : Int) + 1) = (k : Int)) (kn : (k : Int) ≤ (n : Int)) (kc : (k : Int) ≤ (cap : Int)) (w : World)
    (HR : Hid (RowG 2 w (.slice x n cap) (l.map liL))) (HLo : Hid (RowG 2 w (.slice (loA x k cap) (n - k) (cap - k)) ((l.drop k).map liL))) (HHi : Hid (RowG 2 w (.slice x k cap) ((l.take k).map liL)))
    (Hle : Hid (l.length ≤ 10000)) (Hl1 : Hid (l.length ≤ 1000)) (Hd : Hid ((l.drop k).length ≤ 10000)) (Hd1 : Hid ((l.drop k).length ≤ 1000)) (Ht : Hid ((l.take k).length ≤ 10000)) (Ht1 : Hid ((l.take k).length ≤ 1000)) (Hdt : Hid (((l.drop k).map liL).length + ((l.take k).map liL).length ≤ 1000000)) (Hle3 : Hid ((l.drop k ++ l.take k).length ≤ 1000))
    (Hin : Hid (AllIn l)) (HinS : Hid (AllIn (l.drop k ++ l.take k))) (HinT : Hid (AllIn (l.take k))) (HinD : Hid (AllIn (l.drop k))) (Hln : Hid ((netL l).length ≤ 10000)) (Hsw : Hid (netE (l.drop k ++ l.take k) = netE l ∧ netL (l.drop k ++ l.take k) = netL l))
    (Hee : Hid (¬ netE l = 0 ∨ netE l = 0)) (Hx : Hid (¬ netE (l.take k) = 0 ∨ netE (l.take k) = 0)) (Hy : Hid (¬ netE (l.drop k) = 0 ∨ netE (l.drop k) = 0)) : Calls Try.prog 6 #[.slice x n cap, .int .u8 (A : Int)] w fun e w' => e = .returned (.bool true) ∧ Below w.heap.size w w' := by
  have hne : ((n : Int) + 1) ≠ 0 := by omega
  go_enter Try.func6, Try.ntmps6
  go_wp2_with fail
  refine (alive_any _).mono ?_
  rintro e w1 ⟨rfl, hb⟩
  have HB := hide hb
  replace HR := hide ((show RowG _ _ _ _ from unhide HR).keep hb)
  replace HLo := hide ((show RowG _ _ _ _ from unhide HLo).keep hb)
  replace HHi := hide ((show RowG _ _ _ _ from unhide HHi).keep hb)
  clear hb
  go_wp2_with fail
  refine (to_any _ _ _ (unhide HR) (unhide Hle)).mono ?_
  rintro e w2 ⟨v1, rfl, hG⟩
  replace HR := hide ((show RowG _ _ _ _ from unhide HR).keep hG.below)
  replace HLo := hide ((show RowG _ _ _ _ from unhide HLo).keep hG.below)
  replace HHi := hide ((show RowG _ _ _ _ from unhide HHi).keep hG.below)
  replace HB := hide (below_via (unhide HB) hG.below)
  have HI := hide hG.row
  clear hG
  go_wp2_with fail
  refine (net_any _ _ _ (unhide HI) (unhide Hl1) (unhide Hin)).mono ?_
  rintro e w3 ⟨a, rfl, hG⟩
  replace HR := hide ((show RowG _ _ _ _ from unhide HR).keep hG.below)
  replace HLo := hide ((show RowG _ _ _ _ from unhide HLo).keep hG.below)
  replace HHi := hide ((show RowG _ _ _ _ from unhide HHi).keep hG.below)
  replace HI := hide ((show RowG _ _ _ _ from unhide HI).keep hG.below)
  replace HB := hide (below_via (unhide HB) hG.below)
  have HA := hide hG.row
  clear hG
  clear HI
  go_wp2_with fail
  refine sreg7 kn kc HLo HHi Hd Ht Hdt Hle3 HinS (fun ulo uhi ub t w4 hrow hb => ?_)
  rw [(unhide Hsw).2] at hrow
  rw [(unhide Hsw).1]
  replace HR := hide ((show RowG _ _ _ _ from unhide HR).keep hb)
  replace HLo := hide ((show RowG _ _ _ _ from unhide HLo).keep hb)
  replace HHi := hide ((show RowG _ _ _ _ from unhide HHi).keep hb)
  replace HA := hide ((show RowG _ _ _ _ from unhide HA).keep hb)
  replace HB := hide (below_via (unhide HB) hb)
  have HT := hide hrow
  clear hrow hb
  have dE : (netE l != netE l) = false := by simp
  go_wp2_with fail
  refine (from_any _ _ _ (unhide HA) (unhide Hln)).mono ?_
  rintro e w5 ⟨u1, rfl, hG⟩
  replace HR := hide ((show RowG _ _ _ _ from unhide HR).keep hG.below)
  replace HLo := hide ((show RowG _ _ _ _ from unhide HLo).keep hG.below)
  replace HHi := hide ((show RowG _ _ _ _ from unhide HHi).keep hG.below)
  replace HA := hide ((show RowG _ _ _ _ from unhide HA).keep hG.below)
  replace HT := hide ((show RowG _ _ _ _ from unhide HT).keep hG.below)
  replace HB := hide (below_via (unhide HB) hG.below)
  have HU := hide hG.row
  clear hG
  go_wp2_with fail
  refine (from_any _ _ _ (unhide HT) (unhide Hln)).mono ?_
  rintro e w6 ⟨u2, rfl, hG⟩
  replace HR := hide ((show RowG _ _ _ _ from unhide HR).keep hG.below)
  replace HLo := hide ((show RowG _ _ _ _ from unhide HLo).keep hG.below)
  replace HHi := hide ((show RowG _ _ _ _ from unhide HHi).keep hG.below)
  replace HA := hide ((show RowG _ _ _ _ from unhide HA).keep hG.below)
  replace HT := hide ((show RowG _ _ _ _ from unhide HT).keep hG.below)
  replace HU := hide ((show RowG _ _ _ _ from unhide HU).keep hG.below)
  replace HB := hide (below_via (unhide HB) hG.below)
  have HV := hide hG.row
  clear hG
  clear HT
  go_wp2_with fail
  refine (same_to _ _ _ _ (unhide HU) (unhide HV)).mono ?_
  rintro e w7 ⟨rfl, hb⟩
  replace HR := hide ((show RowG _ _ _ _ from unhide HR).keep hb)
  replace HLo := hide ((show RowG _ _ _ _ from unhide HLo).keep hb)
  replace HHi := hide ((show RowG _ _ _ _ from unhide HHi).keep hb)
  replace HA := hide ((show RowG _ _ _ _ from unhide HA).keep hb)
  replace HU := hide ((show RowG _ _ _ _ from unhide HU).keep hb)
  replace HV := hide ((show RowG _ _ _ _ from unhide HV).keep hb)
  replace HB := hide (below_via (unhide HB) hb)
  clear hb
  clear HU HV
  rcases unhide Hee with hE | hE
  · have d1 : (netE l != 0) = true := by simpa using hE
    have hL : netL l = [] := by unfold netL; rw [if_neg hE]
    rw [hL] at HA
    obtain ⟨aa, ac, rfl⟩ := rowG_slice (show RowG _ _ _ _ from unhide HA)
    clear hE hL
    go_wp2_with fail
    go_ret
    exact ⟨rfl, unhide HB⟩
  · rw [hE]
    have Hnn := hide (net_net hE)
    have Hpa := hide (fun h1 h2 => net_parts (l := l) (k := k) hE h1 h2)
    have Htot := hide (fun h => tot_L (l := l) hE h)
    have Hck : Hid (¬ chkE l = 0 ∨ chkE l = 0) := hide (by omega)
    have HinL := hide (in_L l)
    have Hls : Hid ((netL l).length ≤ 1000) := hide (by have := net_small l; omega)
    clear hE dE
    go_wp2_with fail
    refine (net_any _ _ _ (unhide HA) (unhide Hls) (unhide HinL)).mono ?_
    rw [(unhide Hnn).1]
    rintro e w8 ⟨g, rfl, hG⟩
    rw [(unhide Hnn).2] at hG
    replace HR := hide ((show RowG _ _ _ _ from unhide HR).keep hG.below)
    replace HLo := hide ((show RowG _ _ _ _ from unhide HLo).keep hG.below)
    replace HHi := hide ((show RowG _ _ _ _ from unhide HHi).keep hG.below)
    replace HA := hide ((show RowG _ _ _ _ from unhide HA).keep hG.below)
    replace HB := hide (below_via (unhide HB) hG.below)
    have HT := hide hG.row
    clear hG
    go_wp2_with fail
    refine (from_any _ _ _ (unhide HT) (unhide Hln)).mono ?_
    rintro e w9 ⟨u3, rfl, hG⟩
    replace HR := hide ((show RowG _ _ _ _ from unhide HR).keep hG.below)
    replace HLo := hide ((show RowG _ _ _ _ from unhide HLo).keep hG.below)
    replace HHi := hide ((show RowG _ _ _ _ from unhide HHi).keep hG.below)
    replace HA := hide ((show RowG _ _ _ _ from unhide HA).keep hG.below)
    replace HT := hide ((show RowG _ _ _ _ from unhide HT).keep hG.below)
    replace HB := hide (below_via (unhide HB) hG.below)
    have HU := hide hG.row
    clear hG
    go_wp2_with fail
    clear HT
    refine (from_any _ _ _ (unhide HA) (unhide Hln)).mono ?_
    rintro e w10 ⟨u4, rfl, hG⟩
    replace HR := hide ((show RowG _ _ _ _ from unhide HR).keep hG.below)
    replace HLo := hide ((show RowG _ _ _ _ from unhide HLo).keep hG.below)
    replace HHi := hide ((show RowG _ _ _ _ from unhide HHi).keep hG.below)
    replace HA := hide ((show RowG _ _ _ _ from unhide HA).keep hG.below)
    replace HU := hide ((show RowG _ _ _ _ from unhide HU).keep hG.below)
    replace HB := hide (below_via (unhide HB) hG.below)
    have HV := hide hG.row
    clear hG
    go_wp2_with fail
    refine (same_to _ _ _ _ (unhide HU) (unhide HV)).mono ?_
    rintro e w11 ⟨rfl, hb⟩
    replace HR := hide ((show RowG _ _ _ _ from unhide HR).keep hb)
    replace HLo := hide ((show RowG _ _ _ _ from unhide HLo).keep hb)
    replace HHi := hide ((show RowG _ _ _ _ from unhide HHi).keep hb)
    replace HA := hide ((show RowG _ _ _ _ from unhide HA).keep hb)
    replace HU := hide ((show RowG _ _ _ _ from unhide HU).keep hb)
    replace HV := hide ((show RowG _ _ _ _ from unhide HV).keep hb)
    replace HB := hide (below_via (unhide HB) hb)
    clear hb
    clear HU HV
    go_wp2_with fail
    have f1 := fun W => sl_hi x n cap k kc W
    have f2 := fun W => sl_lo x n cap k kn W
    go_wp2_with (first | simp only [f1] | simp only [f2])
    refine (to_any _ _ _ (unhide HHi) (unhide Ht)).mono ?_
    rintro e w12 ⟨v2, rfl, hG⟩
    replace HR := hide ((show RowG _ _ _ _ from unhide HR).keep hG.below)
    replace HLo := hide ((show RowG _ _ _ _ from unhide HLo).keep hG.below)
    replace HHi := hide ((show RowG _ _ _ _ from unhide HHi).keep hG.below)
    replace HA := hide ((show RowG _ _ _ _ from unhide HA).keep hG.below)
    replace HB := hide (below_via (unhide HB) hG.below)
    have HI := hide hG.row
    clear hG
    go_wp2_with fail
    have HRs := HR
    have HAs := HA
    have HBs := HB
    refine (net_any _ _ _ (unhide HI) (unhide Ht1) (unhide HinT)).mono ?_
    rintro e w13 ⟨y1, rfl, hG⟩
    replace HR := hide ((show RowG _ _ _ _ from unhide HR).keep hG.below)
    replace HLo := hide ((show RowG _ _ _ _ from unhide HLo).keep hG.below)
    replace HHi := hide ((show RowG _ _ _ _ from unhide HHi).keep hG.below)
    replace HA := hide ((show RowG _ _ _ _ from unhide HA).keep hG.below)
    replace HI := hide ((show RowG _ _ _ _ from unhide HI).keep hG.below)
    replace HB := hide (below_via (unhide HB) hG.below)
    have HX := hide hG
    clear hG
    clear HI HHi
    go_wp2_with (first | simp only [f1] | simp only [f2])
    refine (to_any _ _ _ (unhide HLo) (unhide Hd)).mono ?_
    rintro e w14 ⟨v3, rfl, hG⟩
    replace HR := hide ((show RowG _ _ _ _ from unhide HR).keep hG.below)
    replace HLo := hide ((show RowG _ _ _ _ from unhide HLo).keep hG.below)
    replace HA := hide ((show RowG _ _ _ _ from unhide HA).keep hG.below)
    replace HX := hide ((show GrowG _ _ _ _ _ _ from unhide HX).keep hG.below)
    replace HB := hide (below_via (unhide HB) hG.below)
    have HI := hide hG.row
    clear hG
    go_wp2_with fail
    refine (net_any _ _ _ (unhide HI) (unhide Hd1) (unhide HinD)).mono ?_
    rintro e w15 ⟨y2, rfl, hG⟩
    replace HR := hide ((show RowG _ _ _ _ from unhide HR).keep hG.below)
    replace HLo := hide ((show RowG _ _ _ _ from unhide HLo).keep hG.below)
    replace HA := hide ((show RowG _ _ _ _ from unhide HA).keep hG.below)
    replace HX := hide ((show GrowG _ _ _ _ _ _ from unhide HX).keep hG.below)
    replace HI := hide ((show RowG _ _ _ _ from unhide HI).keep hG.below)
    replace HB := hide (below_via (unhide HB) hG.below)
    have HY := hide hG.row
    clear hG
    clear HI HLo
    clear f1 f2
    rcases unhide Hx with hx | hx
    · have d2 : (netE (l.take k) == 0) = false := by simpa using hx
      clear hx HX HY Hpa
      go_wp2_with fail
      refine (to_any _ _ _ (unhide HR) (unhide Hle)).mono ?_
      rintro e w16 ⟨v9, rfl, hG⟩
      replace HR := hide ((show RowG _ _ _ _ from unhide HR).keep hG.below)
      replace HA := hide ((show RowG _ _ _ _ from unhide HA).keep hG.below)
      replace HB := hide (below_via (unhide HB) hG.below)
      have HI := hide hG.row
      clear hG
      go_wp2_with fail
      refine (chk_any _ _ _ (unhide HI)).mono ?_
      rintro e w17 ⟨rfl, hb⟩
      replace HR := hide ((show RowG _ _ _ _ from unhide HR).keep hb)
      replace HA := hide ((show RowG _ _ _ _ from unhide HA).keep hb)
      replace HI := hide ((show RowG _ _ _ _ from unhide HI).keep hb)
      replace HB := hide (below_via (unhide HB) hb)
      clear hb
      clear HI HR
      rcases unhide Hck with hc | hc
      · have d9 : (chkE l != 0) = true := by simpa using hc
        clear hc Htot
        go_wp2_with fail
        go_ret
        exact ⟨rfl, unhide HB⟩
      · have Htz := hide (unhide Htot hc)
        rw [hc]
        clear hc Htot
        have Hsm := hide (net_small l)
        have HT := hide (fun i => tot_take (netL l) (k := i))
        have HAl : Hid ((netL l).take (netL l).length = netL l) := hide (by rw [List.take_length])
        have HIn := hide (fun i h => in_L l (liA (netL l) i) (liA_mem (k := i) h))
        obtain ⟨aa, ac, rfl⟩ := rowG_slice (show RowG _ _ _ _ from unhide HA)
        rw [List.length_map] at HA
        rw [List.length_map]
        have hv : Hid (0 < (netL l).length → ∃ b off, aa = some ⟨b, off, none⟩) := hide (fun h0 => by
          obtain ⟨b, off, cp, e, _, _⟩ := (show RowG _ _ _ _ from unhide HA).open (by rw [List.length_map]; exact h0)
          injection e with e1 _ _
          exact ⟨b, off, e1⟩)
        clear Hck
        generalize netL l = Z at *
        generalize hl : Z.length = len at *
        have hsm := unhide Hsm
        go_wp2_with fail
        go_loopw [18, 127] (fun s i wr => ∃ j : Nat, j ≤ len ∧ i = .int .i64 j ∧ s = .int .i64 (wrap64 (tot (Z.take j))) ∧ Hid (Below w.heap.size w wr) ∧ Hid (RowG 2 wr (.slice aa len ac) (Z.map liL))) (fun _ i _ => len - (intOf i).toNat)
        case atStart => exact ⟨0, by omega, rfl, by simp [tot, Mn.total, wrap64], HB, HA⟩
        case round =>
          clear HB HA
          obtain ⟨j, hj, rfl, rfl, HB, HA⟩ := hrel
          by_cases hlt : j < len
          · obtain ⟨b, off, rfl⟩ := unhide hv (by omega)
            obtain ⟨m0, m1⟩ := (show RowG _ _ _ _ from unhide HA).li (k := j) (by rw [hl]; exact hlt)
            have ht := hide (unhide HT j hlt)
            have hq := unhide HIn j hlt
            have q1 := hq.lo
            have q2 := hq.hi
            have k1 : (j : Int) < (len : Int) := by omega
            clear hq
            generalize (liA Z j).1 = p at *
            generalize (liA Z j).2 = q at *
            have hww : Hid (wrap64 (wrap64 (tot (Z.take j)) + q) = wrap64 (tot (Z.take (j + 1)))) := hide (by rw [unhide ht, Mn.wrap_wrap])
            have iw := in64_wrap (tot (Z.take j))
            have w1 := iw.lo
            have w2 := iw.hi
            generalize wrap64 (tot (Z.take j)) = S at *
            replace HB := hide (below_via (unhide HB) (below1 wr (.cells #[.int .i64 p, .int .i64 q] 44)))
            replace HA := hide ((show RowG _ _ _ _ from unhide HA).alloc (.cells #[.int .i64 p, .int .i64 q] 44))
            clear iw
            go_wp2_with fail
            go_roundw
            case rel => exact ⟨j + 1, by omega, by go_num, by rw [← unhide hww], HB, HA⟩
            case measure => simp [intOf]; omega
          · obtain rfl : j = len := by omega
            rw [unhide HAl, unhide Htz]
            have hw0 : (wrap64 0 == 0) = true := by simp [wrap64]
            go_wp2_with fail
            go_ret
            exact ⟨rfl, unhide HB⟩
    · rw [hx]
      rcases unhide Hy with hy | hy
      · have d2 : (netE (l.drop k) == 0) = false := by simpa using hy
        clear hy HX HY Hpa
        go_wp2_with fail
        refine (to_any _ _ _ (unhide HR) (unhide Hle)).mono ?_
        rintro e w16 ⟨v9, rfl, hG⟩
        replace HR := hide ((show RowG _ _ _ _ from unhide HR).keep hG.below)
        replace HA := hide ((show RowG _ _ _ _ from unhide HA).keep hG.below)
        replace HB := hide (below_via (unhide HB) hG.below)
        have HI := hide hG.row
        clear hG
        go_wp2_with fail
        refine (chk_any _ _ _ (unhide HI)).mono ?_
        rintro e w17 ⟨rfl, hb⟩
        replace HR := hide ((show RowG _ _ _ _ from unhide HR).keep hb)
        replace HA := hide ((show RowG _ _ _ _ from unhide HA).keep hb)
        replace HI := hide ((show RowG _ _ _ _ from unhide HI).keep hb)
        replace HB := hide (below_via (unhide HB) hb)
        clear hb
        clear HI HR
        rcases unhide Hck with hc | hc
        · have d9 : (chkE l != 0) = true := by simpa using hc
          clear hc Htot
          go_wp2_with fail
          go_ret
          exact ⟨rfl, unhide HB⟩
        · have Htz := hide (unhide Htot hc)
          rw [hc]
          clear hc Htot
          have Hsm := hide (net_small l)
          have HT := hide (fun i => tot_take (netL l) (k := i))
          have HAl : Hid ((netL l).take (netL l).length = netL l) := hide (by rw [List.take_length])
          have HIn := hide (fun i h => in_L l (liA (netL l) i) (liA_mem (k := i) h))
          obtain ⟨aa, ac, rfl⟩ := rowG_slice (show RowG _ _ _ _ from unhide HA)
          rw [List.length_map] at HA
          rw [List.length_map]
          have hv : Hid (0 < (netL l).length → ∃ b off, aa = some ⟨b, off, none⟩) := hide (fun h0 => by
            obtain ⟨b, off, cp, e, _, _⟩ := (show RowG _ _ _ _ from unhide HA).open (by rw [List.length_map]; exact h0)
            injection e with e1 _ _
            exact ⟨b, off, e1⟩)
          clear Hck
          generalize netL l = Z at *
          generalize hl : Z.length = len at *
          have hsm := unhide Hsm
          go_wp2_with fail
          go_loopw [18, 127] (fun s i wr => ∃ j : Nat, j ≤ len ∧ i = .int .i64 j ∧ s = .int .i64 (wrap64 (tot (Z.take j))) ∧ Hid (Below w.heap.size w wr) ∧ Hid (RowG 2 wr (.slice aa len ac) (Z.map liL))) (fun _ i _ => len - (intOf i).toNat)
          case atStart => exact ⟨0, by omega, rfl, by simp [tot, Mn.total, wrap64], HB, HA⟩
          case round =>
            clear HB HA
            obtain ⟨j, hj, rfl, rfl, HB, HA⟩ := hrel
            by_cases hlt : j < len
            · obtain ⟨b, off, rfl⟩ := unhide hv (by omega)
              obtain ⟨m0, m1⟩ := (show RowG _ _ _ _ from unhide HA).li (k := j) (by rw [hl]; exact hlt)
              have ht := hide (unhide HT j hlt)
              have hq := unhide HIn j hlt
              have q1 := hq.lo
              have q2 := hq.hi
              have k1 : (j : Int) < (len : Int) := by omega
              clear hq
              generalize (liA Z j).1 = p at *
              generalize (liA Z j).2 = q at *
              have hww : Hid (wrap64 (wrap64 (tot (Z.take j)) + q) = wrap64 (tot (Z.take (j + 1)))) := hide (by rw [unhide ht, Mn.wrap_wrap])
              have iw := in64_wrap (tot (Z.take j))
              have w1 := iw.lo
              have w2 := iw.hi
              generalize wrap64 (tot (Z.take j)) = S at *
              replace HB := hide (below_via (unhide HB) (below1 wr (.cells #[.int .i64 p, .int .i64 q] 44)))
              replace HA := hide ((show RowG _ _ _ _ from unhide HA).alloc (.cells #[.int .i64 p, .int .i64 q] 44))
              clear iw
              go_wp2_with fail
              go_roundw
              case rel => exact ⟨j + 1, by omega, by go_num, by rw [← unhide hww], HB, HA⟩
              case measure => simp [intOf]; omega
            · obtain rfl : j = len := by omega
              rw [unhide HAl, unhide Htz]
              have hw0 : (wrap64 0 == 0) = true := by simp [wrap64]
              go_wp2_with fail
              go_ret
              exact ⟨rfl, unhide HB⟩
      · rw [hy]
        have Hpp := hide (unhide Hpa hx hy)
        clear hx hy Hpa
        have hlenXY := hide (show ((netL (l.take k)).map liL).length + ((netL (l.drop k)).map liL).length ≤ 1000000 by have h1 := net_small (l.take k); have h2 := net_small (l.drop k); rw [List.length_map, List.length_map]; omega)
        have HinXY := hide (in_append (in_L (l.take k)) (in_L (l.drop k)))
        have HleXY : Hid ((netL (l.take k) ++ netL (l.drop k)).length ≤ 1000) := hide (by have h1 := net_small (l.take k); have h2 := net_small (l.drop k); rw [List.length_append]; omega)
        clear HB HR HA
        go_wp2_with (at_builtin; refine pushL 44 25 2 16 (.agg #[.int .i64 0, .int .i64 0]) (by decide) (by decide) rfl Try.underlying25 info44 rfl _ _ rfl _ _ y1 y2 ((netL (l.take k)).map liL) ((netL (l.drop k)).map liL) (show GrowG _ _ _ _ _ _ from unhide HX) rfl rfl (show RowG _ _ _ _ from unhide HY) (unhide hlenXY) ?_)
        intro y3 wz hG5 hgr
        have HB := hide (below_via (unhide HBs) hG5.below)
        have HR := hide ((show RowG _ _ _ _ from unhide HRs).keep hG5.below)
        have HA := hide ((show RowG _ _ _ _ from unhide HAs).keep hG5.below)
        have HZ := hide (show RowG 2 wz y3 ((netL (l.take k) ++ netL (l.drop k)).map liL) by rw [List.map_append]; exact hG5.row)
        clear hG5 hgr HX HY HBs HRs HAs hlenXY
        go_wp2_with fail
        refine (net_any _ _ _ (unhide HZ) (unhide HleXY) (unhide HinXY)).mono ?_
        rw [(unhide Hpp).1]
        rintro e w16 ⟨y4, rfl, hG⟩
        rw [(unhide Hpp).2] at hG
        replace HR := hide ((show RowG _ _ _ _ from unhide HR).keep hG.below)
        replace HA := hide ((show RowG _ _ _ _ from unhide HA).keep hG.below)
        replace HZ := hide ((show RowG _ _ _ _ from unhide HZ).keep hG.below)
        replace HB := hide (below_via (unhide HB) hG.below)
        have HT := hide hG.row
        clear hG
        clear HZ
        go_wp2_with fail
        refine (from_any _ _ _ (unhide HT) (unhide Hln)).mono ?_
        rintro e w17 ⟨u5, rfl, hG⟩
        replace HR := hide ((show RowG _ _ _ _ from unhide HR).keep hG.below)
        replace HA := hide ((show RowG _ _ _ _ from unhide HA).keep hG.below)
        replace HT := hide ((show RowG _ _ _ _ from unhide HT).keep hG.below)
        replace HB := hide (below_via (unhide HB) hG.below)
        have HU := hide hG.row
        clear hG
        clear HT
        go_wp2_with fail
        refine (from_any _ _ _ (unhide HA) (unhide Hln)).mono ?_
        rintro e w18 ⟨u6, rfl, hG⟩
        replace HR := hide ((show RowG _ _ _ _ from unhide HR).keep hG.below)
        replace HA := hide ((show RowG _ _ _ _ from unhide HA).keep hG.below)
        replace HU := hide ((show RowG _ _ _ _ from unhide HU).keep hG.below)
        replace HB := hide (below_via (unhide HB) hG.below)
        have HV := hide hG.row
        clear hG
        go_wp2_with fail
        refine (same_to _ _ _ _ (unhide HU) (unhide HV)).mono ?_
        rintro e w19 ⟨rfl, hb⟩
        replace HR := hide ((show RowG _ _ _ _ from unhide HR).keep hb)
        replace HA := hide ((show RowG _ _ _ _ from unhide HA).keep hb)
        replace HU := hide ((show RowG _ _ _ _ from unhide HU).keep hb)
        replace HV := hide ((show RowG _ _ _ _ from unhide HV).keep hb)
        replace HB := hide (below_via (unhide HB) hb)
        clear hb
        clear HU HV
        go_wp2_with fail
        refine (to_any _ _ _ (unhide HR) (unhide Hle)).mono ?_
        rintro e w20 ⟨v9, rfl, hG⟩
        replace HR := hide ((show RowG _ _ _ _ from unhide HR).keep hG.below)
        replace HA := hide ((show RowG _ _ _ _ from unhide HA).keep hG.below)
        replace HB := hide (below_via (unhide HB) hG.below)
        have HI := hide hG.row
        clear hG
        go_wp2_with fail
        refine (chk_any _ _ _ (unhide HI)).mono ?_
        rintro e w21 ⟨rfl, hb⟩
        replace HR := hide ((show RowG _ _ _ _ from unhide HR).keep hb)
        replace HA := hide ((show RowG _ _ _ _ from unhide HA).keep hb)
        replace HI := hide ((show RowG _ _ _ _ from unhide HI).keep hb)
        replace HB := hide (below_via (unhide HB) hb)
        clear hb
        clear HI HR
        rcases unhide Hck with hc | hc
        · have d9 : (chkE l != 0) = true := by simpa using hc
          clear hc Htot
          go_wp2_with fail
          go_ret
          exact ⟨rfl, unhide HB⟩
        · have Htz := hide (unhide Htot hc)
          rw [hc]
          clear hc Htot
          have Hsm := hide (net_small l)
          have HT := hide (fun i => tot_take (netL l) (k := i))
          have HAl : Hid ((netL l).take (netL l).length = netL l) := hide (by rw [List.take_length])
          have HIn := hide (fun i h => in_L l (liA (netL l) i) (liA_mem (k := i) h))
          obtain ⟨aa, ac, rfl⟩ := rowG_slice (show RowG _ _ _ _ from unhide HA)
          rw [List.length_map] at HA
          rw [List.length_map]
          have hv : Hid (0 < (netL l).length → ∃ b off, aa = some ⟨b, off, none⟩) := hide (fun h0 => by
            obtain ⟨b, off, cp, e, _, _⟩ := (show RowG _ _ _ _ from unhide HA).open (by rw [List.length_map]; exact h0)
            injection e with e1 _ _
            exact ⟨b, off, e1⟩)
          clear Hck
          generalize netL l = Z at *
          generalize hl : Z.length = len at *
          have hsm := unhide Hsm
          go_wp2_with fail
          go_loopw [18, 127] (fun s i wr => ∃ j : Nat, j ≤ len ∧ i = .int .i64 j ∧ s = .int .i64 (wrap64 (tot (Z.take j))) ∧ Hid (Below w.heap.size w wr) ∧ Hid (RowG 2 wr (.slice aa len ac) (Z.map liL))) (fun _ i _ => len - (intOf i).toNat)
          case atStart => exact ⟨0, by omega, rfl, by simp [tot, Mn.total, wrap64], HB, HA⟩
          case round =>
            clear HB HA
            obtain ⟨j, hj, rfl, rfl, HB, HA⟩ := hrel
            by_cases hlt : j < len
            · obtain ⟨b, off, rfl⟩ := unhide hv (by omega)
              obtain ⟨m0, m1⟩ := (show RowG _ _ _ _ from unhide HA).li (k := j) (by rw [hl]; exact hlt)
              have ht := hide (unhide HT j hlt)
              have hq := unhide HIn j hlt
              have q1 := hq.lo
              have q2 := hq.hi
              have k1 : (j : Int) < (len : Int) := by omega
              clear hq
              generalize (liA Z j).1 = p at *
              generalize (liA Z j).2 = q at *
              have hww : Hid (wrap64 (wrap64 (tot (Z.take j)) + q) = wrap64 (tot (Z.take (j + 1)))) := hide (by rw [unhide ht, Mn.wrap_wrap])
              have iw := in64_wrap (tot (Z.take j))
              have w1 := iw.lo
              have w2 := iw.hi
              generalize wrap64 (tot (Z.take j)) = S at *
              replace HB := hide (below_via (unhide HB) (below1 wr (.cells #[.int .i64 p, .int .i64 q] 44)))
              replace HA := hide ((show RowG _ _ _ _ from unhide HA).alloc (.cells #[.int .i64 p, .int .i64 q] 44))
              clear iw
              go_wp2_with fail
              go_roundw
              case rel => exact ⟨j + 1, by omega, by go_num, by rw [← unhide hww], HB, HA⟩
              case measure => simp [intOf]; omega
            · obtain rfl : j = len := by omega
              rw [unhide HAl, unhide Htz]
              have hw0 : (wrap64 0 == 0) = true := by simp [wrap64]
              go_wp2_with fail
              go_ret
              exact ⟨rfl, unhide HB⟩
theorem walk (x : Option Addr) (n cap : Nat) (l : List Li) (z : Int) (w : World) (hR : RowG 2 w (.slice x n cap) (l.map liL)) (hi : AllIn l) (iz : 0 ≤ z ∧ z ≤ 255) : Calls Try.prog 6 #[.slice x n cap, .int .u8 z] w fun e w' => e = .returned (.bool true) ∧ Below w.heap.size w w' := by
  have hl := rowG_len hR
  rw [List.length_map] at hl
  obtain ⟨A, rfl⟩ := Int.eq_ofNat_of_zero_le iz.1
  by_cases h1 : 200 < n
  · exact s_long x n cap A (decide_eq_true (by omega)) w
  · obtain ⟨ht, hk⟩ := part_at (n := n) (A := A) (by omega)
    have hle := rowG_le hR
    have h2 := hR.lo hk
    have h3 := hR.hi hk
    rw [← List.map_drop] at h2
    rw [← List.map_take] at h3
    have e1 : (l.drop (A % (n + 1))).length ≤ 200 := by rw [List.length_drop]; omega
    have e2 : (l.take (A % (n + 1))).length ≤ 200 := by rw [List.length_take]; omega
    exact s_ok x n cap A _ l (decide_eq_false (by omega)) (by omega) (by omega) ht (by omega) (by omega) w (hide hR) (hide h2) (hide h3) (hide (by omega)) (hide (by omega)) (hide (by omega)) (hide (by omega)) (hide (by omega)) (hide (by omega)) (hide (by rw [List.length_map, List.length_map]; omega)) (hide (by rw [List.length_append]; omega))
      (hide hi) (hide (in_append (in_drop hi _) (in_take hi _))) (hide (in_take hi _)) (hide (in_drop hi _)) (hide (by have := net_small l; omega)) (hide (net_swap l _)) (hide (Decidable.em _).symm) (hide (Decidable.em _).symm) (hide (Decidable.em _).symm)
theorem own : ownKnob Try.prog.godebug = none := by kernel_rfl
theorem laidOut : laidOutB Try.prog = true := by kernel_rfl
set_option linter.unusedVariables false in
set_option maxRecDepth 100000 in
theorem lifted (os : Os) (started : os.Started) (H : Type) (enc : TypeId × Value → H) :
    ReturnsInHanded {} Try.checked os 6 .any (Rows.chartSumsSpec.pre6 enc Try.prog Try.f6 Rows.chartSumsRow.domain false) (Rows.chartSumsSpec.post enc Try.prog Try.f6 false true false false) := by
  refine returnsInHanded_of_change (C := Try.checked) own started (by kernel_rfl) Try.func6
    (ChangeSpec.witness6 (enc := enc) (C := Try.checked) false ⟨#[], #[.slice none 0 0, .int .u8 0], []⟩ 8 (by kernel_rfl) (by kernel_rfl) (by kernel_rfl) (by kernel_rfl)) ?_
  intro W base args ds gs before hval0 hW hcnd _
  have hval : ∀ (j : Nat) t v, Try.f6.params[j]? = some t → args[j]? = some v → Value.okWide Try.prog W .any base t v := hval0
  have hW' := hW
  obtain ⟨p, q, hA0, hV, rfl, hfz, hnd⟩ := hW
  have hA : DataW.TrodAll enc Try.prog W 0 (fun _ => true) true Try.f6.params.toList args.toList ds p := hA0
  rw [Try.params6] at hA hval
  obtain ⟨v0, vs0, d0, ds0, p0, q0, hargs, rfl, rfl, h0, r0⟩ := trodAll_cons hA
  obtain ⟨v1, vs1, d1, ds1, p1, q1, rfl, rfl, rfl, h1, r1⟩ := trodAll_cons r0
  obtain ⟨rfl, rfl, rfl⟩ := trodAll_nil r1
  obtain rfl : args = #[v0, v1] := by cases args; simp_all
  obtain ⟨rfl, rfl⟩ := trodVars_none hV
  have k0 := h0
  have lt0 : ∀ x ∈ p0, x.block < W.heap.size := by obtain ⟨m, hm⟩ := k0; exact DataW.trod_lt m _ _ _ hm
  obtain ⟨a0, len0, cap0, rfl⟩ := okWide_slice Try.underlying29 (hval 0 29 v0 rfl rfl)
  obtain ⟨l0, hr0, ii0⟩ : ∃ l : List Li, RowG 2 W (.slice a0 len0 cap0) (l.map liL) ∧ AllIn l := by
    obtain ⟨fuel, hf⟩ := h0
    exact lis_open hf
  have k1 := h1
  have lt1 : ∀ x ∈ p1, x.block < W.heap.size := by obtain ⟨m, hm⟩ := k1; exact DataW.trod_lt m _ _ _ hm
  obtain ⟨xb1, rfl, ib1⟩ : ∃ n : Int, v1 = .int .u8 n ∧ (0 ≤ n ∧ n ≤ 255) := by
    obtain ⟨n, rfl⟩ := okWide_int Try.underlying5 (hval 1 5 v1 rfl rfl)
    obtain ⟨m, hm⟩ := h1
    have q := hm
    obtain ⟨z, e, _, w⟩ := DataW.trod_int Try.underlying5 (by simpa [Value.cells] using hm)
    simp at e
    subst e
    refine ⟨_, rfl, ?_⟩
    simp [Lit.wf, IntKind.min, IntKind.max, IntKind.signed, IntKind.bits] at w
    omega
  clear hA0 hval0
  refine (walk a0 len0 cap0 l0 xb1 W hr0 ii0 ib1).mono fun e W' ⟨he, bel⟩ => ?_
  subst he
  exact ⟨_, rfl, _, _, _, [], _, [], hW', trodAll_mk1 (shut_bool Try.underlying4 _), (trodAll_cons_mk (Below.trod laidOut (by kernel_rfl) (of_decide_eq_true (by kernel_rfl)) k0 bel lt0) (trodAll_cons_mk (Below.trod laidOut (by kernel_rfl) (of_decide_eq_true (by kernel_rfl)) k1 bel lt1) trodAll_mk0)), rfl, bel.frame _, fun h => by cases h⟩
theorem over : Rows.chartSumsRow.holds Try.pinned (OpenSpec.ofChange Rows.chartSumsSpec) :=
  OpenClaim.holds_of_wide 6 Try.f6 rfl rfl rfl rfl rfl rfl rfl ⟨rfl, rfl, rfl, rfl, rfl⟩ rfl rfl rfl rfl rfl (by kernel_rfl) Try.func6 (by kernel_rfl)
    (of_decide_eq_true (by kernel_rfl)) (by unfold Func.isWrapper; first | (rw [if_pos (by decide +kernel)]; kernel_rfl) | (rw [if_neg (by decide +kernel)]; exact ⟨rfl, rfl⟩))
    (fun os started H enc _ => lifted os started H enc)
theorem proved : Rows.ChartSumsSaid := over
end Go.Proofs.Ytalbdkihlcbhbaa.chartSums
namespace Go.Proofs.Ytalbdkihlcbhbaa
theorem chartSums_holds : Rows.ChartSumsSaid := chartSums.proved
end Go.Proofs.Ytalbdkihlcbhbaa
