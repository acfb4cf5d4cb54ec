/- Proved here: SchedRates: at any terms and rates that are no less no interest is less, of Linear, Interest and Bullet; at 0 all that is paid is the Principal. No condition. -/
import Derived.Test.YtgnhnffmojjncaaRatesW
import Derived.ProofKit
import Derived.OpenShut
import Derived.ShutString
import Derived.ChangeOld
import Derived.Below
namespace Go.Proofs.Ytgnhnffmojjncaa.Mn.schedRates
open Go.ChangeShapes Go.WideShapes Go.ChangeAt Go.RowKit
set_option linter.unusedSimpArgs false
theorem w_great (kd P : Int) (a : Option Addr) (len cap : Nat) (n mo : Int) (hal : Hid Alive) (HG : Hid (∀ w : World, Calls Try.prog 10 #[.agg #[.int .i64 kd, .int .i64 P, .slice a len cap, .int .i64 n]] w fun e w' => e = .returned (.bool true) ∧ Below w.heap.size w w')) (w : World) : Calls Try.prog 8 #[.agg #[.int .i64 kd, .int .i64 P, .slice a len cap, .int .i64 n], .int .u32 mo] w fun e w' => e = .returned (.bool true) ∧ Below w.heap.size w w' := by
  unfold Alive at hal
  have HT := hide (Tm.new w 24 kd P (.slice a len cap) n)
  have HB := hide (below1 w (.cells #[.int .i64 kd, .int .i64 P, .slice a len cap, .int .i64 n] 24))
  go_enter Try.func8, Try.ntmps8
  go_wp2_with fail
  refine (unhide hal _).mono ?_
  rintro e1 w1 ⟨rfl, hb⟩
  replace HT := hide ((unhide HT).keep hb)
  replace HB := hide (below_via (unhide HB) hb)
  clear hb
  have c0 := (unhide HT).c0
  have c1 := (unhide HT).c1
  have c2 := (unhide HT).c2
  have c3 := (unhide HT).c3
  go_wp2_with fail
  refine (unhide HG w1).mono ?_
  rintro e1 w2 ⟨rfl, hb⟩
  replace HT := hide ((unhide HT).keep hb)
  replace HB := hide (below_via (unhide HB) hb)
  clear hb HG c0 c1 c2 c3
  go_wp2_with fail
  go_ret
  exact ⟨rfl, unhide HB⟩
theorem w_err (kd P : Int) (a : Option Addr) (len cap : Nat) (n mo : Int) (rs : List Int) (e : Int) (he : (e != 0) = true) (hal : Hid Alive) (HG : Hid (∀ w : World, Calls Try.prog 10 #[.agg #[.int .i64 kd, .int .i64 P, .slice a len cap, .int .i64 n]] w fun e w' => e = .returned (.bool false) ∧ Below w.heap.size w w')) (w : World) (HR : Hid (Row w (.slice a len cap) rs)) (HBd : Hid (∀ W : World, Row W (.slice a len cap) rs → BuildA 11 W kd P (.slice a len cap) n [] e)) : Calls Try.prog 8 #[.agg #[.int .i64 kd, .int .i64 P, .slice a len cap, .int .i64 n], .int .u32 mo] w fun e w' => e = .returned (.bool true) ∧ Below w.heap.size w w' := by
  unfold BuildA at HBd
  unfold Alive at hal
  have HT := hide (Tm.new w 24 kd P (.slice a len cap) n)
  have HB := hide (below1 w (.cells #[.int .i64 kd, .int .i64 P, .slice a len cap, .int .i64 n] 24))
  go_enter Try.func8, Try.ntmps8
  go_wp2_with fail
  refine (unhide hal _).mono ?_
  rintro e1 w1 ⟨rfl, hb⟩
  replace HT := hide ((unhide HT).keep hb)
  replace HB := hide (below_via (unhide HB) hb)
  clear hb
  have c0 := (unhide HT).c0
  have c1 := (unhide HT).c1
  have c2 := (unhide HT).c2
  have c3 := (unhide HT).c3
  go_wp2_with fail
  refine (unhide HG w1).mono ?_
  rintro e1 w2 ⟨rfl, hb⟩
  replace HT := hide ((unhide HT).keep hb)
  replace HB := hide (below_via (unhide HB) hb)
  clear hb HG c0 c1 c2 c3
  have c0 := (unhide HT).c0
  have c1 := (unhide HT).c1
  have c2 := (unhide HT).c2
  have c3 := (unhide HT).c3
  go_wp2_with fail
  refine (unhide HBd w2 ((unhide HR).below (unhide HB) (Nat.le_refl _))).mono ?_
  rintro e1 w3 ⟨u, rfl, hu, hb⟩
  replace HT := hide ((unhide HT).keep hb)
  replace HB := hide (below_via (unhide HB) hb)
  have HU := hide hu
  clear hb hu HBd c0 c1 c2 c3
  obtain ⟨ua, uc, rfl⟩ := rowN_slice (unhide HU)
  go_wp2_with fail
  go_ret
  exact ⟨rfl, unhide HB⟩
theorem zero_row (w : World) (o : Obj) : Row ((w.alloc o).alloc (.cells #[.int .i64 0] 2)) (.slice (some ⟨w.heap.size + 1, 0, none⟩) 1 1) [0] := by
  refine Or.inr ⟨w.heap.size + 1, 0, 1, rfl, by decide, by unfold maxLen; decide, fun j hj => ?_, fun z hz => by simp at hz; subst hz; exact ⟨by omega, by omega⟩⟩
  obtain rfl : j = 0 := by simp at hj; exact hj
  have h := cell_new (w.alloc o) (.int .i64 0) 2
  rwa [show (w.alloc o).heap.size = w.heap.size + 1 from by simp] at h
set_option maxRecDepth 20000 in
set_option maxHeartbeats 8000000 in
theorem w_main (kd P mo : Int) (ab ao len cap n : Nat) (rs : List Int) (hT : TermsOk kd P rs n) (hl : rs.length = len) (ho : ∀ j, j < n → ¬ over qI (loanOf kd P rs n) j) (n1 : n ≤ 60) (o0 : 0 ≤ mo) (o1 : mo ≤ 4294967295) (l2 : List (List Int)) (E2 : Int) (hE : Hid (Res kd P (rs.map (more mo)) n l2 E2)) (hal : Hid Alive) (HG : Hid (∀ w : World, Calls Try.prog 10 #[.agg #[.int .i64 kd, .int .i64 P, .slice (some ⟨ab, ao, none⟩) len cap, .int .i64 n]] w fun e w' => e = .returned (.bool false) ∧ Below w.heap.size w w')) (w : World) (HR : Hid (Row w (.slice (some ⟨ab, ao, none⟩) len cap) rs)) (HBd : Hid (∀ W : World, Row W (.slice (some ⟨ab, ao, none⟩) len cap) rs → BuildA 11 W kd P (.slice (some ⟨ab, ao, none⟩) len cap) n (rowsUp (loanOf kd P rs n) n) 0)) : Calls Try.prog 8 #[.agg #[.int .i64 kd, .int .i64 P, .slice (some ⟨ab, ao, none⟩) len cap, .int .i64 n], .int .u32 mo] w fun e w' => e = .returned (.bool true) ∧ Below w.heap.size w w' := by
  have HTm := hide hT
  have HO := hide ho
  have n0 := hT.n0
  have p0 := hT.p0
  have p1 := hT.p1
  have HL := hide hl
  have HB0 := hide (fun (W : World) (rv : Value) (h : Row W rv [0]) => build_any (zero_res hT) h)
  have HB2 := hide (fun (W : World) (rv : Value) (h : Row W rv (rs.map (more mo))) => build_any (unhide hE) h)
  have HZs := hide (zero_sum hT)
  have HZT := hide (zero_terms hT).loan
  have HZo : Hid (∀ j, j < n → ¬ over qI (loanOf kd P [0] n) j) := hide (flat_fine qI_int2 (zero_terms hT).loan (fun i => zero_rt i))
  have l0 : 0 < len := by rw [← hl]; exact hT.r0
  have l1 : len ≤ n := by rw [← hl]; exact hT.r1
  clear hT ho hl
  unfold BuildA at HBd HB0 HB2
  unfold Alive at hal
  have HT := hide (Tm.new w 24 kd P (.slice (some ⟨ab, ao, none⟩) len cap) n)
  have HB := hide (below1 w (.cells #[.int .i64 kd, .int .i64 P, .slice (some ⟨ab, ao, none⟩) len cap, .int .i64 n] 24))
  go_enter Try.func8, Try.ntmps8
  go_wp2_with fail
  refine (unhide hal _).mono ?_
  rintro e1 w1 ⟨rfl, hb⟩
  replace HT := hide ((unhide HT).keep hb)
  replace HB := hide (below_via (unhide HB) hb)
  clear hb
  have c0 := (unhide HT).c0
  have c1 := (unhide HT).c1
  have c2 := (unhide HT).c2
  have c3 := (unhide HT).c3
  go_wp2_with fail
  refine (unhide HG w1).mono ?_
  rintro e1 w2 ⟨rfl, hb⟩
  replace HT := hide ((unhide HT).keep hb)
  replace HB := hide (below_via (unhide HB) hb)
  clear hb HG c0 c1 c2 c3
  have c0 := (unhide HT).c0
  have c1 := (unhide HT).c1
  have c2 := (unhide HT).c2
  have c3 := (unhide HT).c3
  go_wp2_with fail
  refine (unhide HBd w2 ((unhide HR).below (unhide HB) (Nat.le_refl _))).mono ?_
  rintro e1 w3 ⟨u, rfl, hu, hb⟩
  replace HT := hide ((unhide HT).keep hb)
  replace HB := hide (below_via (unhide HB) hb)
  have HU := hide hu
  clear hb hu HBd c0 c1 c2 c3
  obtain ⟨ub, uo, uc, rfl, hu1, hu2⟩ := (unhide HU).open (by rw [rowsUp_len]; exact n0)
  rw [rowsUp_len] at HU hu1 ⊢
  replace HR := hide ((unhide HR).below (unhide HB) (Nat.le_refl _))
  have c0 := (unhide HT).c0
  have c1 := (unhide HT).c1
  have c2 := (unhide HT).c2
  have c3 := (unhide HT).c3
  have hgl := (unhide HT).lt
  go_wp2_with fail
  have HZ := hide (zero_row w3 (.cells #[.int .i64 kd, .int .i64 P, .slice (some ⟨w3.heap.size + 1, 0, none⟩) 1 1, .int .i64 n] 24))
  replace HT := hide (((unhide HT).alloc (.cells #[.int .i64 kd, .int .i64 P, .slice (some ⟨w3.heap.size + 1, 0, none⟩) 1 1, .int .i64 n] 24)).alloc (.cells #[.int .i64 0] 2))
  replace HU := hide (((unhide HU).alloc (.cells #[.int .i64 kd, .int .i64 P, .slice (some ⟨w3.heap.size + 1, 0, none⟩) 1 1, .int .i64 n] 24)).alloc (.cells #[.int .i64 0] 2))
  replace HR := hide (((unhide HR).alloc (.cells #[.int .i64 kd, .int .i64 P, .slice (some ⟨w3.heap.size + 1, 0, none⟩) 1 1, .int .i64 n] 24)).alloc (.cells #[.int .i64 0] 2))
  replace HB := hide (((unhide HB).alloc (unhide HB).size (.cells #[.int .i64 kd, .int .i64 P, .slice (some ⟨w3.heap.size + 1, 0, none⟩) 1 1, .int .i64 n] 24)).alloc (by have := (unhide HB).size; simp; omega) (.cells #[.int .i64 0] 2))
  clear c0 c1 c2 c3 hgl
  generalize (w3.alloc (.cells #[.int .i64 kd, .int .i64 P, .slice (some ⟨w3.heap.size + 1, 0, none⟩) 1 1, .int .i64 n] 24)).alloc (.cells #[.int .i64 0] 2) = W4 at *
  generalize w3.heap.size = g3 at *
  refine (unhide HB0 W4 _ (unhide HZ)).mono ?_
  rintro e1 w5 ⟨u5, rfl, hu5, hb⟩
  obtain ⟨vb, vo, vc, rfl, hv1, hv2⟩ := hu5.open (by rw [rowsUp_len]; exact n0)
  rw [rowsUp_len] at hu5 hv1 ⊢
  replace HT := hide ((unhide HT).keep hb)
  replace HU := hide ((unhide HU).keep hb)
  replace HR := hide ((unhide HR).below hb (Nat.le_refl _))
  replace HB := hide (below_via (unhide HB) hb)
  have HV := hide hu5
  clear hu5 hb HZ HB0
  go_wp2_with fail
  go_loopw [10, 40] (fun sm i wr => ∃ (k : Nat) (s : Int), k ≤ n ∧ i = .int .i64 k ∧ sm = .int .i64 s ∧ 0 ≤ s ∧ s ≤ 10000000000000 * (k : Int) ∧ Hid (s = ((List.range k).map (paid qI (loanOf kd P [0] n))).sum) ∧ Hid (Tm wr w.heap.size 24 kd P (.slice (some ⟨ab, ao, none⟩) len cap) n) ∧ Hid (RowN 4 wr (.slice (some ⟨ub, uo, none⟩) n uc) (rowsUp (loanOf kd P rs n) n)) ∧ Hid (RowN 4 wr (.slice (some ⟨vb, vo, none⟩) n vc) (rowsUp (loanOf kd P [0] n) n)) ∧ Hid (Row wr (.slice (some ⟨ab, ao, none⟩) len cap) rs) ∧ Hid (Below w.heap.size w wr)) (fun _ i _ => n - (intOf i).toNat)
  case atStart => exact ⟨0, 0, by omega, rfl, rfl, by omega, by omega, hide rfl, HT, HU, HV, HR, HB⟩
  case round =>
    clear HT HU HR HB HV
    obtain ⟨k, s, hk, rfl, rfl, s0, s1, HS, HT, HU, HV, HR, HB⟩ := hrel
    by_cases hlt : k < n
    · obtain ⟨x, A, B, C, D, f1, f2, f3, f4, f5, f6, f7, f8, f9, g1, g2, g3', g4, g5, g6, g7, g8⟩ := row_facts (unhide HZT) (n := n) rfl hlt (unhide HZo)
      obtain ⟨e0, e1, e2, e3⟩ := row_cells (unhide HV) hlt f2
      have k1 : (k : Int) < (n : Int) := by omega
      have HS2 : Hid (s + B = ((List.range (k + 1)).map (paid qI (loanOf kd P [0] n))).sum) := hide (by rw [List.range_succ, List.map_append, List.sum_append, ← unhide HS]; simp; exact f8.symm)
      replace HT := hide ((unhide HT).alloc (.cells #[.int .i64 A, .int .i64 B, .int .i64 C, .int .i64 D] 43))
      replace HU := hide ((unhide HU).alloc (.cells #[.int .i64 A, .int .i64 B, .int .i64 C, .int .i64 D] 43))
      replace HV := hide ((unhide HV).alloc (.cells #[.int .i64 A, .int .i64 B, .int .i64 C, .int .i64 D] 43))
      replace HR := hide ((unhide HR).alloc (.cells #[.int .i64 A, .int .i64 B, .int .i64 C, .int .i64 D] 43))
      replace HB := hide ((unhide HB).alloc (unhide HB).size (.cells #[.int .i64 A, .int .i64 B, .int .i64 C, .int .i64 D] 43))
      clear f1 f2 f3 f4 f5 f6 f7 f8 f9 HS
      go_wp2_with fail
      go_roundw
      case rel => exact ⟨k + 1, s + B, by omega, by go_num, rfl, by omega, by omega, HS2, HT, HU, HV, HR, HB⟩
      case measure => simp [intOf]; omega
    · have ek : n = k := by omega
      subst ek
      have es : s = P := by rw [unhide HS]; exact unhide HZs
      have t1 : (s != P) = false := by rw [es]; simp
      obtain ⟨w6, hw6⟩ : ∃ x, x = wr := ⟨_, rfl⟩
      subst hw6
      have HTs := HT
      have c0 := (unhide HT).c0
      have c1 := (unhide HT).c1
      have c2 := (unhide HT).c2
      have c3 := (unhide HT).c3
      have hgl := (unhide HT).lt
      clear HV HZs HZT HZo HS es
      go_wp2_with fail
      have HOs : Hid (OSt w6 (w6.alloc (.cells #[.int .i64 kd, .int .i64 P, .slice none 0 0, .int .i64 n] 24)) w6.heap.size kd P n (.slice none 0 0) ((rs.take 0).map (more mo))) := hide ⟨GrowN.nil _ _ _ _ (below1 _ _), Nat.le_refl _, (fun c => by cases c), Tm.new w6 24 kd P (.slice none 0 0) n⟩
      have HTk : Hid (∀ j, j < len → (rs.take j).map (more mo) ++ [more mo (rs.getD j 0)] = (rs.take (j + 1)).map (more mo)) := hide (fun j hj => by
        have hj2 : j < rs.length := by rw [unhide HL]; exact hj
        rw [List.take_succ_eq_append_getElem hj2, List.map_append]
        simp [List.getD, hj2])
      have HAll : Hid (rs.take len = rs) := hide (by rw [← unhide HL]; exact List.take_length)
      have HBr : Hid (∀ j, j < len → bearB (rs.getD j 0) = true) := hide (fun j hj => by
        have hj2 : j < rs.length := by rw [unhide HL]; exact hj
        rw [show rs.getD j 0 = rs[j] by simp [List.getD, hj2]]
        exact (unhide HTm).rt _ (List.getElem_mem hj2))
      clear c0 c1 c2 c3 t1 s0 s1
      go_loopw [15, 62] (fun _ i wr => ∃ (k : Nat) (v : Value), k ≤ len ∧ i = .int .i64 k ∧ Hid (OSt w6 wr w6.heap.size kd P n v ((rs.take k).map (more mo)))) (fun _ i _ => len - (intOf i).toNat)
      case atStart => exact ⟨0, _, by omega, rfl, HOs⟩
      case round =>
        clear HOs
        obtain ⟨j, v, hj, rfl, HOs⟩ := hrel
        by_cases hjl : j < len
        · have cr := row_cell ((unhide HR).below (unhide HOs).grow.below (Nat.le_refl _)) (j := j) (by rw [unhide HL]; exact hjl)
          obtain ⟨r0, r1⟩ := bearB_bd (unhide HBr j hjl)
          have HT2 := hide (unhide HTk j hjl)
          have c2 := (unhide HOs).tm.c2
          have f2 := (unhide HOs).tm.fz 2
          have hgl2 := (unhide HOs).tm.lt
          have j1 : (j : Int) < (len : Int) := by omega
          have HLn : Hid ((ups ((rs.take j).map (more mo))).length ≤ 1000000) := hide (by rw [ups_len, List.length_map, List.length_take]; omega)
          have HMo : Hid (more mo (rs.getD j 0) = min (rs.getD j 0 + mo) 1000000000000) := hide rfl
          generalize rs.getD j 0 = r at *
          generalize (rs.take j).map (more mo) = zs at *
          by_cases hm : r + mo ≤ 1000000000000
          · have HZ : Hid (more mo r = r + mo) := hide ((unhide HMo).trans (Int.min_eq_left hm))
            go_wp2_with (at_builtin; refine pushN_law 2 22 1 8 (.int .i64 0) (by decide) (by decide) rfl Try.underlying22 info2 rfl _ _ rfl w6 _ _ (ups zs) [r + mo] #[.int .i64 (r + mo)] rfl (unhide HOs).grow rfl (by simp [Act.eval, Act.put]) (unhide HLn) ⟨rfl, fun y hy => by simp at hy; subst hy; exact ⟨by omega, by omega⟩⟩ ?_)
            intro v' w7 hG7 hg7 hs7
            have HO2 := hide ((unhide HOs).push hG7 hg7 hs7)
            have cz := hide ((hg7.block w6.heap.size (unhide HOs).tm.lt (fun c => (unhide HOs).sep c.symm)).trans (unhide HOs).tm)
            have c2' := (show Tm w7 w6.heap.size 24 kd P v n from unhide cz).c2
            have f2' := (show Tm w7 w6.heap.size 24 kd P v n from unhide cz).fz 2
            obtain ⟨va, vl, vcc, rfl⟩ : ∃ a l c, v' = .slice a l c := by obtain ⟨x, y, h⟩ := rowN_slice hG7.row; exact ⟨x, _, y, h⟩
            rw [← unhide HZ, unhide HT2] at HO2
            clear hG7 hg7 hs7 cz c2 f2
            go_wp2_with fail
            go_roundw
            case rel => exact ⟨j + 1, _, by omega, by go_num, HO2⟩
            case measure => simp [intOf]; omega
          · have hm' : 1000000000000 < r + mo := by omega
            have HZ : Hid (more mo r = 1000000000000) := hide ((unhide HMo).trans (Int.min_eq_right (by omega)))
            go_wp2_with (at_builtin; refine pushN_law 2 22 1 8 (.int .i64 0) (by decide) (by decide) rfl Try.underlying22 info2 rfl _ _ rfl w6 _ _ (ups zs) [1000000000000] #[.int .i64 1000000000000] rfl (unhide HOs).grow rfl (by simp [Act.eval, Act.put]) (unhide HLn) ⟨rfl, fun y hy => by simp at hy; subst hy; exact ⟨by omega, by omega⟩⟩ ?_)
            intro v' w7 hG7 hg7 hs7
            have HO2 := hide ((unhide HOs).push hG7 hg7 hs7)
            have cz := hide ((hg7.block w6.heap.size (unhide HOs).tm.lt (fun c => (unhide HOs).sep c.symm)).trans (unhide HOs).tm)
            have c2' := (show Tm w7 w6.heap.size 24 kd P v n from unhide cz).c2
            have f2' := (show Tm w7 w6.heap.size 24 kd P v n from unhide cz).fz 2
            obtain ⟨va, vl, vcc, rfl⟩ : ∃ a l c, v' = .slice a l c := by obtain ⟨x, y, h⟩ := rowN_slice hG7.row; exact ⟨x, _, y, h⟩
            rw [← unhide HZ, unhide HT2] at HO2
            clear hG7 hg7 hs7 cz c2 f2
            go_wp2_with fail
            go_roundw
            case rel => exact ⟨j + 1, _, by omega, by go_num, HO2⟩
            case measure => simp [intOf]; omega
        · have ej : j = len := by omega
          subst ej
          rw [unhide HAll] at HOs
          obtain ⟨va, vcc, rfl⟩ := rowN_slice (unhide HOs).grow.row
          have HRw := hide (row_of_ups (unhide HOs).grow.row)
          have hbb := (unhide HOs).grow.below
          replace HT := hide ((unhide HT).keep hbb)
          replace HU := hide ((unhide HU).keep hbb)
          replace HB := hide (below_via (unhide HB) hbb)
          have c0 := (unhide HOs).tm.c0
          have c1 := (unhide HOs).tm.c1
          have c2 := (unhide HOs).tm.c2
          have c3 := (unhide HOs).tm.c3
          clear hbb HR HTk HBr HAll HTs
          go_wp2_with fail
          refine (unhide HB2 _ _ (unhide HRw)).mono ?_
          rintro e1 w8 ⟨u8, rfl, hu8, hb⟩
          replace HT := hide ((unhide HT).keep hb)
          replace HU := hide ((unhide HU).keep hb)
          replace HB := hide (below_via (unhide HB) hb)
          have HX := hide hu8
          clear hu8 hb c0 c1 c2 c3 HOs HRw HB2
          obtain ⟨xa, xc, rfl⟩ := rowN_slice (unhide HX)
          have c0 := (unhide HT).c0
          have he : E2 = 0 ∨ E2 = 3 := by
            rcases (unhide hE).errs with h | h | h
            · exact Or.inl h
            · exfalso
              rcases unhide hE with ⟨_, _, h2⟩ | ⟨_, _, _, ⟨h2, _⟩ | ⟨h2, _⟩⟩
              · exact h2 n rfl (more_terms (unhide HTm) o0)
              · omega
              · omega
            · exact Or.inr h
          by_cases h3 : E2 = 3
          · subst h3
            go_wp2_with fail
            go_ret
            exact ⟨rfl, unhide HB⟩
          have h0 : E2 = 0 := by omega
          subst h0
          clear h3 he
          by_cases hk1 : kd = 1
          · subst hk1
            go_wp2_with fail
            go_ret
            exact ⟨rfl, unhide HB⟩
          have tk : (kd == 1) = false := by rw [beq_eq_false_iff_ne]; exact hk1
          obtain ⟨m2, em, hT2, el, ho2⟩ := (unhide hE).fine rfl
          obtain rfl : m2 = n := by omega
          subst el
          obtain ⟨xb, xo, xc', hxe, hx1, hx2⟩ := (unhide HX).open (by rw [rowsUp_len]; exact n0)
          cases hxe
          rw [rowsUp_len] at HX hx1 ⊢
          have HT2 := hide hT2
          have HO2 := hide ho2
          have HK := hide hk1
          clear em hT2 ho2 hE hk1
          go_wp2_with fail
          go_loopw [97] (fun i wr => ∃ k : Nat, k ≤ m2 ∧ i = .int .i64 k ∧ Hid (RowN 4 wr (.slice (some ⟨ub, uo, none⟩) m2 uc) (rowsUp (loanOf kd P rs m2) m2)) ∧ Hid (RowN 4 wr (.slice (some ⟨xb, xo, none⟩) m2 xc) (rowsUp (loanOf kd P (rs.map (more mo)) m2) m2)) ∧ Hid (Below w.heap.size w wr)) (fun i _ => m2 - (intOf i).toNat)
          case atStart => exact ⟨0, by omega, rfl, HU, HX, HB⟩
          case round =>
            clear HU HX HB
            obtain ⟨q, hq, rfl, HU, HX, HB⟩ := hrel
            by_cases hql : q < m2
            · obtain ⟨x, A, B, C, D, f1, f2, f3, f4, f5, f6, f7, f8, f9, g1, g2, g3', g4, g5, g6, g7, g8⟩ := row_facts (unhide HTm).loan (n := m2) rfl hql (unhide HO)
              obtain ⟨e0, _, _, _⟩ := row_cells (unhide HU) hql f2
              obtain ⟨x', A', B', C', D', z1, z2, z3, z4, z5, z6, z7, z8, z9, y1, y2, y3, y4, y5, y6, y7, y8⟩ := row_facts (unhide HT2).loan (n := m2) rfl hql (unhide HO2)
              obtain ⟨e1, _, _, _⟩ := row_cells (unhide HX) hql z2
              have hA := more_int (unhide HTm) o0 (unhide HK) (unhide HO) hql
              rw [f7, z7] at hA
              have t5 : ¬ A' < A := by omega
              have q1 : (q : Int) < (m2 : Int) := by omega
              clear f1 f2 f3 f4 f5 f6 f7 f8 f9 z1 z2 z3 z4 z5 z6 z7 z8 z9
              go_wp2_with fail
              go_quiet (fail)
              go_wp2_with fail
              go_roundw
              case rel => exact ⟨q + 1, by omega, by go_num, hide ((unhide HU).later (fun _ _ h => h)), hide ((unhide HX).later (fun _ _ h => h)), hide (below_drewN (unhide HB) _)⟩
              case measure => simp [intOf]; omega
            · have eq : q = m2 := by omega
              subst eq
              go_wp2_with fail
              go_ret
              exact ⟨rfl, unhide HB⟩
theorem walk (kd P : Int) (a : Option Addr) (len cap : Nat) (n : Int) (rs : List Int) (mo : Int) (w : World) (hR : Row w (.slice a len cap) rs) (wm : (Lit.int .u32 mo).wf = true) : Calls Try.prog 8 #[.agg #[.int .i64 kd, .int .i64 P, .slice a len cap, .int .i64 n], .int .u32 mo] w fun e w' => e = .returned (.bool true) ∧ Below w.heap.size w w' := by
  have hmo : 0 ≤ mo ∧ mo ≤ 4294967295 := by
    simp only [Lit.wf, IntKind.min, IntKind.max, IntKind.signed, IntKind.bits, Bool.and_eq_true, decide_eq_true_eq] at wm
    simp at wm
    omega
  have hl : rs.length = len := by
    obtain ⟨x, c, h⟩ := row_slice hR
    cases h; rfl
  have hg := great_any kd P n a len cap
  cases hq : grB len n with
  | true =>
    rw [hq] at hg
    exact w_great kd P a len cap n mo (hide alive_any) (hide hg) w
  | false =>
    rw [hq] at hg
    have hn := grB_no hq
    obtain ⟨l, e, hr⟩ := res_ex kd P rs n
    by_cases he : e = 0
    · obtain ⟨m, rfl, hT, rfl, ho⟩ := hr.fine he
      subst he
      have := hT.n1
      obtain ⟨ab, ao, rfl⟩ : ∃ ab ao, a = some ⟨ab, ao, none⟩ := by
        rcases hR with ⟨x, c, h, h2⟩ | ⟨b, off, c, h, _⟩
        · have := hT.r0; rw [h2] at this; exact absurd this (by decide)
        · cases h; exact ⟨b, off, rfl⟩
      obtain ⟨l2, E2, hE⟩ := res_ex kd P (rs.map (more mo)) m
      exact w_main kd P mo ab ao len cap m rs hT hl ho (by omega) hmo.1 hmo.2 l2 E2 (hide hE) (hide alive_any) (hide hg) w (hide hR) (hide (fun W h => build_any hr h))
    · have := hr.none he
      subst this
      exact w_err kd P a len cap n mo rs e (by rw [bne_iff_ne]; exact he) (hide alive_any) (hide hg) w (hide hR) (hide (fun W h => build_any hr h))
theorem own : ownKnob Try.prog.godebug = none := by kernel_rfl
theorem laidOut : laidOutB Try.prog = true := by kernel_rfl
set_option linter.unusedVariables false in
set_option maxRecDepth 100000 in
theorem lifted (os : Os) (started : os.Started) (H : Type) (enc : TypeId × Value → H) :
    ReturnsInHanded {} Try.checked os 8 .any (Rows.schedRatesSpec.pre6 enc Try.prog Try.f8 Rows.schedRatesRow.domain false) (Rows.schedRatesSpec.post enc Try.prog Try.f8 false true false false) := by
  refine returnsInHanded_of_change (C := Try.checked) own started (by kernel_rfl) Try.func8
    (ChangeSpec.witness6 (enc := enc) (C := Try.checked) false ⟨#[], #[.agg #[.int .i64 0, .int .i64 0, .slice none 0 0, .int .i64 0], .int .u32 0], []⟩ 8 (by kernel_rfl) (by kernel_rfl) (by kernel_rfl) (by kernel_rfl)) ?_
  intro W base args ds gs before hval0 hW hcnd _
  have hval : ∀ (j : Nat) t v, Try.f8.params[j]? = some t → args[j]? = some v → Value.okWide Try.prog W .any base t v := hval0
  have hW' := hW
  obtain ⟨p, q, hA0, hV, rfl, hfz, hnd⟩ := hW
  have hA : DataW.TrodAll enc Try.prog W 0 (fun _ => true) true Try.f8.params.toList args.toList ds p := hA0
  rw [Try.params8] at hA hval
  obtain ⟨v0, vs0, d0, ds0, p0, q0, hargs, rfl, rfl, h0, r0⟩ := trodAll_cons hA
  obtain ⟨v1, vs1, d1, ds1, p1, q1, rfl, rfl, rfl, h1, r1⟩ := trodAll_cons r0
  obtain ⟨rfl, rfl, rfl⟩ := trodAll_nil r1
  obtain rfl : args = #[v0, v1] := by cases args; simp_all
  obtain ⟨rfl, rfl⟩ := trodVars_none hV
  have k0 := h0
  have lt0 : ∀ x ∈ p0, x.block < W.heap.size := by obtain ⟨m, hm⟩ := k0; exact DataW.trod_lt m _ _ _ hm
  obtain ⟨kd0, pp0, a0, len0, cap0, n0, z0, rfl, _, _, _, w0, _, _⟩ := open_terms (E := 2) Try.underlying24 (by kernel_rfl) rfl rfl rfl rfl (by kernel_rfl) (by kernel_rfl) (by kernel_rfl) (by kernel_rfl) Try.underlying3 Try.underlying2 Try.underlying22 Try.underlying3 Try.underlying2 (by kernel_rfl) (hval 0 24 v0 rfl rfl) h0
  obtain ⟨a1, rfl, rfl, rfl, w1⟩ := open_int Try.underlying47 (hval 1 47 v1 rfl rfl) h1
  clear hA0 hval0
  refine (walk kd0 pp0 a0 len0 cap0 n0 z0 a1 W w0 w1).mono fun e W' ⟨he, bel⟩ => ?_
  subst he
  exact ⟨_, rfl, _, _, _, [], _, [], hW', trodAll_mk1 (shut_bool Try.underlying4 _), (trodAll_cons_mk (Below.trod laidOut (by kernel_rfl) (of_decide_eq_true (by kernel_rfl)) k0 bel lt0) (trodAll_cons_mk (shut_int Try.underlying47 w1) trodAll_mk0)), rfl, bel.frame _, fun h => by cases h⟩
theorem over : Rows.schedRatesRow.holds Try.pinned (OpenSpec.ofChange Rows.schedRatesSpec) :=
  OpenClaim.holds_of_wide 8 Try.f8 rfl rfl rfl rfl rfl rfl rfl ⟨rfl, rfl, rfl, rfl, rfl⟩ rfl rfl rfl rfl rfl (by kernel_rfl) Try.func8 (by kernel_rfl)
    (of_decide_eq_true (by kernel_rfl)) (by unfold Func.isWrapper; first | (rw [if_pos (by decide +kernel)]; kernel_rfl) | (rw [if_neg (by decide +kernel)]; exact ⟨rfl, rfl⟩))
    (fun os started H enc _ => lifted os started H enc)
/-- The statement. -/
theorem proved : Rows.SchedRatesSaid := over
#print axioms proved
end Go.Proofs.Ytgnhnffmojjncaa.Mn.schedRates
namespace Go.Proofs.Ytgnhnffmojjncaa
theorem schedRates_holds : Rows.SchedRatesSaid := Mn.schedRates.proved
end Go.Proofs.Ytgnhnffmojjncaa
