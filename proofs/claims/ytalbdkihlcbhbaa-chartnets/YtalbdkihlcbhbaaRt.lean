/- Sums by accounts, by the document. -/
import Derived.Test.YtalbdkihlcbhbaaNt
namespace Go.Proofs.Ytalbdkihlcbhbaa
open Go.RowKit
set_option linter.unusedVariables false
set_option linter.unusedSimpArgs false
set_option maxHeartbeats 2000000 in
theorem rnet_row (a : Option Addr) (cap : Nat) (l : List Li) (w : World) (hv : 0 < l.length → ∃ b off, a = some ⟨b, off, none⟩) (hm : l.length ≤ 1000) (hin : AllIn l) (hU : RowG 2 w (.slice a l.length cap) (l.map liL)) :
    Calls Try.prog 19 #[.slice a l.length cap] w fun e w' => ∃ u, e = .returned (.tuple #[u, .int .i64 (netE l)]) ∧ GrowG 48 2 w w' u ((netL l).map liL) := by
  have HU := hide hU
  have HY := hide (fun k => acc_take (l := l) (k := k))
  have HN := hide (fun k => acc_none (l := l) (k := k))
  have HA : Hid (l.take l.length = l) := hide (by rw [List.take_length])
  have HI := hide hin
  clear hU hin
  have hm' := hide hm
  have HE : Hid (netE l = if accAll l = true then (if okT l 7 = true then 0 else 3) else 2) := hide rfl
  have HL : Hid (netL l = if netE l = 0 then netT l 7 else []) := hide rfl
  generalize netE l = E at *
  generalize netL l = L at *
  generalize hl : l.length = len at *
  go_enter Try.func19, Try.ntmps19
  go_wp2_with fail
  go_loopw [15] (fun i wr => ∃ k : Nat, k ≤ len ∧ i = .int .i64 k ∧ Hid (Below w.heap.size w wr) ∧ Hid (accAll (l.take k) = true)) (fun i _ => len - (intOf i).toNat)
  case atStart => exact ⟨0, by omega, rfl, hide (Below.refl _ _), hide rfl⟩
  case round =>
    obtain ⟨k, hk, rfl, HW, HS⟩ := hrel
    by_cases hlt : k < len
    · obtain ⟨b, off, rfl⟩ := hv (by omega)
      have hU2 := (unhide HU).keep (unhide HW)
      obtain ⟨m0, m1⟩ := hU2.li (k := k) (by rw [hl]; exact hlt)
      have hy := hide (unhide HY k hlt (unhide HS))
      have hn := hide (unhide HN k hlt)
      have k1 : (k : Int) < (len : Int) := by omega
      clear HY HN hv
      generalize liA l k = x at *
      obtain ⟨p, q⟩ := x
      simp only [] at m0 m1
      have HX := hide (Blk.new wr #[.int .i64 p, .int .i64 q] 48)
      replace HW := hide (below_via (unhide HW) (below1 wr (.cells #[.int .i64 p, .int .i64 q] 48)))
      clear hU2 HX
      by_cases h1 : p < 1
      · have hB : accB p = false := by unfold accB; rw [decide_eq_false (by omega)]; rfl
        obtain rfl : E = 2 := (unhide HE).trans (if_neg (fun c => by rw [unhide hn hB] at c; cases c))
        obtain rfl : L = [] := (unhide HL).trans (if_neg (by decide))
        clear HE hB hn hy HL
        go_wp2_with fail
        go_ret2
        exact ⟨_, rfl, GrowG.nil _ _ _ _ (unhide HW)⟩
      by_cases h2 : 7 < p
      · have hB : accB p = false := by unfold accB; rw [decide_eq_false (p := p ≤ 7) (by omega), Bool.and_false]
        obtain rfl : E = 2 := (unhide HE).trans (if_neg (fun c => by rw [unhide hn hB] at c; cases c))
        obtain rfl : L = [] := (unhide HL).trans (if_neg (by decide))
        clear HE hB hn hy HL
        go_wp2_with fail
        go_ret2
        exact ⟨_, rfl, GrowG.nil _ _ _ _ (unhide HW)⟩
      have hB : accB p = true := by unfold accB; rw [decide_eq_true (by omega), decide_eq_true (by omega)]; rfl
      have hG := hide (unhide hy hB)
      clear hB hn hy
      go_wp2_with fail
      go_roundw
      case rel => exact ⟨k + 1, by omega, by go_num, HW, hG⟩
      case measure => simp [intOf]; omega
    · obtain rfl : k = len := by omega
      rw [unhide HA] at HS
      replace HE := hide ((unhide HE).trans (if_pos (unhide HS)))
      clear HS HY HN HA
      replace hv := hide hv
      have HV := hide ((unhide HU).keep (unhide HW))
      generalize hw1 : wr = w1 at *
      clear hw1
      have HLn : Hid (∀ j, j ≤ 7 → ((netT l j).map liL).length + 1 ≤ 1000000) := hide (fun j hj => by have := netT_len l j; rw [List.length_map]; omega)
      have HAl : Hid (∀ j k, (am ((j : Int) + 1) (l.take k)).length ≤ 1000) := hide (fun j k => by have := am_len ((j : Int) + 1) (l.take k); have := unhide hm'; rw [List.length_take] at *; omega)
      have HZ := hide (fun j => netT_zero (l := l) (j := j))
      have HP := hide (fun j => netT_put (l := l) (j := j))
      have HO := hide (fun j => okT_next (l := l) (j := j))
      have HQ := hide (fun j => okT_bad (l := l) (j := j))
      have hl' := hide hl
      have HTk : Hid (l.take k = l) := hide (by rw [← unhide hl', List.take_length])
      have HYs := hide (fun a i => am_yes (a := a) l (k := i))
      have HNs := hide (fun a i => am_no (a := a) l (k := i))
      have HIk := hide (fun i h => unhide HI (liA l i) (liA_mem (k := i) h))
      have HCe := hide (fun (i : Nat) (hi : i < l.length) (W : World) (V o c : Nat) (h : RowG 2 W (.slice (some ⟨V, o, none⟩) l.length c) (l.map liL)) => h.li hi)
      rw [hl] at HYs HNs HIk HCe
      go_wp2_with fail
      go_loopw [6, 7] (fun o i wr => ∃ j : Nat, j ≤ 7 ∧ i = .int .i64 ((j : Int) + 1) ∧ Hid (GrowG 48 2 w1 wr o ((netT l j).map liL)) ∧ Hid (okT l j = true)) (fun _ i _ => 8 - (intOf i).toNat)
      case atStart => exact ⟨0, by omega, rfl, hide (GrowG.nil _ _ _ _ (Below.refl _ _)), hide rfl⟩
      case round =>
        obtain ⟨j, hj, rfl, HG, HS⟩ := hrel
        by_cases hlt : j < 7
        · have j1 : (j : Int) + 1 ≤ 7 := by omega
          have j0 : 1 ≤ (j : Int) + 1 := by omega
          have hz := hide (unhide HZ j)
          have hp := hide (unhide HP j)
          have ho := hide (unhide HO j (unhide HS))
          have hq := hide (unhide HQ j hlt)
          have hln := hide (unhide HLn j hj)
          have hal := hide (unhide HAl j)
          clear HZ HP HO HQ HLn HAl HS
          have hsA : sumA l ((j : Int) + 1) = Mn.total (am ((j : Int) + 1) l) := rfl
          have jA : Hid ((j : Int) + 1 + 1 = ((j + 1 : Nat) : Int) + 1) := hide (by omega)
          generalize sumA l ((j : Int) + 1) = S at *
          generalize hA : (j : Int) + 1 = A at *
          replace hA := hide hA
          replace hsA := hide hsA
          have HV2 := hide ((unhide HV).keep (unhide HG).below)
          generalize hwj : wr = wj at *
          clear hwj
          go_wp2_with fail
          go_loopw [8, 34] (fun u x wr => ∃ i : Nat, i ≤ k ∧ x = .int .i64 i ∧ Hid (Mn.Grow 2 wj wr u (am A (l.take i)))) (fun _ x _ => k - (intOf x).toNat)
          case atStart => exact ⟨0, by omega, rfl, hide (Mn.Grow.nil _ _ _ (Below.refl _ _))⟩
          case round =>
            obtain ⟨i, hi, rfl, HT⟩ := hrel
            by_cases hli : i < k
            · obtain ⟨b, off, rfl⟩ := unhide hv (by omega)
              obtain ⟨m0, m1⟩ := unhide HCe i hli wr _ _ _ ((unhide HV2).keep (unhide HT).below)
              have hi2 := hide (unhide HIk i hli)
              have hy2 := hide (unhide HYs A i hli)
              have hn2 := hide (unhide HNs A i hli)
              have hl2 := hide (show (am A (l.take i)).length ≤ 1000000 from Nat.le_trans (unhide hal i) (by decide))
              have i1 : (i : Int) < (k : Int) := by omega
              generalize (liA l i).1 = p at *
              generalize (liA l i).2 = q at *
              replace HT := hide ((unhide HT).keep (below1 wr (.cells #[.int .i64 p, .int .i64 q] 48)))
              by_cases he : p = A
              · have ht := hide (unhide hy2 he)
                subst he
                clear hy2 hn2
                generalize am p (l.take i) = zs at *
                go_wp2_with (at_builtin; refine Mn.push_law 2 74 Try.underlying74 Mn.info2 rfl _ _ rfl wj _ _ zs _ (unhide HT) rfl (by simp [Act.eval, Act.put]) (unhide hl2) (unhide hi2) ?_)
                intro v' w2 hG2
                replace hG2 := hide hG2
                go_wp2_with fail
                go_roundw
                case rel => exact ⟨i + 1, by omega, by go_num, by rw [unhide ht]; exact hG2⟩
                case measure => simp [intOf]; omega
              · have ht := hide (unhide hn2 he)
                clear hy2 hn2
                go_wp2_with fail
                go_roundw
                case rel => exact ⟨i + 1, by omega, by go_num, by rw [unhide ht]; exact HT⟩
                case measure => simp [intOf]; omega
            · obtain rfl : i = k := by omega
              have hal2 := hide (unhide hal i)
              rw [unhide HTk] at HT hal2
              have HGb := hide ((unhide HG).keep (unhide HT).below)
              have HR := hide ((unhide HT).row (show (am A l).length ≤ maxLen from Nat.le_trans (unhide hal2) (by decide)))
              have HF := hide (unhide HT).fine
              clear HT HYs HNs HIk HCe hal HTk HG
              go_wp2_with fail
              refine (Mn.rsum_any _ _ _ (unhide HR) (unhide HF) (unhide hal2)).mono ?_
              rw [← unhide hsA]
              rintro e w5 ⟨rfl, hb⟩
              have HG := hide ((unhide HGb).keep hb)
              clear HR hsA hb HGb HF
              by_cases ht : turn S = 0
              · rw [okN_in ht, okE_in ht]
                have hS := hide (unhide ho ht)
                clear ho hq
                by_cases hz0 : S = 0
                · have hg := hide (unhide hz hz0)
                  clear hz hp
                  subst hz0
                  go_wp2_with fail
                  go_roundw
                  case rel => exact ⟨j + 1, by omega, by rw [← unhide jA], by rw [unhide hg]; exact HG, hS⟩
                  case measure => simp [intOf]; have := unhide hA; omega
                · have hg := hide (unhide hp hz0)
                  have hne : (S != 0) = true := by simpa using hz0
                  clear hz hp
                  replace HG := hide ((unhide HG).alloc (.cells #[.int .i64 A, .int .i64 S] 48))
                  have HFt := hide (fit_li [(A, S)])
                  rw [List.map_cons, List.map_nil] at HFt
                  unfold liL at HFt
                  have hgm : Hid ((netT l (j + 1)).map liL = (netT l j).map liL ++ [[Value.int .i64 A, .int .i64 S]]) := hide (by rw [unhide hg, List.map_append]; rfl)
                  have HC : Hid (∀ j u, [[Value.int .i64 A, .int .i64 S]].flatten[j]? = some u → (w5.alloc (.cells #[.int .i64 A, .int .i64 S] 48)).cell? ((⟨w5.heap.size, 0, none⟩ : Addr).add j) = some u) := hide (one_cells (Blk.new w5 #[.int .i64 A, .int .i64 S] 48))
                  clear hg
                  generalize (netT l j).map liL = zs at *
                  go_wp2_with (at_builtin; refine pushG_law (ad := ⟨w5.heap.size, 0, none⟩) (c := 1) (n := 1) 48 29 2 16 (.agg #[.int .i64 0, .int .i64 0]) (by decide) (by decide) rfl Try.underlying29 info48 rfl _ _ rfl w1 _ _ zs [[Value.int .i64 A, .int .i64 S]] (unhide HG) rfl rfl (by simp) (by simp [Act.eval, Act.put]) (unhide HC) (unhide HFt) (unhide hln) ?_)
                  intro v' w7 hG7 hgr
                  have HG7 := hide hG7
                  clear hgr hG7
                  go_wp2_with fail
                  go_roundw
                  case rel => exact ⟨j + 1, by omega, by rw [← unhide jA], by rw [unhide hgm]; exact HG7, hS⟩
                  case measure => simp [intOf]; have := unhide hA; omega
              · rw [okN_out ht, okE_out ht]
                obtain rfl : E = 3 := (unhide HE).trans (if_neg (fun c => by rw [unhide hq ht] at c; cases c))
                obtain rfl : L = [] := (unhide HL).trans (if_neg (by decide))
                have HW2 := hide (below_via (unhide HW) (unhide HG).below)
                clear HE HL ho hq hz hp HG
                go_wp2_with fail
                go_ret2
                exact ⟨_, rfl, GrowG.nil _ _ _ _ (unhide HW2)⟩
        · obtain rfl : j = 7 := by omega
          obtain rfl : E = 0 := (unhide HE).trans (if_pos (unhide HS))
          obtain rfl : L = netT l 7 := (unhide HL).trans (if_pos rfl)
          clear HE HL HS HLn HAl HZ HP HO HQ
          go_wp2_with fail
          go_ret2
          exact ⟨_, rfl, (unhide HG).base (unhide HW)⟩
theorem rnet_any (v : Value) (l : List Li) (w : World) (h : RowG 2 w v (l.map liL)) (hm : l.length ≤ 1000) (hin : AllIn l) : Calls Try.prog 19 #[v] w fun e w' => ∃ u, e = .returned (.tuple #[u, .int .i64 (netE l)]) ∧ GrowG 48 2 w w' u ((netL l).map liL) := by
  obtain ⟨a, cap, rfl⟩ := rowG_slice h
  rw [List.length_map] at h ⊢
  refine rnet_row a cap l w (fun h0 => ?_) hm hin h
  obtain ⟨b, off, cp, e, _, _⟩ := h.open (by rw [List.length_map]; omega)
  injection e with e1 _ _
  exact ⟨b, off, e1⟩
end Go.Proofs.Ytalbdkihlcbhbaa
