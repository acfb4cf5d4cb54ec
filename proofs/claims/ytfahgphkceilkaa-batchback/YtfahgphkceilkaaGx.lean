/- Get of the document. -/
import Derived.Test.YtfahgphkceilkaaGd
import Derived.Test.YtfahgphkceilkaaGe
namespace Go.Proofs.Ytfahgphkceilkaa
open Go.RowKit
set_option linter.unusedVariables false
set_option linter.unusedSimpArgs false
theorem loA_some {b off p cap : Nat} (h : p < cap) : loA 1 (some ⟨b, off, none⟩) p cap = some ⟨b, off + p, none⟩ := by
  unfold loA
  rw [if_neg (by omega)]
  simp [Addr.add]
set_option maxHeartbeats 8000000 in
theorem rget_sum (b off cap n c j4 m4 A B : Nat) (xs : List Nat) (w : World) (h : RowG 1 w (.slice (some ⟨b, off, none⟩) n cap) (bys xs)) (hx : Bytes xs) (hn : n = 15 + 9 * c) (hxl : xs.length = n) (hcap : n ≤ cap) (hc : c < 256) (hm : n ≤ 9223372036854775807) (h0 : xs.getD 0 0 = 76) (h1 : xs.getD 1 0 = 66) (h10 : xs.getD 10 0 = c)
    (hj : j4 = n - 4) (hm4 : n - j4 = m4) (hB : IntKind.u64.wrap (B : Int) = (B : Int))
    (HV : Hid (∀ W, RowG 1 W (.slice (some ⟨b, off, none⟩) n cap) (bys xs) → Calls Try.prog 34 #[.slice (loA 1 (some ⟨b, off, none⟩) j4 cap) m4 (cap - j4)] W fun e w' => e = .returned (.int .u64 (A : Int)) ∧ w' = W))
    (HM : Hid (∀ W, RowG 1 W (.slice (some ⟨b, off, none⟩) n cap) (bys xs) → Calls Try.prog 17 #[.slice (some ⟨b, off, none⟩) j4 cap] W fun e w' => e = .returned (.int .u32 (B : Int)) ∧ w' = W)) (hAB : ¬ A = B) :
    Calls Try.prog 19 #[.slice (some ⟨b, off, none⟩) n cap] w fun e w' => e = .returned (.tuple #[.agg #[.int .i64 0, .int .i64 0, .slice none 0 0], .int .i64 7]) ∧ Below w.heap.size w w' := by
  have HB1 := hide (below1 w (.cells #[.int .i64 0, .int .i64 0, .slice none 0 0] 24))
  have HX1 := hide (Blk.new w #[.int .i64 0, .int .i64 0, .slice none 0 0] 24)
  have HR1 := hide (h.alloc (.cells #[.int .i64 0, .int .i64 0, .slice none 0 0] 24))
  have m0 := (unhide HR1).by (k := 0) (by omega)
  have m1 := (unhide HR1).by (k := 1) (by omega)
  have m10 := (unhide HR1).by (k := 10) (by omega)
  rw [h0] at m0
  rw [h1] at m1
  rw [h10] at m10
  rw [Nat.add_zero] at m0
  clear h h0 h1 h10
  have e2 : IntKind.i64.wrap (c : Int) = (c : Int) := wrap_in' ⟨by omega, by omega⟩
  have e3 : IntKind.i64.wrap (9 * (c : Int)) = 9 * (c : Int) := wrap_in' ⟨by omega, by omega⟩
  have e4 : IntKind.i64.wrap (15 + 9 * (c : Int)) = 15 + 9 * (c : Int) := wrap_in' ⟨by omega, by omega⟩
  have e5 : ¬ (n : Int) < 15 + 9 * (c : Int) := by omega
  have e6 : ¬ 15 + 9 * (c : Int) < (n : Int) := by omega
  have e7 : IntKind.i64.wrap ((n : Int) - 4) = (j4 : Int) := by rw [wrap_in' ⟨by omega, by omega⟩]; omega
  have e8 : ¬ (n : Int) < 15 := by omega
  have q1 := hide (show j4 ≤ n by omega)
  have q2 := hide (show j4 ≤ cap by omega)
  replace hm4 := hide hm4
  replace hn := hide hn
  replace hxl := hide hxl
  replace hcap := hide hcap
  replace hj := hide hj
  replace hc := hide hc
  replace hB := hide hB
  replace hm := hide hm
  go_enter Try.func19, Try.ntmps19
  go_wp2_with fail
  generalize w.alloc (.cells #[.int .i64 0, .int .i64 0, .slice none 0 0] 24) = w1 at *
  refine rreg11 (unhide q1) (unhide q2) (unhide hm4) (unhide hB) (c := true) (by rw [bne_iff_ne]; omega) (fun W hW => unhide HV W ((unhide HR1).keep hW)) (fun W hW => unhide HM W ((unhide HR1).keep hW)) (fun s1 s2 W hW => ?_)
  have HX := hide ((unhide HX1).keep hW)
  have HB := hide (below_via (unhide HB1) hW)
  have HW := hide hW
  clear m0 m1 m10 HV HM e7 hW
  go_wp2_with (refine store_blk rfl 24 _ _ rfl (show Blk _ _ _ _ from unhide HX) rfl rfl size24 rfl rfl rfl ?_)
  intro w4 k4 kp
  have k6 := kp.bel (Nat.le_refl _) (unhide HB)
  clear kp HX HB
  go_wp2_with fail
  exact bodyPost_ret (v := .tuple #[.agg #[.int .i64 0, .int .i64 0, .slice none 0 0], .int .i64 7]) (res_ct (cs0 := #[.int .i64 0, .int .i64 0, .slice none 0 0]) rfl k4 row24 size24 rfl rfl rfl) rfl ⟨rfl, k6⟩
set_option maxHeartbeats 8000000 in
theorem rget_yes (b off cap n c j4 m4 A B : Nat) (xs : List Nat) (w : World) (h : RowG 1 w (.slice (some ⟨b, off, none⟩) n cap) (bys xs)) (hx : Bytes xs) (hn : n = 15 + 9 * c) (hxl : xs.length = n) (hcap : n ≤ cap) (hc : c < 256) (hm : n ≤ 9223372036854775807) (h0 : xs.getD 0 0 = 76) (h1 : xs.getD 1 0 = 66) (h10 : xs.getD 10 0 = c)
    (hj : j4 = n - 4) (hm4 : n - j4 = m4) (hB : IntKind.u64.wrap (B : Int) = (B : Int))
    (HV : Hid (∀ W, RowG 1 W (.slice (some ⟨b, off, none⟩) n cap) (bys xs) → Calls Try.prog 34 #[.slice (loA 1 (some ⟨b, off, none⟩) j4 cap) m4 (cap - j4)] W fun e w' => e = .returned (.int .u64 (A : Int)) ∧ w' = W))
    (HM : Hid (∀ W, RowG 1 W (.slice (some ⟨b, off, none⟩) n cap) (bys xs) → Calls Try.prog 17 #[.slice (some ⟨b, off, none⟩) j4 cap] W fun e w' => e = .returned (.int .u32 (B : Int)) ∧ w' = W)) (hAB : A = B) (S V : Nat) (hS64 : IntKind.i64.wrap (S : Int) = (S : Int)) (hV64 : IntKind.i64.wrap (V : Int) = (V : Int))
    (HS : Hid (∀ W, RowG 1 W (.slice (some ⟨b, off, none⟩) n cap) (bys xs) → Calls Try.prog 34 #[.slice (loA 1 (some ⟨b, off, none⟩) 2 cap) 4 (cap - 2)] W fun e w' => e = .returned (.int .u64 (S : Int)) ∧ w' = W))
    (HE : Hid (∀ W, RowG 1 W (.slice (some ⟨b, off, none⟩) n cap) (bys xs) → Calls Try.prog 34 #[.slice (loA 1 (some ⟨b, off, none⟩) 6 cap) 4 (cap - 6)] W fun e w' => e = .returned (.int .u64 (V : Int)) ∧ w' = W))
    (hC : chkB (S : Int) (V : Int) (linesB c (xs.drop 11)) = 0) :
    Calls Try.prog 19 #[.slice (some ⟨b, off, none⟩) n cap] w fun e w' => ∃ u, e = .returned (.tuple #[.agg #[.int .i64 (S : Int), .int .i64 (V : Int), u], .int .i64 0]) ∧ GrowG 60 2 w w' u ((linesB c (xs.drop 11)).map liL) := by
  have HB1 := hide (below1 w (.cells #[.int .i64 0, .int .i64 0, .slice none 0 0] 24))
  have HX1 := hide (Blk.new w #[.int .i64 0, .int .i64 0, .slice none 0 0] 24)
  have HR1 := hide (h.alloc (.cells #[.int .i64 0, .int .i64 0, .slice none 0 0] 24))
  have m0 := (unhide HR1).by (k := 0) (by omega)
  have m1 := (unhide HR1).by (k := 1) (by omega)
  have m10 := (unhide HR1).by (k := 10) (by omega)
  rw [h0] at m0
  rw [h1] at m1
  rw [h10] at m10
  rw [Nat.add_zero] at m0
  clear h h0 h1 h10
  have e2 : IntKind.i64.wrap (c : Int) = (c : Int) := wrap_in' ⟨by omega, by omega⟩
  have e3 : IntKind.i64.wrap (9 * (c : Int)) = 9 * (c : Int) := wrap_in' ⟨by omega, by omega⟩
  have e4 : IntKind.i64.wrap (15 + 9 * (c : Int)) = 15 + 9 * (c : Int) := wrap_in' ⟨by omega, by omega⟩
  have e5 : ¬ (n : Int) < 15 + 9 * (c : Int) := by omega
  have e6 : ¬ 15 + 9 * (c : Int) < (n : Int) := by omega
  have e7 : IntKind.i64.wrap ((n : Int) - 4) = (j4 : Int) := by rw [wrap_in' ⟨by omega, by omega⟩]; omega
  have e8 : ¬ (n : Int) < 15 := by omega
  have q1 := hide (show j4 ≤ n by omega)
  have q2 := hide (show j4 ≤ cap by omega)
  replace hm4 := hide hm4
  replace hn := hide hn
  replace hxl := hide hxl
  replace hcap := hide hcap
  replace hj := hide hj
  replace hc := hide hc
  replace hB := hide hB
  replace hm := hide hm
  go_enter Try.func19, Try.ntmps19
  go_wp2_with fail
  generalize w.alloc (.cells #[.int .i64 0, .int .i64 0, .slice none 0 0] 24) = w1 at *
  refine rreg11 (unhide q1) (unhide q2) (unhide hm4) (unhide hB) (c := false) (by rw [hAB]; simp) (fun W hW => unhide HV W ((unhide HR1).keep hW)) (fun W hW => unhide HM W ((unhide HR1).keep hW)) (fun s1 s2 W hW => ?_)
  have HX := hide ((unhide HX1).keep hW)
  have HB := hide (below_via (unhide HB1) hW)
  have HW := hide hW
  have HW0 := hide hW.size
  clear m0 m1 m10 HV HM e7 hW
  go_wp2_with fail
  refine rreg13 (by have := unhide hn; omega) (unhide hcap) hS64 hV64 (fun W' hW' => unhide HS W' ((unhide HR1).keep (below_via (unhide HW) hW'))) (fun W' hW' => unhide HE W' ((unhide HR1).keep (below_via (unhide HW) hW'))) (fun s1 s2 cb W2 hcb hU hW2 => ?_)
  replace HW := hide (below_via (unhide HW) hW2)
  have hcb2 := hide (Nat.le_trans (unhide HW0) hcb)
  have HU := hide hU
  have HG := hide (OwnG.nil 60 2 (cb + 1) W2)
  have hcl := hide (Nat.succ_le_of_lt hU.lt)
  clear hU hW2 hcb HS HE HX HB HW0
  go_wp2_with fail
  go_loopw [7] (fun i wr => ∃ (k : Nat) (o : Value), k ≤ c ∧ i = .int .i64 (k : Int) ∧ Hid (Blk wr cb #[.int .i64 (S : Int), .int .i64 (V : Int), o] 24) ∧ Hid (OwnG 60 2 (cb + 1) wr o ((linesB k (xs.drop 11)).map liL)) ∧ Hid (Below w1.heap.size w1 wr) ∧ Hid (cb + 1 ≤ wr.heap.size)) (fun i _ => c - (intOf i).toNat)
  case atStart => exact ⟨0, .slice none 0 0, by omega, rfl, HU, HG, HW, hcl⟩
  case round =>
    clear HU HG HW hcl
    obtain ⟨k, o, hk, rfl, HU, HG, HW, hcl⟩ := hrel
    by_cases hlt : k < c
    · have k1 : (k : Int) < (c : Int) := by omega
      have w9 : IntKind.i64.wrap (9 * (k : Int)) = 9 * (k : Int) := wrap_in' ⟨by have := unhide hc; omega, by have := unhide hc; omega⟩
      have w11 : IntKind.i64.wrap (11 + 9 * (k : Int)) = ((11 + 9 * k : Nat) : Int) := by rw [wrap_in' ⟨by have := unhide hc; omega, by have := unhide hc; omega⟩]; omega
      have w20 : IntKind.i64.wrap (20 + 9 * (k : Int)) = ((20 + 9 * k : Nat) : Int) := by rw [wrap_in' ⟨by have := unhide hc; omega, by have := unhide hc; omega⟩]; omega
      have hn' := unhide hn
      have hcap' := unhide hcap
      have hR := (unhide HR1).keep (unhide HW)
      have hlb := hide (lt_of_cell ((unhide HR1).by (k := 0) (by have := unhide hxl; omega)))
      have hpc := hR.by (k := 11 + 9 * k) (by have := unhide hxl; omega)
      have hsl := fun W => sl_mid (some ⟨b, off, none⟩) n cap (11 + 9 * k) (20 + 9 * k) (by omega) (by omega) W
      rw [loA_some (by omega), show 20 + 9 * k - (11 + 9 * k) = 9 by omega] at hsl
      have HVk := hide (fun (W : World) (hW : Below w1.heap.size w1 W) => by
        have r1 := rowB_mid ((unhide HR1).keep hW) (show 11 + 9 * k ≤ 20 + 9 * k by omega) (show 20 + 9 * k ≤ n by omega)
        rw [loA_some (show 11 + 9 * k < cap by omega), show 20 + 9 * k - (11 + 9 * k) = 9 by omega] at r1
        have r2 := rowB_lo r1 (show 1 ≤ 9 by decide)
        exact rval_any _ (((xs.drop (11 + 9 * k)).take 9).drop 1) W r2 (bytes_drop (bytes_take (bytes_drop hx _) _) _) (by rw [List.length_drop, List.length_take]; omega))
      have HLk := hide (lis_at xs k)
      have hp8 := hide (show IntKind.i64.wrap ((xs.getD (11 + 9 * k) 0 : Nat) : Int) = ((xs.getD (11 + 9 * k) 0 : Nat) : Int) by have := getD_lt hx (11 + 9 * k); exact wrap_in' ⟨by omega, by omega⟩)
      have hq := hide (show IntKind.i64.wrap ((valB (((xs.drop (11 + 9 * k)).take 9).drop 1) : Nat) : Int) = wrap64 ((valB (((xs.drop (11 + 9 * k)).take 9).drop 1) : Nat) : Int) from (wrap_eq _).symm)
      have hll := hide (show ((linesB k (xs.drop 11)).map liL).length + 1 ≤ 1000000 by rw [List.length_map, linesB_len]; have := unhide hc; omega)
      have hmap : Hid ((linesB (k + 1) (xs.drop 11)).map liL = (linesB k (xs.drop 11)).map liL ++ [liL (((xs.getD (11 + 9 * k) 0 : Nat) : Int), wrap64 ((valB (((xs.drop (11 + 9 * k)).take 9).drop 1) : Nat) : Int))]) := hide (by rw [unhide HLk, List.map_append]; rfl)
      clear HLk hn' hcap' hR
      generalize xs.getD (11 + 9 * k) 0 = p at *
      generalize valB (((xs.drop (11 + 9 * k)).take 9).drop 1) = A9 at *
      generalize wrap64 (A9 : Int) = q at *
      generalize 11 + 9 * k = p0 at *
      generalize 20 + 9 * k = p9 at *
      obtain ⟨xo, no, co, ho⟩ := (unhide HG).form
      replace ho := hide ho
      go_wp2_with fail
      refine rreg18 (w1 := w1) (unhide ho) hpc (unhide hlb) (unhide HW) (unhide hcb2) (Nat.lt_succ_self cb) (unhide hcl) (unhide hq) (unhide hp8) (unhide HU) (unhide HG) (unhide hll) (unhide HVk) (fun s1 s2 s3 s4 s5 s6 s7 s8 u W3 hW3 hl3 hU3 hG3 => ?_)
      rw [← unhide hmap] at hG3
      replace HU := hide hU3
      replace HG := hide hG3
      replace HW := hide hW3
      replace hcl := hide hl3
      clear hU3 hG3 hW3 hl3 hmap hll hq hp8 HVk hsl hpc hlb ho w9 w11 w20
      have wk1 : IntKind.i64.wrap ((k : Int) + 1) = (k : Int) + 1 := wrap_in' ⟨by have := unhide hc; omega, by have := unhide hc; omega⟩
      go_wp2_with fail
      go_roundw
      case rel => exact ⟨k + 1, u, by omega, by go_num, HU, HG, HW, hcl⟩
      case measure => simp [intOf]; omega
    · obtain rfl : k = c := by omega
      have HL := hide (show linesB k (xs.drop 11) = linesB k (xs.drop 11) from rfl)
      have HGg := hide ((unhide HG).grow (w := w) (by have := (unhide HB1).size; have := unhide hcb2; omega) (below_via (unhide HB1) (unhide HW)))
      have HX := hide ((unhide HX1).keep (unhide HW))
      have HN := hide ((unhide HG).ne (b := w.heap.size) (by have := (unhide HX1).lt; have := unhide hcb2; omega))
      have HB := hide (below_via (unhide HB1) (unhide HW))
      obtain ⟨xo, no, co, rfl⟩ := (unhide HG).form
      have HQ := hide (fun W h => rchkb_any (S : Int) (V : Int) (.slice xo no co) (linesB k (xs.drop 11)) W h)
      rw [hC] at HQ
      clear HG HW hcl HL hlt hx
      go_wp2_with (refine load_blk rfl 24 _ rfl (show Blk _ _ _ _ from unhide HU) rfl row24 size24 rfl ?_)
      refine (unhide HQ _ (unhide HGg).row).mono ?_
      rintro r W4 ⟨rfl, hb⟩
      replace HU := hide ((show Blk _ _ _ _ from unhide HU).keep hb)
      replace HX := hide ((show Blk _ _ _ _ from unhide HX).keep hb)
      replace HB := hide (below_via (unhide HB) hb)
      replace HGg := hide ((unhide HGg).keep hb)
      clear hb HQ
      go_wp2_with (first | refine load_blk rfl 24 _ rfl (show Blk _ _ _ _ from unhide HU) rfl row24 size24 rfl ?_ | refine store_blk rfl 24 _ _ rfl (show Blk _ _ _ _ from unhide HX) rfl rfl size24 rfl rfl rfl ?_)
      intro w5 k4 kp
      have k6 := kp.bel (Nat.le_refl _) (unhide HB)
      have k7 := growG_past (show GrowG _ _ _ _ _ _ from unhide HGg) kp (unhide HN) k6
      clear kp HX HB HU HGg HN
      go_wp2_with fail
      exact bodyPost_ret (v := .tuple #[.agg #[.int .i64 (S : Int), .int .i64 (V : Int), .slice xo no co], .int .i64 0]) (res_ct (cs0 := #[.int .i64 (S : Int), .int .i64 (V : Int), .slice xo no co]) rfl k4 row24 size24 rfl rfl rfl) rfl ⟨_, rfl, k7⟩
set_option maxHeartbeats 8000000 in
theorem rget_no (b off cap n c j4 m4 A B : Nat) (xs : List Nat) (w : World) (h : RowG 1 w (.slice (some ⟨b, off, none⟩) n cap) (bys xs)) (hx : Bytes xs) (hn : n = 15 + 9 * c) (hxl : xs.length = n) (hcap : n ≤ cap) (hc : c < 256) (hm : n ≤ 9223372036854775807) (h0 : xs.getD 0 0 = 76) (h1 : xs.getD 1 0 = 66) (h10 : xs.getD 10 0 = c)
    (hj : j4 = n - 4) (hm4 : n - j4 = m4) (hB : IntKind.u64.wrap (B : Int) = (B : Int))
    (HV : Hid (∀ W, RowG 1 W (.slice (some ⟨b, off, none⟩) n cap) (bys xs) → Calls Try.prog 34 #[.slice (loA 1 (some ⟨b, off, none⟩) j4 cap) m4 (cap - j4)] W fun e w' => e = .returned (.int .u64 (A : Int)) ∧ w' = W))
    (HM : Hid (∀ W, RowG 1 W (.slice (some ⟨b, off, none⟩) n cap) (bys xs) → Calls Try.prog 17 #[.slice (some ⟨b, off, none⟩) j4 cap] W fun e w' => e = .returned (.int .u32 (B : Int)) ∧ w' = W)) (hAB : A = B) (S V : Nat) (hS64 : IntKind.i64.wrap (S : Int) = (S : Int)) (hV64 : IntKind.i64.wrap (V : Int) = (V : Int))
    (HS : Hid (∀ W, RowG 1 W (.slice (some ⟨b, off, none⟩) n cap) (bys xs) → Calls Try.prog 34 #[.slice (loA 1 (some ⟨b, off, none⟩) 2 cap) 4 (cap - 2)] W fun e w' => e = .returned (.int .u64 (S : Int)) ∧ w' = W))
    (HE : Hid (∀ W, RowG 1 W (.slice (some ⟨b, off, none⟩) n cap) (bys xs) → Calls Try.prog 34 #[.slice (loA 1 (some ⟨b, off, none⟩) 6 cap) 4 (cap - 6)] W fun e w' => e = .returned (.int .u64 (V : Int)) ∧ w' = W))
    (hC : ¬ chkB (S : Int) (V : Int) (linesB c (xs.drop 11)) = 0) :
    Calls Try.prog 19 #[.slice (some ⟨b, off, none⟩) n cap] w fun e w' => e = .returned (.tuple #[.agg #[.int .i64 0, .int .i64 0, .slice none 0 0], .int .i64 6]) ∧ Below w.heap.size w w' := by
  have HB1 := hide (below1 w (.cells #[.int .i64 0, .int .i64 0, .slice none 0 0] 24))
  have HX1 := hide (Blk.new w #[.int .i64 0, .int .i64 0, .slice none 0 0] 24)
  have HR1 := hide (h.alloc (.cells #[.int .i64 0, .int .i64 0, .slice none 0 0] 24))
  have m0 := (unhide HR1).by (k := 0) (by omega)
  have m1 := (unhide HR1).by (k := 1) (by omega)
  have m10 := (unhide HR1).by (k := 10) (by omega)
  rw [h0] at m0
  rw [h1] at m1
  rw [h10] at m10
  rw [Nat.add_zero] at m0
  clear h h0 h1 h10
  have e2 : IntKind.i64.wrap (c : Int) = (c : Int) := wrap_in' ⟨by omega, by omega⟩
  have e3 : IntKind.i64.wrap (9 * (c : Int)) = 9 * (c : Int) := wrap_in' ⟨by omega, by omega⟩
  have e4 : IntKind.i64.wrap (15 + 9 * (c : Int)) = 15 + 9 * (c : Int) := wrap_in' ⟨by omega, by omega⟩
  have e5 : ¬ (n : Int) < 15 + 9 * (c : Int) := by omega
  have e6 : ¬ 15 + 9 * (c : Int) < (n : Int) := by omega
  have e7 : IntKind.i64.wrap ((n : Int) - 4) = (j4 : Int) := by rw [wrap_in' ⟨by omega, by omega⟩]; omega
  have e8 : ¬ (n : Int) < 15 := by omega
  have q1 := hide (show j4 ≤ n by omega)
  have q2 := hide (show j4 ≤ cap by omega)
  replace hm4 := hide hm4
  replace hn := hide hn
  replace hxl := hide hxl
  replace hcap := hide hcap
  replace hj := hide hj
  replace hc := hide hc
  replace hB := hide hB
  replace hm := hide hm
  go_enter Try.func19, Try.ntmps19
  go_wp2_with fail
  generalize w.alloc (.cells #[.int .i64 0, .int .i64 0, .slice none 0 0] 24) = w1 at *
  refine rreg11 (unhide q1) (unhide q2) (unhide hm4) (unhide hB) (c := false) (by rw [hAB]; simp) (fun W hW => unhide HV W ((unhide HR1).keep hW)) (fun W hW => unhide HM W ((unhide HR1).keep hW)) (fun s1 s2 W hW => ?_)
  have HX := hide ((unhide HX1).keep hW)
  have HB := hide (below_via (unhide HB1) hW)
  have HW := hide hW
  have HW0 := hide hW.size
  clear m0 m1 m10 HV HM e7 hW
  go_wp2_with fail
  refine rreg13 (by have := unhide hn; omega) (unhide hcap) hS64 hV64 (fun W' hW' => unhide HS W' ((unhide HR1).keep (below_via (unhide HW) hW'))) (fun W' hW' => unhide HE W' ((unhide HR1).keep (below_via (unhide HW) hW'))) (fun s1 s2 cb W2 hcb hU hW2 => ?_)
  replace HW := hide (below_via (unhide HW) hW2)
  have hcb2 := hide (Nat.le_trans (unhide HW0) hcb)
  have HU := hide hU
  have HG := hide (OwnG.nil 60 2 (cb + 1) W2)
  have hcl := hide (Nat.succ_le_of_lt hU.lt)
  clear hU hW2 hcb HS HE HX HB HW0
  go_wp2_with fail
  go_loopw [7] (fun i wr => ∃ (k : Nat) (o : Value), k ≤ c ∧ i = .int .i64 (k : Int) ∧ Hid (Blk wr cb #[.int .i64 (S : Int), .int .i64 (V : Int), o] 24) ∧ Hid (OwnG 60 2 (cb + 1) wr o ((linesB k (xs.drop 11)).map liL)) ∧ Hid (Below w1.heap.size w1 wr) ∧ Hid (cb + 1 ≤ wr.heap.size)) (fun i _ => c - (intOf i).toNat)
  case atStart => exact ⟨0, .slice none 0 0, by omega, rfl, HU, HG, HW, hcl⟩
  case round =>
    clear HU HG HW hcl
    obtain ⟨k, o, hk, rfl, HU, HG, HW, hcl⟩ := hrel
    by_cases hlt : k < c
    · have k1 : (k : Int) < (c : Int) := by omega
      have w9 : IntKind.i64.wrap (9 * (k : Int)) = 9 * (k : Int) := wrap_in' ⟨by have := unhide hc; omega, by have := unhide hc; omega⟩
      have w11 : IntKind.i64.wrap (11 + 9 * (k : Int)) = ((11 + 9 * k : Nat) : Int) := by rw [wrap_in' ⟨by have := unhide hc; omega, by have := unhide hc; omega⟩]; omega
      have w20 : IntKind.i64.wrap (20 + 9 * (k : Int)) = ((20 + 9 * k : Nat) : Int) := by rw [wrap_in' ⟨by have := unhide hc; omega, by have := unhide hc; omega⟩]; omega
      have hn' := unhide hn
      have hcap' := unhide hcap
      have hR := (unhide HR1).keep (unhide HW)
      have hlb := hide (lt_of_cell ((unhide HR1).by (k := 0) (by have := unhide hxl; omega)))
      have hpc := hR.by (k := 11 + 9 * k) (by have := unhide hxl; omega)
      have hsl := fun W => sl_mid (some ⟨b, off, none⟩) n cap (11 + 9 * k) (20 + 9 * k) (by omega) (by omega) W
      rw [loA_some (by omega), show 20 + 9 * k - (11 + 9 * k) = 9 by omega] at hsl
      have HVk := hide (fun (W : World) (hW : Below w1.heap.size w1 W) => by
        have r1 := rowB_mid ((unhide HR1).keep hW) (show 11 + 9 * k ≤ 20 + 9 * k by omega) (show 20 + 9 * k ≤ n by omega)
        rw [loA_some (show 11 + 9 * k < cap by omega), show 20 + 9 * k - (11 + 9 * k) = 9 by omega] at r1
        have r2 := rowB_lo r1 (show 1 ≤ 9 by decide)
        exact rval_any _ (((xs.drop (11 + 9 * k)).take 9).drop 1) W r2 (bytes_drop (bytes_take (bytes_drop hx _) _) _) (by rw [List.length_drop, List.length_take]; omega))
      have HLk := hide (lis_at xs k)
      have hp8 := hide (show IntKind.i64.wrap ((xs.getD (11 + 9 * k) 0 : Nat) : Int) = ((xs.getD (11 + 9 * k) 0 : Nat) : Int) by have := getD_lt hx (11 + 9 * k); exact wrap_in' ⟨by omega, by omega⟩)
      have hq := hide (show IntKind.i64.wrap ((valB (((xs.drop (11 + 9 * k)).take 9).drop 1) : Nat) : Int) = wrap64 ((valB (((xs.drop (11 + 9 * k)).take 9).drop 1) : Nat) : Int) from (wrap_eq _).symm)
      have hll := hide (show ((linesB k (xs.drop 11)).map liL).length + 1 ≤ 1000000 by rw [List.length_map, linesB_len]; have := unhide hc; omega)
      have hmap : Hid ((linesB (k + 1) (xs.drop 11)).map liL = (linesB k (xs.drop 11)).map liL ++ [liL (((xs.getD (11 + 9 * k) 0 : Nat) : Int), wrap64 ((valB (((xs.drop (11 + 9 * k)).take 9).drop 1) : Nat) : Int))]) := hide (by rw [unhide HLk, List.map_append]; rfl)
      clear HLk hn' hcap' hR
      generalize xs.getD (11 + 9 * k) 0 = p at *
      generalize valB (((xs.drop (11 + 9 * k)).take 9).drop 1) = A9 at *
      generalize wrap64 (A9 : Int) = q at *
      generalize 11 + 9 * k = p0 at *
      generalize 20 + 9 * k = p9 at *
      obtain ⟨xo, no, co, ho⟩ := (unhide HG).form
      replace ho := hide ho
      go_wp2_with fail
      refine rreg18 (w1 := w1) (unhide ho) hpc (unhide hlb) (unhide HW) (unhide hcb2) (Nat.lt_succ_self cb) (unhide hcl) (unhide hq) (unhide hp8) (unhide HU) (unhide HG) (unhide hll) (unhide HVk) (fun s1 s2 s3 s4 s5 s6 s7 s8 u W3 hW3 hl3 hU3 hG3 => ?_)
      rw [← unhide hmap] at hG3
      replace HU := hide hU3
      replace HG := hide hG3
      replace HW := hide hW3
      replace hcl := hide hl3
      clear hU3 hG3 hW3 hl3 hmap hll hq hp8 HVk hsl hpc hlb ho w9 w11 w20
      have wk1 : IntKind.i64.wrap ((k : Int) + 1) = (k : Int) + 1 := wrap_in' ⟨by have := unhide hc; omega, by have := unhide hc; omega⟩
      go_wp2_with fail
      go_roundw
      case rel => exact ⟨k + 1, u, by omega, by go_num, HU, HG, HW, hcl⟩
      case measure => simp [intOf]; omega
    · obtain rfl : k = c := by omega
      have HL := hide (show linesB k (xs.drop 11) = linesB k (xs.drop 11) from rfl)
      have HGg := hide ((unhide HG).grow (w := w) (by have := (unhide HB1).size; have := unhide hcb2; omega) (below_via (unhide HB1) (unhide HW)))
      have HX := hide ((unhide HX1).keep (unhide HW))
      have HN := hide ((unhide HG).ne (b := w.heap.size) (by have := (unhide HX1).lt; have := unhide hcb2; omega))
      have HB := hide (below_via (unhide HB1) (unhide HW))
      obtain ⟨xo, no, co, rfl⟩ := (unhide HG).form
      have HQ := hide (fun W h => rchkb_any (S : Int) (V : Int) (.slice xo no co) (linesB k (xs.drop 11)) W h)
      generalize chkB (S : Int) (V : Int) (linesB k (xs.drop 11)) = C at *
      clear HG HW hcl HL hlt hx
      go_wp2_with (refine load_blk rfl 24 _ rfl (show Blk _ _ _ _ from unhide HU) rfl row24 size24 rfl ?_)
      refine (unhide HQ _ (unhide HGg).row).mono ?_
      rintro r W4 ⟨rfl, hb⟩
      replace HU := hide ((show Blk _ _ _ _ from unhide HU).keep hb)
      replace HX := hide ((show Blk _ _ _ _ from unhide HX).keep hb)
      replace HB := hide (below_via (unhide HB) hb)
      replace HGg := hide ((unhide HGg).keep hb)
      clear hb HQ
      clear HGg HU HN
      go_wp2_with (refine store_blk rfl 24 _ _ rfl (show Blk _ _ _ _ from unhide HX) rfl rfl size24 rfl rfl rfl ?_)
      intro w5 k4 kp
      have k6 := kp.bel (Nat.le_refl _) (unhide HB)
      clear kp HX HB
      go_wp2_with fail
      exact bodyPost_ret (v := .tuple #[.agg #[.int .i64 0, .int .i64 0, .slice none 0 0], .int .i64 6]) (res_ct (cs0 := #[.int .i64 0, .int .i64 0, .slice none 0 0]) rfl k4 row24 size24 rfl rfl rfl) rfl ⟨rfl, k6⟩
theorem form_short {xs : List Nat} (h : xs.length < 15) : formE xs = 14 := if_pos h
theorem form_first {xs : List Nat} (h : ¬ xs.length < 15) (h2 : ¬ (xs.getD 0 0 = 76 ∧ xs.getD 1 0 = 66)) : formE xs = 6 := by unfold formE; rw [if_neg h, if_pos h2]
theorem form_less {xs : List Nat} (h : ¬ xs.length < 15) (h2 : xs.getD 0 0 = 76 ∧ xs.getD 1 0 = 66) (h3 : xs.length < 15 + 9 * xs.getD 10 0) : formE xs = 14 := by unfold formE; rw [if_neg h, if_neg (fun q => q h2), if_pos h3]
theorem form_more {xs : List Nat} (h : ¬ xs.length < 15) (h2 : xs.getD 0 0 = 76 ∧ xs.getD 1 0 = 66) (h3 : ¬ xs.length < 15 + 9 * xs.getD 10 0) (h4 : 15 + 9 * xs.getD 10 0 < xs.length) : formE xs = 6 := by unfold formE; rw [if_neg h, if_neg (fun q => q h2), if_neg h3, if_pos h4]
theorem form_sum {xs : List Nat} (h : ¬ xs.length < 15) (h2 : xs.getD 0 0 = 76 ∧ xs.getD 1 0 = 66) (h3 : ¬ xs.length < 15 + 9 * xs.getD 10 0) (h4 : ¬ 15 + 9 * xs.getD 10 0 < xs.length) : formE xs = if valB (xs.drop (xs.length - 4)) = crcSum (xs.take (xs.length - 4)) then 0 else 7 := by unfold formE; rw [if_neg h, if_neg (fun q => q h2), if_neg h3, if_neg h4]
theorem rget_any (v : Value) (xs : List Nat) (w : World) (h : RowG 1 w v (bys xs)) (hb : Bytes xs) : Calls Try.prog 19 #[v] w fun e w' => ∃ u, e = .returned (.tuple #[.agg #[.int .i64 (getS xs), .int .i64 (getV xs), u], .int .i64 (getE xs)]) ∧ GrowG 60 2 w w' u ((getL xs).map liL) := by
  have bad : ∀ (E : Int), formE xs = E → ¬ E = 0 → Calls Try.prog 19 #[v] w (fun e w' => e = .returned (.tuple #[.agg #[.int .i64 0, .int .i64 0, .slice none 0 0], .int .i64 E]) ∧ Below w.heap.size w w') → Calls Try.prog 19 #[v] w fun e w' => ∃ u, e = .returned (.tuple #[.agg #[.int .i64 (getS xs), .int .i64 (getV xs), u], .int .i64 (getE xs)]) ∧ GrowG 60 2 w w' u ((getL xs).map liL) := fun E hE h0 hc => by
    obtain ⟨a0, a1, a2, a3⟩ := get_form (xs := xs) (by rw [hE]; exact h0)
    rw [a0, a1, a2, a3, hE]
    exact hc.mono fun e w' ⟨q1, q2⟩ => ⟨_, q1, GrowG.nil _ _ _ _ q2⟩
  by_cases h1 : xs.length < 15
  · obtain ⟨a, cap, rfl⟩ := rowG_slice h
    rw [bys_len] at h bad ⊢
    exact bad 14 (form_short h1) (by decide) (rget_short a xs.length cap w h1)
  rcases rowB_cases h with ⟨_, _, rfl, rfl, _⟩ | ⟨b, off, cap, rfl, h0, hcap, hm, hx⟩
  · exact absurd (by decide) h1
  have hcm : xs.length ≤ 9223372036854775807 := by have : maxLen = 2 ^ 63 - 1 := rfl; omega
  have m0 := hx 0 h0
  have m1 := hx 1 (by omega)
  have m10 := hx 10 (by omega)
  rw [Nat.add_zero] at m0
  have g10 := getD_lt hb 10
  by_cases h2 : xs.getD 0 0 = 76
  case neg => exact bad 6 (form_first h1 (fun q => h2 q.1)) (by decide) (rget_first b off cap xs.length w _ _ _ m0 m1 m10 (by omega) g10 hcm h2)
  by_cases h3 : xs.getD 1 0 = 66
  case neg => exact bad 6 (form_first h1 (fun q => h3 q.2)) (by decide) (rget_second b off cap xs.length w _ _ _ m0 m1 m10 (by omega) g10 hcm h2 h3)
  by_cases h4 : xs.length < 15 + 9 * xs.getD 10 0
  · exact bad 14 (form_less h1 ⟨h2, h3⟩ h4) (by decide) (rget_less b off cap xs.length w _ _ _ m0 m1 m10 (by omega) g10 hcm h2 h3 h4)
  by_cases h5 : 15 + 9 * xs.getD 10 0 < xs.length
  · exact bad 6 (form_more h1 ⟨h2, h3⟩ h4 h5) (by decide) (rget_more b off cap xs.length w _ _ _ m0 m1 m10 (by omega) g10 hcm h2 h3 h5)
  have hF := form_sum h1 ⟨h2, h3⟩ h4 h5
  have hn : xs.length = 15 + 9 * xs.getD 10 0 := by omega
  have hBu : IntKind.u64.wrap ((crcSum (xs.take (xs.length - 4)) : Nat) : Int) = ((crcSum (xs.take (xs.length - 4)) : Nat) : Int) := by
    have := crcSum_lt (bytes_take hb (xs.length - 4))
    rw [IntKind.wrap_u64]
    omega
  have HV := hide (fun (W : World) (hW : RowG 1 W (.slice (some ⟨b, off, none⟩) xs.length cap) (bys xs)) => rval_any _ (xs.drop (xs.length - 4)) W (rowB_lo hW (show xs.length - 4 ≤ xs.length by omega)) (bytes_drop hb _) (by rw [List.length_drop]; omega))
  have HM := hide (fun (W : World) (hW : RowG 1 W (.slice (some ⟨b, off, none⟩) xs.length cap) (bys xs)) => rsum_any _ (xs.take (xs.length - 4)) W (rowB_hi hW (show xs.length - 4 ≤ xs.length by omega)) (bytes_take hb _))
  by_cases hAB : valB (xs.drop (xs.length - 4)) = crcSum (xs.take (xs.length - 4))
  case neg =>
    rw [if_neg hAB] at hF
    exact bad 7 hF (by decide) (rget_sum b off cap xs.length (xs.getD 10 0) (xs.length - 4) (xs.length - (xs.length - 4)) _ _ xs w h hb hn rfl hcap g10 hcm h2 h3 rfl rfl rfl hBu HV HM hAB)
  rw [if_pos hAB] at hF
  have nw : ∀ k, IntKind.i64.wrap ((valB ((xs.drop k).take 4) : Nat) : Int) = ((valB ((xs.drop k).take 4) : Nat) : Int) := fun k => by rw [← wrap_eq]; exact num_at xs k hb
  have HS := hide (fun (W : World) (hW : RowG 1 W (.slice (some ⟨b, off, none⟩) xs.length cap) (bys xs)) => rval_any _ ((xs.drop 2).take 4) W (rowB_mid hW (show 2 ≤ 6 by decide) (by omega)) (bytes_take (bytes_drop hb _) _) (by rw [List.length_take]; omega))
  have HE := hide (fun (W : World) (hW : RowG 1 W (.slice (some ⟨b, off, none⟩) xs.length cap) (bys xs)) => rval_any _ ((xs.drop 6).take 4) W (rowB_mid hW (show 6 ≤ 10 by decide) (by omega)) (bytes_take (bytes_drop hb _) _) (by rw [List.length_take]; omega))
  by_cases hC : chkB (seqN xs) (evN xs) (lisN xs) = 0
  · obtain ⟨a0, a1, a2, a3⟩ := get_yes hF hC
    rw [a0, a1, a2, a3]
    exact rget_yes b off cap xs.length (xs.getD 10 0) (xs.length - 4) (xs.length - (xs.length - 4)) _ _ xs w h hb hn rfl hcap g10 hcm h2 h3 rfl rfl rfl hBu HV HM hAB _ _ (nw 2) (nw 6) HS HE hC
  · obtain ⟨a0, a1, a2, a3⟩ := get_chk hF hC
    rw [a0, a1, a2, a3]
    exact (rget_no b off cap xs.length (xs.getD 10 0) (xs.length - 4) (xs.length - (xs.length - 4)) _ _ xs w h hb hn rfl hcap g10 hcm h2 h3 rfl rfl rfl hBu HV HM hAB _ _ (nw 2) (nw 6) HS HE hC).mono fun e w' ⟨q1, q2⟩ => ⟨_, q1, GrowG.nil _ _ _ _ q2⟩
end Go.Proofs.Ytfahgphkceilkaa
