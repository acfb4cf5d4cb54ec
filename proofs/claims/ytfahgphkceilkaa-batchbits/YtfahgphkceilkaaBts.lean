/- Proved here: BatchBits: with a bit turned a batch isn't got. No condition. -/
import Derived.Test.YtfahgphkceilkaaYl
import Derived.Deep.QuietTactic
import Derived.BigQuiet
import Derived.Deep.RegionHeld
import Derived.Deep.MidRow
namespace Go.Proofs.Ytfahgphkceilkaa.batchBits
open Go.ChangeShapes Go.WideShapes Go.ChangeAt Go.RowKit
set_option linter.unusedVariables false
set_option linter.unusedSimpArgs false
theorem chkB_len {s e : Int} {l : List Li} (h : chkB s e l = 0) : l.length ≤ 64 := (chkB_ok h).2.2.1
theorem turn_u8 {c j : Nat} (hc : c < 256) (hj : j < 8) : bits .xor .u8 (c : Int) (2 ^ min j 8 % 256) = ((c ^^^ 2 ^ j : Nat) : Int) := by
  have h2 : 2 ^ j < 256 := by
    have : 2 ^ j ≤ 2 ^ 7 := Nat.pow_le_pow_right (by decide) (by omega)
    omega
  rw [show min j 8 = j by omega, show ((2 : Int) ^ j % 256) = ((2 ^ j : Nat) : Int) by
    rw [show (2 : Int) ^ j = ((2 ^ j : Nat) : Int) by simp]
    generalize 2 ^ j = d at *
    omega, u8_xor_nat c (2 ^ j) hc h2]
theorem set_by {w : World} {g cp k c : Nat} {xs : List Nat} {cur : Array Value} (h : RowG 1 w (.slice (some ⟨g, 0, none⟩) xs.length cp) (bys xs)) (hg : w.heap[g]? = some (.cells cur 5 (0, 0))) (hk : k < xs.length) : RowG 1 (w.setCell ⟨g, k, none⟩ (.int .u8 (c : Int))) (.slice (some ⟨g, 0, none⟩) xs.length cp) (bys (xs.set k c)) := by
  obtain ⟨b, off, cap, e1, hle, hmax⟩ := h.open (by rw [bys_len]; omega)
  injection e1 with e1 e2 e3
  injection e1 with e1
  injection e1 with e4 e5
  subst e4 e5 e3
  refine Or.inr ⟨g, 0, cp, by rw [bys_len, List.length_set], by rw [bys_len, List.length_set]; omega, by rw [bys_len, List.length_set]; rw [bys_len] at hle; exact hle, hmax, fun j hj t ht => ?_, fit_by _⟩
  rw [bys_len, List.length_set] at hj
  obtain rfl : t = 0 := by omega
  rw [getG_by _ (by rw [List.length_set]; exact hj)]
  have hc := h.by hj
  have hB : Blk w g cur 5 := hg
  have hS := hB.set k (.int .u8 (c : Int))
  rw [cell_of_row _ g _ _ _ _ hS]
  rw [cell_of_row _ g _ _ _ _ hB] at hc
  rw [show 0 + j * 1 + 0 = j by omega, Array.getElem?_setIfInBounds]
  rw [Nat.zero_add] at hc
  have hs : j < cur.size := (Array.getElem?_eq_some_iff.1 hc).1
  by_cases q : k = j
  · subst q
    simp [hs, List.getD, hk]
  · rw [if_neg q, hc]
    simp [List.getD, List.getElem?_set, q]
theorem turned {xs : List Nat} {c j k : Nat} (hb : Bytes xs) (hf : formE xs = 0) (hk : k < xs.length) (hc : xs.getD k 0 = c) (hj : j < 8) : Bytes (xs.set k (c ^^^ 2 ^ j)) ∧ ¬ getE (xs.set k (c ^^^ 2 ^ j)) = 0 ∧ getS (xs.set k (c ^^^ 2 ^ j)) = 0 ∧ getV (xs.set k (c ^^^ 2 ^ j)) = 0 ∧ getL (xs.set k (c ^^^ 2 ^ j)) = [] := by
  have h2 : 2 ^ j < 256 := by
    have : 2 ^ j ≤ 2 ^ 7 := Nat.pow_le_pow_right (by decide) (by omega)
    omega
  have h := get_turn hb hf hk h2 (Nat.ne_of_gt (Nat.pos_of_ne_zero (by have := Nat.two_pow_pos j; omega)))
  rw [hc] at h
  refine ⟨fun x hx => ?_, h, if_neg h, if_neg h, if_neg h⟩
  rcases List.mem_or_eq_of_mem_set hx with hx | rfl
  · exact hb x hx
  · exact Nat.xor_lt_two_pow (n := 8) (by rw [← hc]; exact getD_lt hb k) h2
theorem open_own {w wr : World} {v : Value} {xs : List Nat} (h : GrowG 5 1 w wr v (bys xs)) (h0 : 0 < xs.length) : ∃ (g cap : Nat) (cur : Array Value), v = .slice (some ⟨g, 0, none⟩) xs.length cap ∧ w.heap.size ≤ g ∧ wr.heap[g]? = some (.cells cur 5 (0, 0)) ∧ RowG 1 wr v (bys xs) := by
  have hr := h.row
  obtain ⟨_, ⟨_, h3⟩, _⟩ := h
  rcases h3 with ⟨rfl, h3⟩ | ⟨g, cap, cur, rfl, e2, e3, _⟩
  · rw [bys_len] at h3; omega
  · rw [bys_len]
    exact ⟨g, cap, cur, rfl, e2, e3, by rw [bys_len] at hr; exact hr⟩
theorem s_long (s e : Int) (x : Option Addr) (n cap : Nat) (a q : Nat) (d1 : decide ((64 : Int) < (n : Int)) = true) (w : World) : Calls Try.prog 6 #[.agg #[.int .i64 s, .int .i64 e, .slice x n cap], .int .u16 (a : Int), .int .u8 (q : Int)] w fun r w' => r = .returned (.bool true) ∧ Below w.heap.size w w' := by
  have HX := hide (Blk.new w #[.int .i64 s, .int .i64 e, .slice x n cap] 24)
  have HB := hide (below1 w (.cells #[.int .i64 s, .int .i64 e, .slice x n cap] 24))
  go_enter Try.func6, Try.ntmps6
  go_wp2_with fail
  generalize w.alloc (.cells #[.int .i64 s, .int .i64 e, .slice x n cap] 24) = w0 at *
  refine (alive_any _).mono ?_
  rintro e w1 ⟨rfl, hb⟩
  replace HX := hide ((show Blk _ _ _ _ from unhide HX).keep hb)
  replace HB := hide (below_via (unhide HB) hb)
  have c2 := (show Blk _ _ _ _ from unhide HX).at 2 _ rfl
  go_wp2_with fail
  go_ret
  exact ⟨rfl, unhide HB⟩
theorem s_no (s e : Int) (x : Option Addr) (n cap : Nat) (a q : Nat) (l : List Li) (d1 : decide ((64 : Int) < (n : Int)) = false) (g1 : (chkB s e l != 0) = true) (Hle : Hid (l.length ≤ 10000)) (w : World) (HR : Hid (RowG 2 w (.slice x n cap) (l.map liL))) : Calls Try.prog 6 #[.agg #[.int .i64 s, .int .i64 e, .slice x n cap], .int .u16 (a : Int), .int .u8 (q : Int)] w fun r w' => r = .returned (.bool true) ∧ Below w.heap.size w w' := by
  have HX := hide (Blk.new w #[.int .i64 s, .int .i64 e, .slice x n cap] 24)
  have HB := hide (below1 w (.cells #[.int .i64 s, .int .i64 e, .slice x n cap] 24))
  replace HR := hide ((show RowG _ _ _ _ from unhide HR).alloc (.cells #[.int .i64 s, .int .i64 e, .slice x n cap] 24))
  go_enter Try.func6, Try.ntmps6
  go_wp2_with fail
  generalize w.alloc (.cells #[.int .i64 s, .int .i64 e, .slice x n cap] 24) = w0 at *
  refine (alive_any _).mono ?_
  rintro e w1 ⟨rfl, hb⟩
  replace HX := hide ((show Blk _ _ _ _ from unhide HX).keep hb)
  replace HR := hide ((show RowG _ _ _ _ from unhide HR).keep hb)
  replace HB := hide (below_via (unhide HB) hb)
  have c2 := (show Blk _ _ _ _ from unhide HX).at 2 _ rfl
  go_wp2_with (refine load_blk rfl 24 _ rfl (show Blk _ _ _ _ from unhide HX) rfl row24 size24 rfl ?_)
  refine (tob_any s e _ l _ (unhide HR) (unhide Hle)).mono ?_
  rintro e w2 ⟨t, rfl, hG⟩
  replace HX := hide ((show Blk _ _ _ _ from unhide HX).keep hG.below)
  replace HR := hide ((show RowG _ _ _ _ from unhide HR).keep hG.below)
  replace HB := hide (below_via (unhide HB) hG.below)
  have HT := hide (hG.row)
  clear hG
  go_wp2_with fail
  refine (put_any s e _ l _ (unhide HT)).mono ?_
  rintro e w3 ⟨p, rfl, hG⟩
  replace HX := hide ((show Blk _ _ _ _ from unhide HX).keep hG.below)
  replace HR := hide ((show RowG _ _ _ _ from unhide HR).keep hG.below)
  replace HT := hide ((show RowG _ _ _ _ from unhide HT).keep hG.below)
  replace HB := hide (below_via (unhide HB) hG.below)
  clear hG
  generalize chkB s e l = ce at *
  go_wp2_with fail
  go_ret
  exact ⟨rfl, unhide HB⟩
set_option maxHeartbeats 8000000 in
theorem s_ok (s e : Int) (x : Option Addr) (n cap : Nat) (a q : Nat) (k m j : Nat) (l : List Li) (Ha : Hid (a ≤ 65535)) (Hk : Hid (a % m = k)) (Hm : Hid ((putN s e l).length = m)) (Hj : Hid (q % 8 = j)) (d1 : decide ((64 : Int) < (n : Int)) = false) (g1 : ((0 : Int) != 0) = false) (Hc : Hid (chkB s e l = 0)) (Hle : Hid (l.length ≤ 10000)) (Hpos : Hid (0 < (putN s e l).length)) (w : World) (HR : Hid (RowG 2 w (.slice x n cap) (l.map liL))) : Calls Try.prog 6 #[.agg #[.int .i64 s, .int .i64 e, .slice x n cap], .int .u16 (a : Int), .int .u8 (q : Int)] w fun r w' => r = .returned (.bool true) ∧ Below w.heap.size w w' := by
  have HX := hide (Blk.new w #[.int .i64 s, .int .i64 e, .slice x n cap] 24)
  have HB := hide (below1 w (.cells #[.int .i64 s, .int .i64 e, .slice x n cap] 24))
  replace HR := hide ((show RowG _ _ _ _ from unhide HR).alloc (.cells #[.int .i64 s, .int .i64 e, .slice x n cap] 24))
  go_enter Try.func6, Try.ntmps6
  go_wp2_with fail
  generalize w.alloc (.cells #[.int .i64 s, .int .i64 e, .slice x n cap] 24) = w0 at *
  refine (alive_any _).mono ?_
  rintro e w1 ⟨rfl, hb⟩
  replace HX := hide ((show Blk _ _ _ _ from unhide HX).keep hb)
  replace HR := hide ((show RowG _ _ _ _ from unhide HR).keep hb)
  replace HB := hide (below_via (unhide HB) hb)
  have c2 := (show Blk _ _ _ _ from unhide HX).at 2 _ rfl
  go_wp2_with (refine load_blk rfl 24 _ rfl (show Blk _ _ _ _ from unhide HX) rfl row24 size24 rfl ?_)
  refine (tob_any s e _ l _ (unhide HR) (unhide Hle)).mono ?_
  rintro e w2 ⟨t, rfl, hG⟩
  replace HX := hide ((show Blk _ _ _ _ from unhide HX).keep hG.below)
  replace HR := hide ((show RowG _ _ _ _ from unhide HR).keep hG.below)
  replace HB := hide (below_via (unhide HB) hG.below)
  have HT := hide (hG.row)
  clear hG
  go_wp2_with fail
  have hws := hide (unhide HB).size
  refine (put_ok s e _ l _ (unhide HT) (unhide Hc)).mono ?_
  rintro r w3 ⟨p, rfl, hG⟩
  replace HX := hide ((show Blk _ _ _ _ from unhide HX).keep hG.below)
  replace HR := hide ((show RowG _ _ _ _ from unhide HR).keep hG.below)
  replace HT := hide ((show RowG _ _ _ _ from unhide HT).keep hG.below)
  replace HB := hide (below_via (unhide HB) hG.below)
  generalize hP : putN s e l = P at *
  replace hP := hide hP
  obtain ⟨g, cp, cur, rfl, hg1, hg2, hcell⟩ := open_own hG (unhide Hpos)
  clear hG
  have f1 : wrap64 (a : Int) = (a : Int) := by have := unhide Ha; unfold wrap64; omega
  rw [unhide Hm] at hcell ⊢
  have f2 : (a : Int).tmod (m : Int) = (k : Int) := by rw [Int.tmod_eq_emod_of_nonneg (by omega), ← unhide Hk]; omega
  have kl : (k : Int) < (m : Int) := by have := unhide Hk; have := unhide Hpos; have := Nat.mod_lt a (show 0 < m by have := unhide Hm; omega); omega
  have m1 := hcell.by (k := k) (by rw [unhide Hm]; omega)
  have fz : w3.frozen? ⟨g, k, none⟩ = false := frozen_of_row w3 g k _ _ hg2
  rw [Nat.zero_add] at m1
  generalize hC : P.getD k 0 = c1 at *
  replace hC := hide hC
  have f3 : (q : Int).tmod 8 = (j : Int) := by rw [Int.tmod_eq_emod_of_nonneg (by omega), ← unhide Hj]; omega
  have hc1 : c1 < 256 := by rw [← unhide hC]; exact getD_lt (by rw [← unhide hP]; exact putN_bytes _ _ _) k
  have hj8 : j < 8 := by have := unhide Hj; omega
  have HQ2 : Hid (RowG 1 (w3.setCell ⟨g, k, none⟩ (.int .u8 ((c1 ^^^ 2 ^ j : Nat) : Int))) (.slice (some ⟨g, 0, none⟩) m cp) (bys (P.set k (c1 ^^^ 2 ^ j)))) := hide (by rw [← unhide Hm] at hcell ⊢; exact set_by hcell hg2 (by have := unhide Hm; omega))
  have f4 := hide (turn_u8 hc1 hj8)
  have HB4 := hide ((unhide HB).setCell (p := ⟨g, k, none⟩) (Nat.le_trans (unhide hws) hg1) (.int .u8 ((c1 ^^^ 2 ^ j : Nat) : Int)))
  have HQg := hide (turned (xs := P) (c := c1) (j := j) (k := k) (by rw [← unhide hP]; exact putN_bytes _ _ _) (by rw [← unhide hP]; exact put_form (chkB_len (unhide Hc))) (by rw [unhide Hm]; omega) (unhide hC) hj8)
  clear hg2 hcell hg1 hc1 hj8 HB
  go_wp2_with fail
  rw [unhide f4]
  generalize w3.setCell ⟨g, k, none⟩ (.int .u8 ((c1 ^^^ 2 ^ j : Nat) : Int)) = w4 at *
  have HB := HB4
  clear HB4 f4 m1 fz
  have HG := hide (get_any _ _ _ (unhide HQ2) (unhide HQg).1)
  obtain ⟨_, g0, g1, g2, g3⟩ := unhide HQg
  rw [g1, g2, g3] at HG
  generalize getE (P.set k (c1 ^^^ 2 ^ j)) = E at *
  have g4 : (E != 0) = true := by rw [bne_iff_ne]; exact g0
  clear g0 g1 g2 g3 HQg
  refine (unhide HG).mono ?_
  rintro e w5 ⟨u, rfl, hG⟩
  replace HQ2 := hide ((show RowG _ _ _ _ from unhide HQ2).keep hG.below)
  replace HB := hide (below_via (unhide HB) hG.below)
  have HU := hide (hG.row)
  clear hG
  clear HG
  obtain ⟨au, cu, rfl⟩ := rowG_slice (unhide HU)
  clear HU HQ2
  have HX0 := hide (Blk.new w5 #[.int .i64 0, .int .i64 0, .slice none 0 0] 32)
  have HA0 := hide (below1 w5 (.cells #[.int .i64 0, .int .i64 0, .slice none 0 0] 32))
  go_wp2_with (refine store_blk rfl 32 _ _ rfl (show Blk _ _ _ _ from unhide HX0) rfl rfl size32 rfl rfl rfl ?_)
  intro w6 kX kp
  have hb := kp.bel (Nat.le_refl _) (unhide HA0)
  replace HB := hide (below_via (unhide HB) hb)
  have HW := hide kX
  clear kp kX HX0 HA0 hb
  generalize w5.heap.size = cb at *
  have e0 := (show Blk _ _ _ _ from unhide HW).at 0 _ rfl
  have e2 := (show Blk _ _ _ _ from unhide HW).at 2 _ rfl
  go_wp2_with fail
  go_ret
  exact ⟨rfl, unhide HB⟩
theorem walk (s e : Int) (x : Option Addr) (n cap : Nat) (l : List Li) (at1 bt : Int) (w : World) (h : RowG 2 w (.slice x n cap) (l.map liL)) (hi : AllIn l) (ia : 0 ≤ at1 ∧ at1 ≤ 65535) (ib : 0 ≤ bt ∧ bt ≤ 255) : Calls Try.prog 6 #[.agg #[.int .i64 s, .int .i64 e, .slice x n cap], .int .u16 at1, .int .u8 bt] w fun r w' => r = .returned (.bool true) ∧ Below w.heap.size w w' := by
  have hl := rowG_len h
  rw [List.length_map] at hl
  obtain ⟨a, rfl⟩ : ∃ a : Nat, at1 = (a : Int) := ⟨at1.toNat, by omega⟩
  obtain ⟨q, rfl⟩ : ∃ a : Nat, bt = (a : Int) := ⟨bt.toNat, by omega⟩
  by_cases q1 : 64 < n
  · exact s_long s e x n cap a q (decide_eq_true (by omega)) w
  by_cases q3 : chkB s e l = 0
  case neg => exact s_no s e x n cap a q l (decide_eq_false (by omega)) (by rw [bne_iff_ne]; exact q3) (hide (by omega)) w (hide h)
  exact s_ok s e x n cap a q _ _ _ l (hide (by omega)) (hide rfl) (hide rfl) (hide rfl) (decide_eq_false (by omega)) (by decide) (hide q3) (hide (by omega)) (hide (by rw [putN_len]; omega)) w (hide h)
theorem own : ownKnob Try.prog.godebug = none := by kernel_rfl
theorem laidOut : laidOutB Try.prog = true := by kernel_rfl
set_option linter.unusedVariables false in
set_option maxRecDepth 100000 in
theorem lifted (os : Os) (started : os.Started) (H : Type) (enc : TypeId × Value → H) :
    ReturnsInHanded {} Try.checked os 6 .any (Rows.batchBitsSpec.pre6 enc Try.prog Try.f6 Rows.batchBitsRow.domain false) (Rows.batchBitsSpec.post enc Try.prog Try.f6 false true false false) := by
  refine returnsInHanded_of_change (C := Try.checked) own started (by kernel_rfl) Try.func6
    (ChangeSpec.witness6 (enc := enc) (C := Try.checked) false ⟨#[], #[.agg #[.int .i64 0, .int .i64 0, .slice none 0 0], .int .u16 0, .int .u8 0], []⟩ 8 (by kernel_rfl) (by kernel_rfl) (by kernel_rfl) (by kernel_rfl)) ?_
  intro W base args ds gs before hval0 hW hcnd _
  have hval : ∀ (j : Nat) t v, Try.f6.params[j]? = some t → args[j]? = some v → Value.okWide Try.prog W .any base t v := hval0
  have hW' := hW
  obtain ⟨p, q, hA0, hV, rfl, hfz, hnd⟩ := hW
  have hA : DataW.TrodAll enc Try.prog W 0 (fun _ => true) true Try.f6.params.toList args.toList ds p := hA0
  rw [Try.params6] at hA hval
  obtain ⟨v0, vs0, d0, ds0, p0, q0, hargs, rfl, rfl, h0, r0⟩ := trodAll_cons hA
  obtain ⟨v1, vs1, d1, ds1, p1, q1, rfl, rfl, rfl, h1, r1⟩ := trodAll_cons r0
  obtain ⟨v2, vs2, d2, ds2, p2, q2, rfl, rfl, rfl, h2, r2⟩ := trodAll_cons r1
  obtain ⟨rfl, rfl, rfl⟩ := trodAll_nil r2
  obtain rfl : args = #[v0, v1, v2] := by cases args; simp_all
  obtain ⟨rfl, rfl⟩ := trodVars_none hV
  have k0 := h0
  have lt0 : ∀ x ∈ p0, x.block < W.heap.size := by obtain ⟨m, hm⟩ := k0; exact DataW.trod_lt m _ _ _ hm
  obtain ⟨s0, e0, a0, len0, cap0, l0, rfl, hr0, ii0⟩ := bat_open (hval 0 24 v0 rfl rfl) h0
  have k1 := h1
  have lt1 : ∀ x ∈ p1, x.block < W.heap.size := by obtain ⟨m, hm⟩ := k1; exact DataW.trod_lt m _ _ _ hm
  obtain ⟨xb1, rfl, ib1⟩ : ∃ n : Int, v1 = .int .u16 n ∧ (0 ≤ n ∧ n ≤ 65535) := by
    obtain ⟨n, rfl⟩ := okWide_int Try.underlying48 (hval 1 48 v1 rfl rfl)
    obtain ⟨m, hm⟩ := h1
    have q := hm
    obtain ⟨z, e, _, w⟩ := DataW.trod_int Try.underlying48 (by simpa [Value.cells] using hm)
    simp at e
    subst e
    refine ⟨_, rfl, ?_⟩
    simp [Lit.wf, IntKind.min, IntKind.max, IntKind.signed, IntKind.bits] at w
    omega
  have k2 := h2
  have lt2 : ∀ x ∈ p2, x.block < W.heap.size := by obtain ⟨m, hm⟩ := k2; exact DataW.trod_lt m _ _ _ hm
  obtain ⟨xb2, rfl, ib2⟩ : ∃ n : Int, v2 = .int .u8 n ∧ (0 ≤ n ∧ n ≤ 255) := by
    obtain ⟨n, rfl⟩ := okWide_int Try.underlying5 (hval 2 5 v2 rfl rfl)
    obtain ⟨m, hm⟩ := h2
    have q := hm
    obtain ⟨z, e, _, w⟩ := DataW.trod_int Try.underlying5 (by simpa [Value.cells] using hm)
    simp at e
    subst e
    refine ⟨_, rfl, ?_⟩
    simp [Lit.wf, IntKind.min, IntKind.max, IntKind.signed, IntKind.bits] at w
    omega
  clear hA0 hval0
  refine (walk s0 e0 a0 len0 cap0 l0 xb1 xb2 W hr0 ii0 ib1 ib2).mono fun e W' ⟨he, bel⟩ => ?_
  subst he
  exact ⟨_, rfl, _, _, _, [], _, [], hW', trodAll_mk1 (shut_bool Try.underlying4 _), (trodAll_cons_mk (Below.trod laidOut (by kernel_rfl) (of_decide_eq_true (by kernel_rfl)) k0 bel lt0) (trodAll_cons_mk (Below.trod laidOut (by kernel_rfl) (of_decide_eq_true (by kernel_rfl)) k1 bel lt1) (trodAll_cons_mk (Below.trod laidOut (by kernel_rfl) (of_decide_eq_true (by kernel_rfl)) k2 bel lt2) trodAll_mk0))), rfl, bel.frame _, fun h => by cases h⟩
theorem over : Rows.batchBitsRow.holds Try.pinned (OpenSpec.ofChange Rows.batchBitsSpec) :=
  OpenClaim.holds_of_wide 6 Try.f6 rfl rfl rfl rfl rfl rfl rfl ⟨rfl, rfl, rfl, rfl, rfl⟩ rfl rfl rfl rfl rfl (by kernel_rfl) Try.func6 (by kernel_rfl)
    (of_decide_eq_true (by kernel_rfl)) (by unfold Func.isWrapper; first | (rw [if_pos (by decide +kernel)]; kernel_rfl) | (rw [if_neg (by decide +kernel)]; exact ⟨rfl, rfl⟩))
    (fun os started H enc _ => lifted os started H enc)
theorem proved : Rows.BatchBitsSaid := over
end Go.Proofs.Ytfahgphkceilkaa.batchBits
namespace Go.Proofs.Ytfahgphkceilkaa
theorem batchBits_holds : Rows.BatchBitsSaid := batchBits.proved
end Go.Proofs.Ytfahgphkceilkaa
