/- Proved here: BatchBack: what is put is got; what is got is put as it was; shorter, or longer, it isn't got. No condition. -/
import Derived.Test.YtfahgphkceilkaaYl
import Derived.Deep.QuietTactic
import Derived.BigQuiet
import Derived.Deep.RegionHeld
import Derived.Deep.MidRow
namespace Go.Proofs.Ytfahgphkceilkaa.batchBack
open Go.ChangeShapes Go.WideShapes Go.ChangeAt Go.RowKit
set_option linter.unusedVariables false
set_option linter.unusedSimpArgs false
theorem chkB_len {s e : Int} {l : List Li} (h : chkB s e l = 0) : l.length ≤ 64 := (chkB_ok h).2.2.1
theorem zero_of {xs : List Nat} (h : ¬ getE xs = 0) : getS xs = 0 ∧ getV xs = 0 ∧ getL xs = [] := ⟨if_neg h, if_neg h, if_neg h⟩
theorem chk_of {xs : List Nat} (h : getE xs = 0) : chkB (getS xs) (getV xs) (getL xs) = 0 := by
  obtain ⟨h1, h2⟩ := getE_ok h
  unfold getS getV getL
  rw [if_pos h, if_pos h, if_pos h]
  exact h2
theorem s_long (s e : Int) (x : Option Addr) (n cap : Nat) (x1 : Option Addr) (n1 cap1 : Nat) (a : Nat) (d1 : decide ((300 : Int) < (n : Int)) = true) (w : World) : Calls Try.prog 5 #[.agg #[.int .i64 s, .int .i64 e, .slice x n cap], .slice x1 n1 cap1, .int .u16 (a : Int)] w fun r w' => r = .returned (.bool true) ∧ Below w.heap.size w w' := by
  have HX := hide (Blk.new w #[.int .i64 s, .int .i64 e, .slice x n cap] 24)
  have HB := hide (below1 w (.cells #[.int .i64 s, .int .i64 e, .slice x n cap] 24))
  go_enter Try.func5, Try.ntmps5
  go_wp2_with fail
  generalize w.alloc (.cells #[.int .i64 s, .int .i64 e, .slice x n cap] 24) = w0 at *
  refine (alive_any _).mono ?_
  rintro e w1 ⟨rfl, hb⟩
  replace HX := hide ((show Blk _ _ _ _ from unhide HX).keep hb)
  replace HB := hide (below_via (unhide HB) hb)
  have c2 := (show Blk _ _ _ _ from unhide HX).at 2 _ rfl
  go_wp2_with fail
  go_ret
  exact ⟨rfl, unhide HB⟩
theorem s_much (s e : Int) (x : Option Addr) (n cap : Nat) (x1 : Option Addr) (n1 cap1 : Nat) (a : Nat) (d1 : decide ((300 : Int) < (n : Int)) = false) (d2 : decide ((3000 : Int) < (n1 : Int)) = true) (w : World) : Calls Try.prog 5 #[.agg #[.int .i64 s, .int .i64 e, .slice x n cap], .slice x1 n1 cap1, .int .u16 (a : Int)] w fun r w' => r = .returned (.bool true) ∧ Below w.heap.size w w' := by
  have HX := hide (Blk.new w #[.int .i64 s, .int .i64 e, .slice x n cap] 24)
  have HB := hide (below1 w (.cells #[.int .i64 s, .int .i64 e, .slice x n cap] 24))
  go_enter Try.func5, Try.ntmps5
  go_wp2_with fail
  generalize w.alloc (.cells #[.int .i64 s, .int .i64 e, .slice x n cap] 24) = w0 at *
  refine (alive_any _).mono ?_
  rintro e w1 ⟨rfl, hb⟩
  replace HX := hide ((show Blk _ _ _ _ from unhide HX).keep hb)
  replace HB := hide (below_via (unhide HB) hb)
  have c2 := (show Blk _ _ _ _ from unhide HX).at 2 _ rfl
  go_wp2_with fail
  go_ret
  exact ⟨rfl, unhide HB⟩
set_option maxHeartbeats 16000000 in
theorem s_nn (s e : Int) (x : Option Addr) (n cap : Nat) (x1 : Option Addr) (n1 cap1 : Nat) (a : Nat) (l : List Li) (xs : List Nat) (d1 : decide ((300 : Int) < (n : Int)) = false) (d2 : decide ((3000 : Int) < (n1 : Int)) = false) (g1 : (chkB s e l == 0) = false) (HE : Hid (¬ getE xs = 0)) (Hle : Hid (l.length ≤ 10000)) (Hbx : Hid (Bytes xs)) (w : World) (HR : Hid (RowG 2 w (.slice x n cap) (l.map liL))) (HY : Hid (RowG 1 w (.slice x1 n1 cap1) (bys xs))) : Calls Try.prog 5 #[.agg #[.int .i64 s, .int .i64 e, .slice x n cap], .slice x1 n1 cap1, .int .u16 (a : Int)] w fun r w' => r = .returned (.bool true) ∧ Below w.heap.size w w' := by
  have HX := hide (Blk.new w #[.int .i64 s, .int .i64 e, .slice x n cap] 24)
  have HB := hide (below1 w (.cells #[.int .i64 s, .int .i64 e, .slice x n cap] 24))
  replace HR := hide ((show RowG _ _ _ _ from unhide HR).alloc (.cells #[.int .i64 s, .int .i64 e, .slice x n cap] 24))
  replace HY := hide ((show RowG _ _ _ _ from unhide HY).alloc (.cells #[.int .i64 s, .int .i64 e, .slice x n cap] 24))
  go_enter Try.func5, Try.ntmps5
  go_wp2_with fail
  generalize w.alloc (.cells #[.int .i64 s, .int .i64 e, .slice x n cap] 24) = w0 at *
  refine (alive_any _).mono ?_
  rintro e w1 ⟨rfl, hb⟩
  replace HX := hide ((show Blk _ _ _ _ from unhide HX).keep hb)
  replace HR := hide ((show RowG _ _ _ _ from unhide HR).keep hb)
  replace HY := hide ((show RowG _ _ _ _ from unhide HY).keep hb)
  replace HB := hide (below_via (unhide HB) hb)
  have c2 := (show Blk _ _ _ _ from unhide HX).at 2 _ rfl
  go_wp2_with (refine load_blk rfl 24 _ rfl (show Blk _ _ _ _ from unhide HX) rfl row24 size24 rfl ?_)
  refine (tob_any s e _ l _ (unhide HR) (unhide Hle)).mono ?_
  rintro e w2 ⟨t, rfl, hG⟩
  replace HX := hide ((show Blk _ _ _ _ from unhide HX).keep hG.below)
  replace HR := hide ((show RowG _ _ _ _ from unhide HR).keep hG.below)
  replace HY := hide ((show RowG _ _ _ _ from unhide HY).keep hG.below)
  replace HB := hide (below_via (unhide HB) hG.below)
  have HT := hide (hG.row)
  clear hG
  go_wp2_with fail
  refine (put_any s e _ l _ (unhide HT)).mono ?_
  rintro e w3 ⟨p, rfl, hG⟩
  replace HX := hide ((show Blk _ _ _ _ from unhide HX).keep hG.below)
  replace HR := hide ((show RowG _ _ _ _ from unhide HR).keep hG.below)
  replace HY := hide ((show RowG _ _ _ _ from unhide HY).keep hG.below)
  replace HT := hide ((show RowG _ _ _ _ from unhide HT).keep hG.below)
  replace HB := hide (below_via (unhide HB) hG.below)
  clear hG
  clear HT
  generalize chkB s e l = ce at *
  go_wp2_with fail
  refine (get_any _ xs _ (unhide HY) (unhide Hbx)).mono ?_
  rintro e w4 ⟨y, rfl, hG⟩
  replace HX := hide ((show Blk _ _ _ _ from unhide HX).keep hG.below)
  replace HR := hide ((show RowG _ _ _ _ from unhide HR).keep hG.below)
  replace HY := hide ((show RowG _ _ _ _ from unhide HY).keep hG.below)
  replace HB := hide (below_via (unhide HB) hG.below)
  have HV := hide (hG.row)
  clear hG
  obtain ⟨ay, cy, rfl⟩ := rowG_slice (unhide HV)
  rw [List.length_map] at HV ⊢
  have g2 : (getE xs != 0) = true := by rw [bne_iff_ne]; exact unhide HE
  obtain ⟨z1, z2, z3⟩ := zero_of (unhide HE)
  rw [z3] at HV
  rw [z1, z2, z3]
  clear z1 z2 z3
  generalize getE xs = E at *
  have HX0 := hide (Blk.new w4 #[.int .i64 0, .int .i64 0, .slice none 0 0] 32)
  have HA0 := hide (below1 w4 (.cells #[.int .i64 0, .int .i64 0, .slice none 0 0] 32))
  go_wp2_with (refine store_blk rfl 32 _ _ rfl (show Blk _ _ _ _ from unhide HX0) rfl rfl size32 rfl rfl rfl ?_)
  intro w5 kX kp
  have hb := kp.bel (Nat.le_refl _) (unhide HA0)
  replace HX := hide ((show Blk _ _ _ _ from unhide HX).keep hb)
  replace HR := hide ((show RowG _ _ _ _ from unhide HR).keep hb)
  replace HY := hide ((show RowG _ _ _ _ from unhide HY).keep hb)
  replace HV := hide ((show RowG _ _ _ _ from unhide HV).keep hb)
  replace HB := hide (below_via (unhide HB) hb)
  have HQ := hide kX
  clear kp kX HX0 HA0 hb
  generalize w4.heap.size = cq at *
  have c3 := (show Blk _ _ _ _ from unhide HQ).at 2 _ rfl
  go_wp2_with fail
  go_ret
  exact ⟨rfl, unhide HB⟩
set_option maxHeartbeats 16000000 in
theorem s_ny (s e : Int) (x : Option Addr) (n cap : Nat) (x1 : Option Addr) (n1 cap1 : Nat) (a : Nat) (l : List Li) (xs : List Nat) (d1 : decide ((300 : Int) < (n : Int)) = false) (d2 : decide ((3000 : Int) < (n1 : Int)) = false) (g1 : (chkB s e l == 0) = false) (HE : Hid (getE xs = 0)) (Hle : Hid (l.length ≤ 10000)) (Hbx : Hid (Bytes xs)) (w : World) (HR : Hid (RowG 2 w (.slice x n cap) (l.map liL))) (HY : Hid (RowG 1 w (.slice x1 n1 cap1) (bys xs))) : Calls Try.prog 5 #[.agg #[.int .i64 s, .int .i64 e, .slice x n cap], .slice x1 n1 cap1, .int .u16 (a : Int)] w fun r w' => r = .returned (.bool true) ∧ Below w.heap.size w w' := by
  have HX := hide (Blk.new w #[.int .i64 s, .int .i64 e, .slice x n cap] 24)
  have HB := hide (below1 w (.cells #[.int .i64 s, .int .i64 e, .slice x n cap] 24))
  replace HR := hide ((show RowG _ _ _ _ from unhide HR).alloc (.cells #[.int .i64 s, .int .i64 e, .slice x n cap] 24))
  replace HY := hide ((show RowG _ _ _ _ from unhide HY).alloc (.cells #[.int .i64 s, .int .i64 e, .slice x n cap] 24))
  go_enter Try.func5, Try.ntmps5
  go_wp2_with fail
  generalize w.alloc (.cells #[.int .i64 s, .int .i64 e, .slice x n cap] 24) = w0 at *
  refine (alive_any _).mono ?_
  rintro e w1 ⟨rfl, hb⟩
  replace HX := hide ((show Blk _ _ _ _ from unhide HX).keep hb)
  replace HR := hide ((show RowG _ _ _ _ from unhide HR).keep hb)
  replace HY := hide ((show RowG _ _ _ _ from unhide HY).keep hb)
  replace HB := hide (below_via (unhide HB) hb)
  have c2 := (show Blk _ _ _ _ from unhide HX).at 2 _ rfl
  go_wp2_with (refine load_blk rfl 24 _ rfl (show Blk _ _ _ _ from unhide HX) rfl row24 size24 rfl ?_)
  refine (tob_any s e _ l _ (unhide HR) (unhide Hle)).mono ?_
  rintro e w2 ⟨t, rfl, hG⟩
  replace HX := hide ((show Blk _ _ _ _ from unhide HX).keep hG.below)
  replace HR := hide ((show RowG _ _ _ _ from unhide HR).keep hG.below)
  replace HY := hide ((show RowG _ _ _ _ from unhide HY).keep hG.below)
  replace HB := hide (below_via (unhide HB) hG.below)
  have HT := hide (hG.row)
  clear hG
  go_wp2_with fail
  refine (put_any s e _ l _ (unhide HT)).mono ?_
  rintro e w3 ⟨p, rfl, hG⟩
  replace HX := hide ((show Blk _ _ _ _ from unhide HX).keep hG.below)
  replace HR := hide ((show RowG _ _ _ _ from unhide HR).keep hG.below)
  replace HY := hide ((show RowG _ _ _ _ from unhide HY).keep hG.below)
  replace HT := hide ((show RowG _ _ _ _ from unhide HT).keep hG.below)
  replace HB := hide (below_via (unhide HB) hG.below)
  clear hG
  clear HT
  generalize chkB s e l = ce at *
  go_wp2_with fail
  refine (get_any _ xs _ (unhide HY) (unhide Hbx)).mono ?_
  rintro e w4 ⟨y, rfl, hG⟩
  replace HX := hide ((show Blk _ _ _ _ from unhide HX).keep hG.below)
  replace HR := hide ((show RowG _ _ _ _ from unhide HR).keep hG.below)
  replace HY := hide ((show RowG _ _ _ _ from unhide HY).keep hG.below)
  replace HB := hide (below_via (unhide HB) hG.below)
  have HV := hide (hG.row)
  clear hG
  obtain ⟨ay, cy, rfl⟩ := rowG_slice (unhide HV)
  rw [List.length_map] at HV ⊢
  rw [unhide HE]
  have hput := hide (get_put (unhide Hbx) (unhide HE))
  have hchk := hide (chk_of (unhide HE))
  have g2 : ((0 : Int) != 0) = false := by decide
  generalize getS xs = gs at *
  generalize getV xs = gv at *
  generalize getL xs = gl at *
  have HX0 := hide (Blk.new w4 #[.int .i64 0, .int .i64 0, .slice none 0 0] 32)
  have HA0 := hide (below1 w4 (.cells #[.int .i64 0, .int .i64 0, .slice none 0 0] 32))
  go_wp2_with (refine store_blk rfl 32 _ _ rfl (show Blk _ _ _ _ from unhide HX0) rfl rfl size32 rfl rfl rfl ?_)
  intro w5 kX kp
  have hb := kp.bel (Nat.le_refl _) (unhide HA0)
  replace HX := hide ((show Blk _ _ _ _ from unhide HX).keep hb)
  replace HR := hide ((show RowG _ _ _ _ from unhide HR).keep hb)
  replace HY := hide ((show RowG _ _ _ _ from unhide HY).keep hb)
  replace HV := hide ((show RowG _ _ _ _ from unhide HV).keep hb)
  replace HB := hide (below_via (unhide HB) hb)
  have HQ := hide kX
  clear kp kX HX0 HA0 hb
  generalize w4.heap.size = cq at *
  go_wp2_with (refine load_blk rfl 32 _ rfl (show Blk _ _ _ _ from unhide HQ) rfl row32 size32 rfl ?_)
  refine (put_ok gs gv _ gl _ (unhide HV) (unhide hchk)).mono ?_
  rintro e w6 ⟨z, rfl, hG⟩
  replace HX := hide ((show Blk _ _ _ _ from unhide HX).keep hG.below)
  replace HR := hide ((show RowG _ _ _ _ from unhide HR).keep hG.below)
  replace HY := hide ((show RowG _ _ _ _ from unhide HY).keep hG.below)
  replace HV := hide ((show RowG _ _ _ _ from unhide HV).keep hG.below)
  replace HQ := hide ((show Blk _ _ _ _ from unhide HQ).keep hG.below)
  replace HB := hide (below_via (unhide HB) hG.below)
  have HZ := hide (hG.row)
  clear hG
  rw [unhide hput] at HZ
  obtain ⟨az, cz, rfl⟩ := rowG_slice (unhide HZ)
  go_wp2_with fail
  refine (beq_to _ _ xs _ (unhide HZ) (unhide HY)).mono ?_
  rintro e w7 ⟨rfl, hb⟩
  replace HX := hide ((show Blk _ _ _ _ from unhide HX).keep hb)
  replace HR := hide ((show RowG _ _ _ _ from unhide HR).keep hb)
  replace HY := hide ((show RowG _ _ _ _ from unhide HY).keep hb)
  replace HV := hide ((show RowG _ _ _ _ from unhide HV).keep hb)
  replace HQ := hide ((show Blk _ _ _ _ from unhide HQ).keep hb)
  replace HZ := hide ((show RowG _ _ _ _ from unhide HZ).keep hb)
  replace HB := hide (below_via (unhide HB) hb)
  go_wp2_with fail
  go_ret
  exact ⟨rfl, unhide HB⟩
set_option maxHeartbeats 16000000 in
theorem s_yn (s e : Int) (x : Option Addr) (n cap : Nat) (x1 : Option Addr) (n1 cap1 : Nat) (a : Nat) (l : List Li) (xs : List Nat) (d1 : decide ((300 : Int) < (n : Int)) = false) (d2 : decide ((3000 : Int) < (n1 : Int)) = false) (Hc : Hid (chkB s e l = 0)) (k m : Nat) (Ha : Hid (a ≤ 65535)) (Hk : Hid (a % m = k)) (Hm : Hid ((putN s e l).length = m)) (Hm0 : Hid (0 < m)) (Hl1 : Hid (([] : List Nat).length + (putN s e l).length ≤ 1000000)) (Hl2 : Hid ((putN s e l).length + [a % 256].length ≤ 1000000)) (HE : Hid (¬ getE xs = 0)) (Hle : Hid (l.length ≤ 10000)) (Hbx : Hid (Bytes xs)) (w : World) (HR : Hid (RowG 2 w (.slice x n cap) (l.map liL))) (HY : Hid (RowG 1 w (.slice x1 n1 cap1) (bys xs))) : Calls Try.prog 5 #[.agg #[.int .i64 s, .int .i64 e, .slice x n cap], .slice x1 n1 cap1, .int .u16 (a : Int)] w fun r w' => r = .returned (.bool true) ∧ Below w.heap.size w w' := by
  have HX := hide (Blk.new w #[.int .i64 s, .int .i64 e, .slice x n cap] 24)
  have HB := hide (below1 w (.cells #[.int .i64 s, .int .i64 e, .slice x n cap] 24))
  have HG1 := hide (fun v W h => get_any v (putN s e l) W h (putN_bytes _ _ _))
  obtain ⟨a0, a1, a2, a3⟩ := put_get (unhide Hc)
  rw [a0, a1, a2, a3] at HG1
  clear a0 a1 a2 a3
  have HG2 := hide (fun v W h => get_any v ((putN s e l).take k) W h (bytes_take (putN_bytes _ _ _) _))
  have e2 := get_less (s := s) (e := e) (l := l) (chkB_len (unhide Hc)) (k := k) (by have := unhide Hk; have := Nat.mod_lt a (unhide Hm0); rw [unhide Hm]; omega)
  obtain ⟨z1, z2, z3⟩ := zero_of (xs := (putN s e l).take k) (by rw [e2]; decide)
  rw [e2, z1, z2, z3] at HG2
  clear e2 z1 z2 z3
  have HG4 := hide (fun v W h => get_any v (putN s e l ++ [a % 256]) W h ((putN_bytes _ _ _).app (fun c hc => by simp at hc; omega)))
  have e2 := get_more (s := s) (e := e) (l := l) (chkB_len (unhide Hc)) (a % 256)
  obtain ⟨z1, z2, z3⟩ := zero_of (xs := putN s e l ++ [a % 256]) (by rw [e2]; decide)
  rw [e2, z1, z2, z3] at HG4
  clear e2 z1 z2 z3
  replace HR := hide ((show RowG _ _ _ _ from unhide HR).alloc (.cells #[.int .i64 s, .int .i64 e, .slice x n cap] 24))
  replace HY := hide ((show RowG _ _ _ _ from unhide HY).alloc (.cells #[.int .i64 s, .int .i64 e, .slice x n cap] 24))
  go_enter Try.func5, Try.ntmps5
  go_wp2_with fail
  generalize w.alloc (.cells #[.int .i64 s, .int .i64 e, .slice x n cap] 24) = w0 at *
  refine (alive_any _).mono ?_
  rintro e w1 ⟨rfl, hb⟩
  replace HX := hide ((show Blk _ _ _ _ from unhide HX).keep hb)
  replace HR := hide ((show RowG _ _ _ _ from unhide HR).keep hb)
  replace HY := hide ((show RowG _ _ _ _ from unhide HY).keep hb)
  replace HB := hide (below_via (unhide HB) hb)
  have c2 := (show Blk _ _ _ _ from unhide HX).at 2 _ rfl
  go_wp2_with (refine load_blk rfl 24 _ rfl (show Blk _ _ _ _ from unhide HX) rfl row24 size24 rfl ?_)
  refine (tob_any s e _ l _ (unhide HR) (unhide Hle)).mono ?_
  rintro e w2 ⟨t, rfl, hG⟩
  replace HX := hide ((show Blk _ _ _ _ from unhide HX).keep hG.below)
  replace HR := hide ((show RowG _ _ _ _ from unhide HR).keep hG.below)
  replace HY := hide ((show RowG _ _ _ _ from unhide HY).keep hG.below)
  replace HB := hide (below_via (unhide HB) hG.below)
  have HT := hide (hG.row)
  clear hG
  go_wp2_with fail
  refine (put_ok s e _ l _ (unhide HT) (unhide Hc)).mono ?_
  rintro e w3 ⟨p, rfl, hG⟩
  replace HX := hide ((show Blk _ _ _ _ from unhide HX).keep hG.below)
  replace HR := hide ((show RowG _ _ _ _ from unhide HR).keep hG.below)
  replace HY := hide ((show RowG _ _ _ _ from unhide HY).keep hG.below)
  replace HT := hide ((show RowG _ _ _ _ from unhide HT).keep hG.below)
  replace HB := hide (below_via (unhide HB) hG.below)
  have HP := hide (hG.row)
  clear hG
  clear HT
  generalize hP : putN s e l = P at *
  replace hP := hide hP
  obtain ⟨ap, cp, rfl⟩ := rowG_slice (unhide HP)
  rw [bys_len, unhide Hm] at HP ⊢
  go_wp2_with fail
  refine (unhide HG1 _ _ (unhide HP)).mono ?_
  rintro e w4 ⟨u, rfl, hG⟩
  replace HX := hide ((show Blk _ _ _ _ from unhide HX).keep hG.below)
  replace HR := hide ((show RowG _ _ _ _ from unhide HR).keep hG.below)
  replace HY := hide ((show RowG _ _ _ _ from unhide HY).keep hG.below)
  replace HP := hide ((show RowG _ _ _ _ from unhide HP).keep hG.below)
  replace HB := hide (below_via (unhide HB) hG.below)
  have HU := hide (hG.row)
  clear hG
  obtain ⟨au, cu, rfl⟩ := rowG_slice (unhide HU)
  rw [List.length_map] at HU ⊢
  have HX0 := hide (Blk.new w4 #[.int .i64 0, .int .i64 0, .slice none 0 0] 32)
  have HA0 := hide (below1 w4 (.cells #[.int .i64 0, .int .i64 0, .slice none 0 0] 32))
  go_wp2_with (refine store_blk rfl 32 _ _ rfl (show Blk _ _ _ _ from unhide HX0) rfl rfl size32 rfl rfl rfl ?_)
  intro w5 kX kp
  have hb := kp.bel (Nat.le_refl _) (unhide HA0)
  replace HX := hide ((show Blk _ _ _ _ from unhide HX).keep hb)
  replace HR := hide ((show RowG _ _ _ _ from unhide HR).keep hb)
  replace HY := hide ((show RowG _ _ _ _ from unhide HY).keep hb)
  replace HP := hide ((show RowG _ _ _ _ from unhide HP).keep hb)
  replace HU := hide ((show RowG _ _ _ _ from unhide HU).keep hb)
  replace HB := hide (below_via (unhide HB) hb)
  have HW := hide kX
  clear kp kX HX0 HA0 hb
  generalize w4.heap.size = ca at *
  have f1 : wrap64 (a : Int) = (a : Int) := by have := unhide Ha; unfold wrap64; omega
  have f2 : (a : Int).tmod (m : Int) = (k : Int) := by rw [Int.tmod_eq_emod_of_nonneg (by omega), ← unhide Hk]; omega
  have HL := hide (rowB_hi (unhide HP) (show k ≤ m by have := unhide Hk; have := unhide Hm0; have := Nat.mod_lt a (unhide Hm0); omega))
  have q1 : (k : Int) ≤ (cp : Int) := by have := rowG_le (unhide HP); have := unhide Hk; have := Nat.mod_lt a (unhide Hm0); omega
  have kl : (k : Int) < (m : Int) := by have := unhide Hk; have := Nat.mod_lt a (unhide Hm0); omega
  go_wp2_with fail
  clear f1 f2 q1 kl
  refine (unhide HG2 _ _ (unhide HL)).mono ?_
  rintro e w6 ⟨u2, rfl, hG⟩
  replace HX := hide ((show Blk _ _ _ _ from unhide HX).keep hG.below)
  replace HR := hide ((show RowG _ _ _ _ from unhide HR).keep hG.below)
  replace HY := hide ((show RowG _ _ _ _ from unhide HY).keep hG.below)
  replace HP := hide ((show RowG _ _ _ _ from unhide HP).keep hG.below)
  replace HU := hide ((show RowG _ _ _ _ from unhide HU).keep hG.below)
  replace HW := hide ((show Blk _ _ _ _ from unhide HW).keep hG.below)
  replace HL := hide ((show RowG _ _ _ _ from unhide HL).keep hG.below)
  replace HB := hide (below_via (unhide HB) hG.below)
  have HU2 := hide (hG.row)
  clear hG
  obtain ⟨au2, cu2, rfl⟩ := rowG_slice (unhide HU2)
  clear HU2 HL
  have HX0 := hide (Blk.new w6 #[.int .i64 0, .int .i64 0, .slice none 0 0] 32)
  have HA0 := hide (below1 w6 (.cells #[.int .i64 0, .int .i64 0, .slice none 0 0] 32))
  go_wp2_with (refine store_blk rfl 32 _ _ rfl (show Blk _ _ _ _ from unhide HX0) rfl rfl size32 rfl rfl rfl ?_)
  intro w7 kX kp
  have hb := kp.bel (Nat.le_refl _) (unhide HA0)
  replace HX := hide ((show Blk _ _ _ _ from unhide HX).keep hb)
  replace HR := hide ((show RowG _ _ _ _ from unhide HR).keep hb)
  replace HY := hide ((show RowG _ _ _ _ from unhide HY).keep hb)
  replace HP := hide ((show RowG _ _ _ _ from unhide HP).keep hb)
  replace HU := hide ((show RowG _ _ _ _ from unhide HU).keep hb)
  replace HW := hide ((show Blk _ _ _ _ from unhide HW).keep hb)
  replace HB := hide (below_via (unhide HB) hb)
  have HW2 := hide kX
  clear kp kX HX0 HA0 hb
  generalize w6.heap.size = cb at *
  clear HW2
  have HG0 := hide (grow_new w7 [] (by simp [maxLen]) #[] rfl)
  have HR0 := hide ((show RowG _ _ _ _ from unhide HP).alloc (.cells #[] 5))
  go_wp2_with (at_builtin; refine pushB rfl _ _ rfl w7 _ _ _ [] P (unhide HG0) rfl rfl (by simpa [Act.eval, Act.put] using unhide HR0) (unhide Hl1) ?_)
  intro v w8 hG hS2
  have HG3 := hide (hG.alloc (.cells #[.int .u8 ((a : Int) % 256)] 5))
  have HN := hide (row_new w8 [a % 256] (by simp) (by simp [maxLen]) #[.int .u8 ((a : Int) % 256)] (by simp))
  clear hG hS2 HG0 HR0
  go_wp2_with (at_builtin; refine pushB rfl _ _ rfl w7 _ _ _ P [a % 256] (unhide HG3) rfl rfl (by simpa [Act.eval, Act.put] using unhide HN) (unhide Hl2) ?_)
  intro v9 w9 hG hS2
  replace HX := hide ((show Blk _ _ _ _ from unhide HX).keep hG.below)
  replace HR := hide ((show RowG _ _ _ _ from unhide HR).keep hG.below)
  replace HY := hide ((show RowG _ _ _ _ from unhide HY).keep hG.below)
  replace HP := hide ((show RowG _ _ _ _ from unhide HP).keep hG.below)
  replace HU := hide ((show RowG _ _ _ _ from unhide HU).keep hG.below)
  replace HW := hide ((show Blk _ _ _ _ from unhide HW).keep hG.below)
  replace HB := hide (below_via (unhide HB) hG.below)
  have HN9 := hide hG.row
  clear hG hS2 HG3 HN
  obtain ⟨a9, c9, rfl⟩ := rowG_slice (unhide HN9)
  go_wp2_with fail
  refine (unhide HG4 _ _ (unhide HN9)).mono ?_
  rintro e w10 ⟨u3, rfl, hG⟩
  replace HX := hide ((show Blk _ _ _ _ from unhide HX).keep hG.below)
  replace HR := hide ((show RowG _ _ _ _ from unhide HR).keep hG.below)
  replace HY := hide ((show RowG _ _ _ _ from unhide HY).keep hG.below)
  replace HP := hide ((show RowG _ _ _ _ from unhide HP).keep hG.below)
  replace HU := hide ((show RowG _ _ _ _ from unhide HU).keep hG.below)
  replace HW := hide ((show Blk _ _ _ _ from unhide HW).keep hG.below)
  replace HN9 := hide ((show RowG _ _ _ _ from unhide HN9).keep hG.below)
  replace HB := hide (below_via (unhide HB) hG.below)
  have HU3 := hide (hG.row)
  clear hG
  obtain ⟨au3, cu3, rfl⟩ := rowG_slice (unhide HU3)
  clear HU3 HN9
  have HX0 := hide (Blk.new w10 #[.int .i64 0, .int .i64 0, .slice none 0 0] 32)
  have HA0 := hide (below1 w10 (.cells #[.int .i64 0, .int .i64 0, .slice none 0 0] 32))
  go_wp2_with (refine store_blk rfl 32 _ _ rfl (show Blk _ _ _ _ from unhide HX0) rfl rfl size32 rfl rfl rfl ?_)
  intro w11 kX kp
  have hb := kp.bel (Nat.le_refl _) (unhide HA0)
  replace HX := hide ((show Blk _ _ _ _ from unhide HX).keep hb)
  replace HR := hide ((show RowG _ _ _ _ from unhide HR).keep hb)
  replace HY := hide ((show RowG _ _ _ _ from unhide HY).keep hb)
  replace HP := hide ((show RowG _ _ _ _ from unhide HP).keep hb)
  replace HU := hide ((show RowG _ _ _ _ from unhide HU).keep hb)
  replace HW := hide ((show Blk _ _ _ _ from unhide HW).keep hb)
  replace HB := hide (below_via (unhide HB) hb)
  have HW3 := hide kX
  clear kp kX HX0 HA0 hb
  generalize w10.heap.size = cc at *
  clear HW3
  clear HG1 HG2 HG4
  go_wp2_with fail
  refine wp_region_noPanic ?_
  refine wp_region_held_drew (S := fun W => Below w11.heap.size w11 W) (by kernel_rfl) (Below.refl _ _).drew (fun hS => ?_)
  have HXV := HX
  have HWV := HW
  have hb := hS
  replace HX := hide ((show Blk _ _ _ _ from unhide HX).keep hb)
  replace HR := hide ((show RowG _ _ _ _ from unhide HR).keep hb)
  replace HY := hide ((show RowG _ _ _ _ from unhide HY).keep hb)
  replace HP := hide ((show RowG _ _ _ _ from unhide HP).keep hb)
  replace HU := hide ((show RowG _ _ _ _ from unhide HU).keep hb)
  replace HW := hide ((show Blk _ _ _ _ from unhide HW).keep hb)
  replace HB := hide (below_via (unhide HB) hb)
  clear hb
  generalize w11.drew = w12 at *
  refine anyH_at (i := 0) (v := .int .i64 0) 65 rfl (by kernel_rfl) (by kernel_rfl) (by kernel_rfl) (by kernel_rfl) (fun _ _ _ h => h) (Or.inl ⟨by kernel_rfl, fun W hS => by go_simp⟩) hS ?_
  try simp only [Act.put, List.setIfInBounds_toArray, List.set_cons_zero, List.set_cons_succ]
  refine anyH_at (i := 1) (v := .bool false) 66 rfl (by kernel_rfl) (by kernel_rfl) (by kernel_rfl) (by kernel_rfl) (fun _ _ _ h => h) (Or.inl ⟨by kernel_rfl, fun W hS => by go_simp⟩) hS ?_
  try simp only [Act.put, List.setIfInBounds_toArray, List.set_cons_zero, List.set_cons_succ]
  refine anyH_at (i := 2) (v := .bool false) 67 rfl (by kernel_rfl) (by kernel_rfl) (by kernel_rfl) (by kernel_rfl) (fun _ _ _ h => h) (Or.inl ⟨by kernel_rfl, fun W hS => by go_simp⟩) hS ?_
  try simp only [Act.put, List.setIfInBounds_toArray, List.set_cons_zero, List.set_cons_succ]
  refine anyH_at (i := 3) (v := .agg #[.int .i64 s, .int .i64 e, .slice au l.length cu]) 68 rfl (by kernel_rfl) (by kernel_rfl) (by kernel_rfl) (by kernel_rfl) (fun _ _ _ h => h) (yl_blk (by kernel_rfl) 32 _ rfl rfl (fun W hS => (show Blk _ _ _ _ from unhide HWV).keep hS) row32 size32 rfl) hS ?_
  try simp only [Act.put, List.setIfInBounds_toArray, List.set_cons_zero, List.set_cons_succ]
  refine anyH_at (i := 5) (v := .agg #[.int .i64 s, .int .i64 e, .slice x n cap]) 70 rfl (by kernel_rfl) (by kernel_rfl) (by kernel_rfl) (by kernel_rfl) (fun _ _ _ h => h) (yl_blk (by kernel_rfl) 24 _ rfl rfl (fun W hS => (show Blk _ _ _ _ from unhide HXV).keep hS) row24 size24 rfl) hS ?_
  try simp only [Act.put, List.setIfInBounds_toArray, List.set_cons_zero, List.set_cons_succ]
  refine wpAnyH_all (rs := [4]) (by kernel_rfl) (by simp) (AllReadyH.cons (i := 4) rfl (fun KK hK => ?_) AllReadyH.nil)
  rw [if_pos (by kernel_rfl)]
  have hS0 := hide hS
  clear hS
  go_wp2_with fail
  refine (fromb_any s e _ l _ (unhide HU) (unhide Hle)).mono ?_
  rintro e w13 ⟨t, rfl, hG⟩
  replace HX := hide ((show Blk _ _ _ _ from unhide HX).keep hG.below)
  replace HR := hide ((show RowG _ _ _ _ from unhide HR).keep hG.below)
  replace HY := hide ((show RowG _ _ _ _ from unhide HY).keep hG.below)
  replace HP := hide ((show RowG _ _ _ _ from unhide HP).keep hG.below)
  replace HU := hide ((show RowG _ _ _ _ from unhide HU).keep hG.below)
  replace HW := hide ((show Blk _ _ _ _ from unhide HW).keep hG.below)
  replace HB := hide (below_via (unhide HB) hG.below)
  have HT := hide (hG.row)
  have hS1 := hide (below_via (unhide hS0) hG.below)
  clear hS0 hG
  go_wp2_with fail
  refine hK.out _ _ (unhide hS1) (fun hS => ?_)
  clear hK hS1
  try simp only [Act.put, List.setIfInBounds_toArray, List.set_cons_zero, List.set_cons_succ]
  refine wpAnyH_all (rs := [6]) (by kernel_rfl) (by simp) (AllReadyH.cons (i := 6) rfl (fun KK hK => ?_) AllReadyH.nil)
  rw [if_pos (by kernel_rfl)]
  have hS0 := hide hS
  clear hS
  go_wp2_with fail
  refine (eqb_to s e _ _ l _ (unhide HT) (unhide HR)).mono ?_
  rintro e w14 ⟨rfl, hb⟩
  replace HX := hide ((show Blk _ _ _ _ from unhide HX).keep hb)
  replace HR := hide ((show RowG _ _ _ _ from unhide HR).keep hb)
  replace HY := hide ((show RowG _ _ _ _ from unhide HY).keep hb)
  replace HP := hide ((show RowG _ _ _ _ from unhide HP).keep hb)
  replace HU := hide ((show RowG _ _ _ _ from unhide HU).keep hb)
  replace HW := hide ((show Blk _ _ _ _ from unhide HW).keep hb)
  replace HT := hide ((show RowG _ _ _ _ from unhide HT).keep hb)
  replace HB := hide (below_via (unhide HB) hb)
  have hS1 := hide (below_via (unhide hS0) hb)
  clear hS0 hb
  go_wp2_with fail
  refine hK.out _ _ (unhide hS1) (fun hS => ?_)
  clear hK hS1
  try simp only [Act.put, List.setIfInBounds_toArray, List.set_cons_zero, List.set_cons_succ]
  refine anyH_at (i := 7) (v := .bool false) 72 rfl (by kernel_rfl) (by kernel_rfl) (by kernel_rfl) (by kernel_rfl) (fun _ _ _ h => h) (Or.inl ⟨by kernel_rfl, fun W hS => by go_simp⟩) hS ?_
  try simp only [Act.put, List.setIfInBounds_toArray, List.set_cons_zero, List.set_cons_succ]
  refine anyH_at (i := 8) (v := .bool false) 73 rfl (by kernel_rfl) (by kernel_rfl) (by kernel_rfl) (by kernel_rfl) (fun _ _ _ h => h) (Or.inl ⟨by kernel_rfl, fun W hS => by go_simp⟩) hS ?_
  try simp only [Act.put, List.setIfInBounds_toArray, List.set_cons_zero, List.set_cons_succ]
  refine anyH_at (i := 9) (v := .bool false) 74 rfl (by kernel_rfl) (by kernel_rfl) (by kernel_rfl) (by kernel_rfl) (fun _ _ _ h => h) (Or.inl ⟨by kernel_rfl, fun W hS => by go_simp⟩) hS ?_
  try simp only [Act.put, List.setIfInBounds_toArray, List.set_cons_zero, List.set_cons_succ]
  refine anyH_at (i := 10) (v := .int .i64 14) 75 rfl (by kernel_rfl) (by kernel_rfl) (by kernel_rfl) (by kernel_rfl) (fun _ _ _ h => h) (Or.inl ⟨by kernel_rfl, fun W hS => by go_simp⟩) hS ?_
  try simp only [Act.put, List.setIfInBounds_toArray, List.set_cons_zero, List.set_cons_succ]
  refine anyH_at (i := 11) (v := .bool false) 76 rfl (by kernel_rfl) (by kernel_rfl) (by kernel_rfl) (by kernel_rfl) (fun _ _ _ h => h) (Or.inl ⟨by kernel_rfl, fun W hS => by go_simp⟩) hS ?_
  try simp only [Act.put, List.setIfInBounds_toArray, List.set_cons_zero, List.set_cons_succ]
  refine anyH_at (i := 12) (v := .bool false) 77 rfl (by kernel_rfl) (by kernel_rfl) (by kernel_rfl) (by kernel_rfl) (fun _ _ _ h => h) (Or.inl ⟨by kernel_rfl, fun W hS => by go_simp⟩) hS ?_
  try simp only [Act.put, List.setIfInBounds_toArray, List.set_cons_zero, List.set_cons_succ]
  refine anyH_at (i := 13) (v := undef) 78 rfl (by kernel_rfl) (by kernel_rfl) (by kernel_rfl) (by kernel_rfl) (fun _ _ _ h => h) (Or.inr ⟨by kernel_rfl, rfl⟩) hS ?_
  try simp only [Act.put, List.setIfInBounds_toArray, List.set_cons_zero, List.set_cons_succ]
  refine anyH_at (i := 14) (v := undef) 79 rfl (by kernel_rfl) (by kernel_rfl) (by kernel_rfl) (by kernel_rfl) (fun _ _ _ h => h) (Or.inr ⟨by kernel_rfl, rfl⟩) hS ?_
  try simp only [Act.put, List.setIfInBounds_toArray, List.set_cons_zero, List.set_cons_succ]
  refine anyH_at (i := 15) (v := .bool false) 80 rfl (by kernel_rfl) (by kernel_rfl) (by kernel_rfl) (by kernel_rfl) (fun _ _ _ h => h) (Or.inl ⟨by kernel_rfl, fun W hS => by go_simp⟩) hS ?_
  try simp only [Act.put, List.setIfInBounds_toArray, List.set_cons_zero, List.set_cons_succ]
  refine anyH_at (i := 16) (v := .bool false) 81 rfl (by kernel_rfl) (by kernel_rfl) (by kernel_rfl) (by kernel_rfl) (fun _ _ _ h => h) (Or.inl ⟨by kernel_rfl, fun W hS => by go_simp⟩) hS ?_
  try simp only [Act.put, List.setIfInBounds_toArray, List.set_cons_zero, List.set_cons_succ]
  refine anyH_at (i := 17) (v := .bool false) 82 rfl (by kernel_rfl) (by kernel_rfl) (by kernel_rfl) (by kernel_rfl) (fun _ _ _ h => h) (Or.inl ⟨by kernel_rfl, fun W hS => by go_simp⟩) hS ?_
  try simp only [Act.put, List.setIfInBounds_toArray, List.set_cons_zero, List.set_cons_succ]
  refine anyH_at (i := 18) (v := .int .i64 6) 83 rfl (by kernel_rfl) (by kernel_rfl) (by kernel_rfl) (by kernel_rfl) (fun _ _ _ h => h) (Or.inl ⟨by kernel_rfl, fun W hS => by go_simp⟩) hS ?_
  try simp only [Act.put, List.setIfInBounds_toArray, List.set_cons_zero, List.set_cons_succ]
  refine anyH_at (i := 19) (v := .bool false) 84 rfl (by kernel_rfl) (by kernel_rfl) (by kernel_rfl) (by kernel_rfl) (fun _ _ _ h => h) (Or.inl ⟨by kernel_rfl, fun W hS => by go_simp⟩) hS ?_
  try simp only [Act.put, List.setIfInBounds_toArray, List.set_cons_zero, List.set_cons_succ]
  refine anyH_at (i := 20) (v := .bool false) 85 rfl (by kernel_rfl) (by kernel_rfl) (by kernel_rfl) (by kernel_rfl) (fun _ _ _ h => h) (Or.inl ⟨by kernel_rfl, fun W hS => by go_simp⟩) hS ?_
  try simp only [Act.put, List.setIfInBounds_toArray, List.set_cons_zero, List.set_cons_succ]
  refine wpAnyH_done (by kernel_rfl) ?_ _
  clear hS
  refine noPanic_out ?_
  clear HXV
  clear HWV
  clear HW HU HT HP
  go_wp2_with fail
  refine (get_any _ xs _ (unhide HY) (unhide Hbx)).mono ?_
  rintro e w15 ⟨y, rfl, hG⟩
  replace HX := hide ((show Blk _ _ _ _ from unhide HX).keep hG.below)
  replace HR := hide ((show RowG _ _ _ _ from unhide HR).keep hG.below)
  replace HY := hide ((show RowG _ _ _ _ from unhide HY).keep hG.below)
  replace HB := hide (below_via (unhide HB) hG.below)
  have HV := hide (hG.row)
  clear hG
  obtain ⟨ay, cy, rfl⟩ := rowG_slice (unhide HV)
  rw [List.length_map] at HV ⊢
  have g2 : (getE xs != 0) = true := by rw [bne_iff_ne]; exact unhide HE
  obtain ⟨z1, z2, z3⟩ := zero_of (unhide HE)
  rw [z3] at HV
  rw [z1, z2, z3]
  clear z1 z2 z3
  generalize getE xs = E at *
  have HX0 := hide (Blk.new w15 #[.int .i64 0, .int .i64 0, .slice none 0 0] 32)
  have HA0 := hide (below1 w15 (.cells #[.int .i64 0, .int .i64 0, .slice none 0 0] 32))
  go_wp2_with (refine store_blk rfl 32 _ _ rfl (show Blk _ _ _ _ from unhide HX0) rfl rfl size32 rfl rfl rfl ?_)
  intro w16 kX kp
  have hb := kp.bel (Nat.le_refl _) (unhide HA0)
  replace HX := hide ((show Blk _ _ _ _ from unhide HX).keep hb)
  replace HR := hide ((show RowG _ _ _ _ from unhide HR).keep hb)
  replace HY := hide ((show RowG _ _ _ _ from unhide HY).keep hb)
  replace HV := hide ((show RowG _ _ _ _ from unhide HV).keep hb)
  replace HB := hide (below_via (unhide HB) hb)
  have HQ := hide kX
  clear kp kX HX0 HA0 hb
  generalize w15.heap.size = cq at *
  have c3 := (show Blk _ _ _ _ from unhide HQ).at 2 _ rfl
  go_wp2_with fail
  go_ret
  exact ⟨rfl, unhide HB⟩
set_option maxHeartbeats 16000000 in
theorem s_yy (s e : Int) (x : Option Addr) (n cap : Nat) (x1 : Option Addr) (n1 cap1 : Nat) (a : Nat) (l : List Li) (xs : List Nat) (d1 : decide ((300 : Int) < (n : Int)) = false) (d2 : decide ((3000 : Int) < (n1 : Int)) = false) (Hc : Hid (chkB s e l = 0)) (k m : Nat) (Ha : Hid (a ≤ 65535)) (Hk : Hid (a % m = k)) (Hm : Hid ((putN s e l).length = m)) (Hm0 : Hid (0 < m)) (Hl1 : Hid (([] : List Nat).length + (putN s e l).length ≤ 1000000)) (Hl2 : Hid ((putN s e l).length + [a % 256].length ≤ 1000000)) (HE : Hid (getE xs = 0)) (Hle : Hid (l.length ≤ 10000)) (Hbx : Hid (Bytes xs)) (w : World) (HR : Hid (RowG 2 w (.slice x n cap) (l.map liL))) (HY : Hid (RowG 1 w (.slice x1 n1 cap1) (bys xs))) : Calls Try.prog 5 #[.agg #[.int .i64 s, .int .i64 e, .slice x n cap], .slice x1 n1 cap1, .int .u16 (a : Int)] w fun r w' => r = .returned (.bool true) ∧ Below w.heap.size w w' := by
  have HX := hide (Blk.new w #[.int .i64 s, .int .i64 e, .slice x n cap] 24)
  have HB := hide (below1 w (.cells #[.int .i64 s, .int .i64 e, .slice x n cap] 24))
  have HG1 := hide (fun v W h => get_any v (putN s e l) W h (putN_bytes _ _ _))
  obtain ⟨a0, a1, a2, a3⟩ := put_get (unhide Hc)
  rw [a0, a1, a2, a3] at HG1
  clear a0 a1 a2 a3
  have HG2 := hide (fun v W h => get_any v ((putN s e l).take k) W h (bytes_take (putN_bytes _ _ _) _))
  have e2 := get_less (s := s) (e := e) (l := l) (chkB_len (unhide Hc)) (k := k) (by have := unhide Hk; have := Nat.mod_lt a (unhide Hm0); rw [unhide Hm]; omega)
  obtain ⟨z1, z2, z3⟩ := zero_of (xs := (putN s e l).take k) (by rw [e2]; decide)
  rw [e2, z1, z2, z3] at HG2
  clear e2 z1 z2 z3
  have HG4 := hide (fun v W h => get_any v (putN s e l ++ [a % 256]) W h ((putN_bytes _ _ _).app (fun c hc => by simp at hc; omega)))
  have e2 := get_more (s := s) (e := e) (l := l) (chkB_len (unhide Hc)) (a % 256)
  obtain ⟨z1, z2, z3⟩ := zero_of (xs := putN s e l ++ [a % 256]) (by rw [e2]; decide)
  rw [e2, z1, z2, z3] at HG4
  clear e2 z1 z2 z3
  replace HR := hide ((show RowG _ _ _ _ from unhide HR).alloc (.cells #[.int .i64 s, .int .i64 e, .slice x n cap] 24))
  replace HY := hide ((show RowG _ _ _ _ from unhide HY).alloc (.cells #[.int .i64 s, .int .i64 e, .slice x n cap] 24))
  go_enter Try.func5, Try.ntmps5
  go_wp2_with fail
  generalize w.alloc (.cells #[.int .i64 s, .int .i64 e, .slice x n cap] 24) = w0 at *
  refine (alive_any _).mono ?_
  rintro e w1 ⟨rfl, hb⟩
  replace HX := hide ((show Blk _ _ _ _ from unhide HX).keep hb)
  replace HR := hide ((show RowG _ _ _ _ from unhide HR).keep hb)
  replace HY := hide ((show RowG _ _ _ _ from unhide HY).keep hb)
  replace HB := hide (below_via (unhide HB) hb)
  have c2 := (show Blk _ _ _ _ from unhide HX).at 2 _ rfl
  go_wp2_with (refine load_blk rfl 24 _ rfl (show Blk _ _ _ _ from unhide HX) rfl row24 size24 rfl ?_)
  refine (tob_any s e _ l _ (unhide HR) (unhide Hle)).mono ?_
  rintro e w2 ⟨t, rfl, hG⟩
  replace HX := hide ((show Blk _ _ _ _ from unhide HX).keep hG.below)
  replace HR := hide ((show RowG _ _ _ _ from unhide HR).keep hG.below)
  replace HY := hide ((show RowG _ _ _ _ from unhide HY).keep hG.below)
  replace HB := hide (below_via (unhide HB) hG.below)
  have HT := hide (hG.row)
  clear hG
  go_wp2_with fail
  refine (put_ok s e _ l _ (unhide HT) (unhide Hc)).mono ?_
  rintro e w3 ⟨p, rfl, hG⟩
  replace HX := hide ((show Blk _ _ _ _ from unhide HX).keep hG.below)
  replace HR := hide ((show RowG _ _ _ _ from unhide HR).keep hG.below)
  replace HY := hide ((show RowG _ _ _ _ from unhide HY).keep hG.below)
  replace HT := hide ((show RowG _ _ _ _ from unhide HT).keep hG.below)
  replace HB := hide (below_via (unhide HB) hG.below)
  have HP := hide (hG.row)
  clear hG
  clear HT
  generalize hP : putN s e l = P at *
  replace hP := hide hP
  obtain ⟨ap, cp, rfl⟩ := rowG_slice (unhide HP)
  rw [bys_len, unhide Hm] at HP ⊢
  go_wp2_with fail
  refine (unhide HG1 _ _ (unhide HP)).mono ?_
  rintro e w4 ⟨u, rfl, hG⟩
  replace HX := hide ((show Blk _ _ _ _ from unhide HX).keep hG.below)
  replace HR := hide ((show RowG _ _ _ _ from unhide HR).keep hG.below)
  replace HY := hide ((show RowG _ _ _ _ from unhide HY).keep hG.below)
  replace HP := hide ((show RowG _ _ _ _ from unhide HP).keep hG.below)
  replace HB := hide (below_via (unhide HB) hG.below)
  have HU := hide (hG.row)
  clear hG
  obtain ⟨au, cu, rfl⟩ := rowG_slice (unhide HU)
  rw [List.length_map] at HU ⊢
  have HX0 := hide (Blk.new w4 #[.int .i64 0, .int .i64 0, .slice none 0 0] 32)
  have HA0 := hide (below1 w4 (.cells #[.int .i64 0, .int .i64 0, .slice none 0 0] 32))
  go_wp2_with (refine store_blk rfl 32 _ _ rfl (show Blk _ _ _ _ from unhide HX0) rfl rfl size32 rfl rfl rfl ?_)
  intro w5 kX kp
  have hb := kp.bel (Nat.le_refl _) (unhide HA0)
  replace HX := hide ((show Blk _ _ _ _ from unhide HX).keep hb)
  replace HR := hide ((show RowG _ _ _ _ from unhide HR).keep hb)
  replace HY := hide ((show RowG _ _ _ _ from unhide HY).keep hb)
  replace HP := hide ((show RowG _ _ _ _ from unhide HP).keep hb)
  replace HU := hide ((show RowG _ _ _ _ from unhide HU).keep hb)
  replace HB := hide (below_via (unhide HB) hb)
  have HW := hide kX
  clear kp kX HX0 HA0 hb
  generalize w4.heap.size = ca at *
  have f1 : wrap64 (a : Int) = (a : Int) := by have := unhide Ha; unfold wrap64; omega
  have f2 : (a : Int).tmod (m : Int) = (k : Int) := by rw [Int.tmod_eq_emod_of_nonneg (by omega), ← unhide Hk]; omega
  have HL := hide (rowB_hi (unhide HP) (show k ≤ m by have := unhide Hk; have := unhide Hm0; have := Nat.mod_lt a (unhide Hm0); omega))
  have q1 : (k : Int) ≤ (cp : Int) := by have := rowG_le (unhide HP); have := unhide Hk; have := Nat.mod_lt a (unhide Hm0); omega
  have kl : (k : Int) < (m : Int) := by have := unhide Hk; have := Nat.mod_lt a (unhide Hm0); omega
  go_wp2_with fail
  clear f1 f2 q1 kl
  refine (unhide HG2 _ _ (unhide HL)).mono ?_
  rintro e w6 ⟨u2, rfl, hG⟩
  replace HX := hide ((show Blk _ _ _ _ from unhide HX).keep hG.below)
  replace HR := hide ((show RowG _ _ _ _ from unhide HR).keep hG.below)
  replace HY := hide ((show RowG _ _ _ _ from unhide HY).keep hG.below)
  replace HP := hide ((show RowG _ _ _ _ from unhide HP).keep hG.below)
  replace HU := hide ((show RowG _ _ _ _ from unhide HU).keep hG.below)
  replace HW := hide ((show Blk _ _ _ _ from unhide HW).keep hG.below)
  replace HL := hide ((show RowG _ _ _ _ from unhide HL).keep hG.below)
  replace HB := hide (below_via (unhide HB) hG.below)
  have HU2 := hide (hG.row)
  clear hG
  obtain ⟨au2, cu2, rfl⟩ := rowG_slice (unhide HU2)
  clear HU2 HL
  have HX0 := hide (Blk.new w6 #[.int .i64 0, .int .i64 0, .slice none 0 0] 32)
  have HA0 := hide (below1 w6 (.cells #[.int .i64 0, .int .i64 0, .slice none 0 0] 32))
  go_wp2_with (refine store_blk rfl 32 _ _ rfl (show Blk _ _ _ _ from unhide HX0) rfl rfl size32 rfl rfl rfl ?_)
  intro w7 kX kp
  have hb := kp.bel (Nat.le_refl _) (unhide HA0)
  replace HX := hide ((show Blk _ _ _ _ from unhide HX).keep hb)
  replace HR := hide ((show RowG _ _ _ _ from unhide HR).keep hb)
  replace HY := hide ((show RowG _ _ _ _ from unhide HY).keep hb)
  replace HP := hide ((show RowG _ _ _ _ from unhide HP).keep hb)
  replace HU := hide ((show RowG _ _ _ _ from unhide HU).keep hb)
  replace HW := hide ((show Blk _ _ _ _ from unhide HW).keep hb)
  replace HB := hide (below_via (unhide HB) hb)
  have HW2 := hide kX
  clear kp kX HX0 HA0 hb
  generalize w6.heap.size = cb at *
  clear HW2
  have HG0 := hide (grow_new w7 [] (by simp [maxLen]) #[] rfl)
  have HR0 := hide ((show RowG _ _ _ _ from unhide HP).alloc (.cells #[] 5))
  go_wp2_with (at_builtin; refine pushB rfl _ _ rfl w7 _ _ _ [] P (unhide HG0) rfl rfl (by simpa [Act.eval, Act.put] using unhide HR0) (unhide Hl1) ?_)
  intro v w8 hG hS2
  have HG3 := hide (hG.alloc (.cells #[.int .u8 ((a : Int) % 256)] 5))
  have HN := hide (row_new w8 [a % 256] (by simp) (by simp [maxLen]) #[.int .u8 ((a : Int) % 256)] (by simp))
  clear hG hS2 HG0 HR0
  go_wp2_with (at_builtin; refine pushB rfl _ _ rfl w7 _ _ _ P [a % 256] (unhide HG3) rfl rfl (by simpa [Act.eval, Act.put] using unhide HN) (unhide Hl2) ?_)
  intro v9 w9 hG hS2
  replace HX := hide ((show Blk _ _ _ _ from unhide HX).keep hG.below)
  replace HR := hide ((show RowG _ _ _ _ from unhide HR).keep hG.below)
  replace HY := hide ((show RowG _ _ _ _ from unhide HY).keep hG.below)
  replace HP := hide ((show RowG _ _ _ _ from unhide HP).keep hG.below)
  replace HU := hide ((show RowG _ _ _ _ from unhide HU).keep hG.below)
  replace HW := hide ((show Blk _ _ _ _ from unhide HW).keep hG.below)
  replace HB := hide (below_via (unhide HB) hG.below)
  have HN9 := hide hG.row
  clear hG hS2 HG3 HN
  obtain ⟨a9, c9, rfl⟩ := rowG_slice (unhide HN9)
  go_wp2_with fail
  refine (unhide HG4 _ _ (unhide HN9)).mono ?_
  rintro e w10 ⟨u3, rfl, hG⟩
  replace HX := hide ((show Blk _ _ _ _ from unhide HX).keep hG.below)
  replace HR := hide ((show RowG _ _ _ _ from unhide HR).keep hG.below)
  replace HY := hide ((show RowG _ _ _ _ from unhide HY).keep hG.below)
  replace HP := hide ((show RowG _ _ _ _ from unhide HP).keep hG.below)
  replace HU := hide ((show RowG _ _ _ _ from unhide HU).keep hG.below)
  replace HW := hide ((show Blk _ _ _ _ from unhide HW).keep hG.below)
  replace HN9 := hide ((show RowG _ _ _ _ from unhide HN9).keep hG.below)
  replace HB := hide (below_via (unhide HB) hG.below)
  have HU3 := hide (hG.row)
  clear hG
  obtain ⟨au3, cu3, rfl⟩ := rowG_slice (unhide HU3)
  clear HU3 HN9
  have HX0 := hide (Blk.new w10 #[.int .i64 0, .int .i64 0, .slice none 0 0] 32)
  have HA0 := hide (below1 w10 (.cells #[.int .i64 0, .int .i64 0, .slice none 0 0] 32))
  go_wp2_with (refine store_blk rfl 32 _ _ rfl (show Blk _ _ _ _ from unhide HX0) rfl rfl size32 rfl rfl rfl ?_)
  intro w11 kX kp
  have hb := kp.bel (Nat.le_refl _) (unhide HA0)
  replace HX := hide ((show Blk _ _ _ _ from unhide HX).keep hb)
  replace HR := hide ((show RowG _ _ _ _ from unhide HR).keep hb)
  replace HY := hide ((show RowG _ _ _ _ from unhide HY).keep hb)
  replace HP := hide ((show RowG _ _ _ _ from unhide HP).keep hb)
  replace HU := hide ((show RowG _ _ _ _ from unhide HU).keep hb)
  replace HW := hide ((show Blk _ _ _ _ from unhide HW).keep hb)
  replace HB := hide (below_via (unhide HB) hb)
  have HW3 := hide kX
  clear kp kX HX0 HA0 hb
  generalize w10.heap.size = cc at *
  clear HW3
  clear HG1 HG2 HG4
  go_wp2_with fail
  refine wp_region_noPanic ?_
  refine wp_region_held_drew (S := fun W => Below w11.heap.size w11 W) (by kernel_rfl) (Below.refl _ _).drew (fun hS => ?_)
  have HXV := HX
  have HWV := HW
  have hb := hS
  replace HX := hide ((show Blk _ _ _ _ from unhide HX).keep hb)
  replace HR := hide ((show RowG _ _ _ _ from unhide HR).keep hb)
  replace HY := hide ((show RowG _ _ _ _ from unhide HY).keep hb)
  replace HP := hide ((show RowG _ _ _ _ from unhide HP).keep hb)
  replace HU := hide ((show RowG _ _ _ _ from unhide HU).keep hb)
  replace HW := hide ((show Blk _ _ _ _ from unhide HW).keep hb)
  replace HB := hide (below_via (unhide HB) hb)
  clear hb
  generalize w11.drew = w12 at *
  refine anyH_at (i := 0) (v := .int .i64 0) 65 rfl (by kernel_rfl) (by kernel_rfl) (by kernel_rfl) (by kernel_rfl) (fun _ _ _ h => h) (Or.inl ⟨by kernel_rfl, fun W hS => by go_simp⟩) hS ?_
  try simp only [Act.put, List.setIfInBounds_toArray, List.set_cons_zero, List.set_cons_succ]
  refine anyH_at (i := 1) (v := .bool false) 66 rfl (by kernel_rfl) (by kernel_rfl) (by kernel_rfl) (by kernel_rfl) (fun _ _ _ h => h) (Or.inl ⟨by kernel_rfl, fun W hS => by go_simp⟩) hS ?_
  try simp only [Act.put, List.setIfInBounds_toArray, List.set_cons_zero, List.set_cons_succ]
  refine anyH_at (i := 2) (v := .bool false) 67 rfl (by kernel_rfl) (by kernel_rfl) (by kernel_rfl) (by kernel_rfl) (fun _ _ _ h => h) (Or.inl ⟨by kernel_rfl, fun W hS => by go_simp⟩) hS ?_
  try simp only [Act.put, List.setIfInBounds_toArray, List.set_cons_zero, List.set_cons_succ]
  refine anyH_at (i := 3) (v := .agg #[.int .i64 s, .int .i64 e, .slice au l.length cu]) 68 rfl (by kernel_rfl) (by kernel_rfl) (by kernel_rfl) (by kernel_rfl) (fun _ _ _ h => h) (yl_blk (by kernel_rfl) 32 _ rfl rfl (fun W hS => (show Blk _ _ _ _ from unhide HWV).keep hS) row32 size32 rfl) hS ?_
  try simp only [Act.put, List.setIfInBounds_toArray, List.set_cons_zero, List.set_cons_succ]
  refine anyH_at (i := 5) (v := .agg #[.int .i64 s, .int .i64 e, .slice x n cap]) 70 rfl (by kernel_rfl) (by kernel_rfl) (by kernel_rfl) (by kernel_rfl) (fun _ _ _ h => h) (yl_blk (by kernel_rfl) 24 _ rfl rfl (fun W hS => (show Blk _ _ _ _ from unhide HXV).keep hS) row24 size24 rfl) hS ?_
  try simp only [Act.put, List.setIfInBounds_toArray, List.set_cons_zero, List.set_cons_succ]
  refine wpAnyH_all (rs := [4]) (by kernel_rfl) (by simp) (AllReadyH.cons (i := 4) rfl (fun KK hK => ?_) AllReadyH.nil)
  rw [if_pos (by kernel_rfl)]
  have hS0 := hide hS
  clear hS
  go_wp2_with fail
  refine (fromb_any s e _ l _ (unhide HU) (unhide Hle)).mono ?_
  rintro e w13 ⟨t, rfl, hG⟩
  replace HX := hide ((show Blk _ _ _ _ from unhide HX).keep hG.below)
  replace HR := hide ((show RowG _ _ _ _ from unhide HR).keep hG.below)
  replace HY := hide ((show RowG _ _ _ _ from unhide HY).keep hG.below)
  replace HP := hide ((show RowG _ _ _ _ from unhide HP).keep hG.below)
  replace HU := hide ((show RowG _ _ _ _ from unhide HU).keep hG.below)
  replace HW := hide ((show Blk _ _ _ _ from unhide HW).keep hG.below)
  replace HB := hide (below_via (unhide HB) hG.below)
  have HT := hide (hG.row)
  have hS1 := hide (below_via (unhide hS0) hG.below)
  clear hS0 hG
  go_wp2_with fail
  refine hK.out _ _ (unhide hS1) (fun hS => ?_)
  clear hK hS1
  try simp only [Act.put, List.setIfInBounds_toArray, List.set_cons_zero, List.set_cons_succ]
  refine wpAnyH_all (rs := [6]) (by kernel_rfl) (by simp) (AllReadyH.cons (i := 6) rfl (fun KK hK => ?_) AllReadyH.nil)
  rw [if_pos (by kernel_rfl)]
  have hS0 := hide hS
  clear hS
  go_wp2_with fail
  refine (eqb_to s e _ _ l _ (unhide HT) (unhide HR)).mono ?_
  rintro e w14 ⟨rfl, hb⟩
  replace HX := hide ((show Blk _ _ _ _ from unhide HX).keep hb)
  replace HR := hide ((show RowG _ _ _ _ from unhide HR).keep hb)
  replace HY := hide ((show RowG _ _ _ _ from unhide HY).keep hb)
  replace HP := hide ((show RowG _ _ _ _ from unhide HP).keep hb)
  replace HU := hide ((show RowG _ _ _ _ from unhide HU).keep hb)
  replace HW := hide ((show Blk _ _ _ _ from unhide HW).keep hb)
  replace HT := hide ((show RowG _ _ _ _ from unhide HT).keep hb)
  replace HB := hide (below_via (unhide HB) hb)
  have hS1 := hide (below_via (unhide hS0) hb)
  clear hS0 hb
  go_wp2_with fail
  refine hK.out _ _ (unhide hS1) (fun hS => ?_)
  clear hK hS1
  try simp only [Act.put, List.setIfInBounds_toArray, List.set_cons_zero, List.set_cons_succ]
  refine anyH_at (i := 7) (v := .bool false) 72 rfl (by kernel_rfl) (by kernel_rfl) (by kernel_rfl) (by kernel_rfl) (fun _ _ _ h => h) (Or.inl ⟨by kernel_rfl, fun W hS => by go_simp⟩) hS ?_
  try simp only [Act.put, List.setIfInBounds_toArray, List.set_cons_zero, List.set_cons_succ]
  refine anyH_at (i := 8) (v := .bool false) 73 rfl (by kernel_rfl) (by kernel_rfl) (by kernel_rfl) (by kernel_rfl) (fun _ _ _ h => h) (Or.inl ⟨by kernel_rfl, fun W hS => by go_simp⟩) hS ?_
  try simp only [Act.put, List.setIfInBounds_toArray, List.set_cons_zero, List.set_cons_succ]
  refine anyH_at (i := 9) (v := .bool false) 74 rfl (by kernel_rfl) (by kernel_rfl) (by kernel_rfl) (by kernel_rfl) (fun _ _ _ h => h) (Or.inl ⟨by kernel_rfl, fun W hS => by go_simp⟩) hS ?_
  try simp only [Act.put, List.setIfInBounds_toArray, List.set_cons_zero, List.set_cons_succ]
  refine anyH_at (i := 10) (v := .int .i64 14) 75 rfl (by kernel_rfl) (by kernel_rfl) (by kernel_rfl) (by kernel_rfl) (fun _ _ _ h => h) (Or.inl ⟨by kernel_rfl, fun W hS => by go_simp⟩) hS ?_
  try simp only [Act.put, List.setIfInBounds_toArray, List.set_cons_zero, List.set_cons_succ]
  refine anyH_at (i := 11) (v := .bool false) 76 rfl (by kernel_rfl) (by kernel_rfl) (by kernel_rfl) (by kernel_rfl) (fun _ _ _ h => h) (Or.inl ⟨by kernel_rfl, fun W hS => by go_simp⟩) hS ?_
  try simp only [Act.put, List.setIfInBounds_toArray, List.set_cons_zero, List.set_cons_succ]
  refine anyH_at (i := 12) (v := .bool false) 77 rfl (by kernel_rfl) (by kernel_rfl) (by kernel_rfl) (by kernel_rfl) (fun _ _ _ h => h) (Or.inl ⟨by kernel_rfl, fun W hS => by go_simp⟩) hS ?_
  try simp only [Act.put, List.setIfInBounds_toArray, List.set_cons_zero, List.set_cons_succ]
  refine anyH_at (i := 13) (v := undef) 78 rfl (by kernel_rfl) (by kernel_rfl) (by kernel_rfl) (by kernel_rfl) (fun _ _ _ h => h) (Or.inr ⟨by kernel_rfl, rfl⟩) hS ?_
  try simp only [Act.put, List.setIfInBounds_toArray, List.set_cons_zero, List.set_cons_succ]
  refine anyH_at (i := 14) (v := undef) 79 rfl (by kernel_rfl) (by kernel_rfl) (by kernel_rfl) (by kernel_rfl) (fun _ _ _ h => h) (Or.inr ⟨by kernel_rfl, rfl⟩) hS ?_
  try simp only [Act.put, List.setIfInBounds_toArray, List.set_cons_zero, List.set_cons_succ]
  refine anyH_at (i := 15) (v := .bool false) 80 rfl (by kernel_rfl) (by kernel_rfl) (by kernel_rfl) (by kernel_rfl) (fun _ _ _ h => h) (Or.inl ⟨by kernel_rfl, fun W hS => by go_simp⟩) hS ?_
  try simp only [Act.put, List.setIfInBounds_toArray, List.set_cons_zero, List.set_cons_succ]
  refine anyH_at (i := 16) (v := .bool false) 81 rfl (by kernel_rfl) (by kernel_rfl) (by kernel_rfl) (by kernel_rfl) (fun _ _ _ h => h) (Or.inl ⟨by kernel_rfl, fun W hS => by go_simp⟩) hS ?_
  try simp only [Act.put, List.setIfInBounds_toArray, List.set_cons_zero, List.set_cons_succ]
  refine anyH_at (i := 17) (v := .bool false) 82 rfl (by kernel_rfl) (by kernel_rfl) (by kernel_rfl) (by kernel_rfl) (fun _ _ _ h => h) (Or.inl ⟨by kernel_rfl, fun W hS => by go_simp⟩) hS ?_
  try simp only [Act.put, List.setIfInBounds_toArray, List.set_cons_zero, List.set_cons_succ]
  refine anyH_at (i := 18) (v := .int .i64 6) 83 rfl (by kernel_rfl) (by kernel_rfl) (by kernel_rfl) (by kernel_rfl) (fun _ _ _ h => h) (Or.inl ⟨by kernel_rfl, fun W hS => by go_simp⟩) hS ?_
  try simp only [Act.put, List.setIfInBounds_toArray, List.set_cons_zero, List.set_cons_succ]
  refine anyH_at (i := 19) (v := .bool false) 84 rfl (by kernel_rfl) (by kernel_rfl) (by kernel_rfl) (by kernel_rfl) (fun _ _ _ h => h) (Or.inl ⟨by kernel_rfl, fun W hS => by go_simp⟩) hS ?_
  try simp only [Act.put, List.setIfInBounds_toArray, List.set_cons_zero, List.set_cons_succ]
  refine anyH_at (i := 20) (v := .bool false) 85 rfl (by kernel_rfl) (by kernel_rfl) (by kernel_rfl) (by kernel_rfl) (fun _ _ _ h => h) (Or.inl ⟨by kernel_rfl, fun W hS => by go_simp⟩) hS ?_
  try simp only [Act.put, List.setIfInBounds_toArray, List.set_cons_zero, List.set_cons_succ]
  refine wpAnyH_done (by kernel_rfl) ?_ _
  clear hS
  refine noPanic_out ?_
  clear HXV
  clear HWV
  clear HW HU HT HP
  go_wp2_with fail
  refine (get_any _ xs _ (unhide HY) (unhide Hbx)).mono ?_
  rintro e w15 ⟨y, rfl, hG⟩
  replace HX := hide ((show Blk _ _ _ _ from unhide HX).keep hG.below)
  replace HR := hide ((show RowG _ _ _ _ from unhide HR).keep hG.below)
  replace HY := hide ((show RowG _ _ _ _ from unhide HY).keep hG.below)
  replace HB := hide (below_via (unhide HB) hG.below)
  have HV := hide (hG.row)
  clear hG
  obtain ⟨ay, cy, rfl⟩ := rowG_slice (unhide HV)
  rw [List.length_map] at HV ⊢
  rw [unhide HE]
  have hput := hide (get_put (unhide Hbx) (unhide HE))
  have hchk := hide (chk_of (unhide HE))
  have g2 : ((0 : Int) != 0) = false := by decide
  generalize getS xs = gs at *
  generalize getV xs = gv at *
  generalize getL xs = gl at *
  have HX0 := hide (Blk.new w15 #[.int .i64 0, .int .i64 0, .slice none 0 0] 32)
  have HA0 := hide (below1 w15 (.cells #[.int .i64 0, .int .i64 0, .slice none 0 0] 32))
  go_wp2_with (refine store_blk rfl 32 _ _ rfl (show Blk _ _ _ _ from unhide HX0) rfl rfl size32 rfl rfl rfl ?_)
  intro w16 kX kp
  have hb := kp.bel (Nat.le_refl _) (unhide HA0)
  replace HX := hide ((show Blk _ _ _ _ from unhide HX).keep hb)
  replace HR := hide ((show RowG _ _ _ _ from unhide HR).keep hb)
  replace HY := hide ((show RowG _ _ _ _ from unhide HY).keep hb)
  replace HV := hide ((show RowG _ _ _ _ from unhide HV).keep hb)
  replace HB := hide (below_via (unhide HB) hb)
  have HQ := hide kX
  clear kp kX HX0 HA0 hb
  generalize w15.heap.size = cq at *
  go_wp2_with (refine load_blk rfl 32 _ rfl (show Blk _ _ _ _ from unhide HQ) rfl row32 size32 rfl ?_)
  refine (put_ok gs gv _ gl _ (unhide HV) (unhide hchk)).mono ?_
  rintro e w17 ⟨z, rfl, hG⟩
  replace HX := hide ((show Blk _ _ _ _ from unhide HX).keep hG.below)
  replace HR := hide ((show RowG _ _ _ _ from unhide HR).keep hG.below)
  replace HY := hide ((show RowG _ _ _ _ from unhide HY).keep hG.below)
  replace HV := hide ((show RowG _ _ _ _ from unhide HV).keep hG.below)
  replace HQ := hide ((show Blk _ _ _ _ from unhide HQ).keep hG.below)
  replace HB := hide (below_via (unhide HB) hG.below)
  have HZ := hide (hG.row)
  clear hG
  rw [unhide hput] at HZ
  obtain ⟨az, cz, rfl⟩ := rowG_slice (unhide HZ)
  go_wp2_with fail
  refine (beq_to _ _ xs _ (unhide HZ) (unhide HY)).mono ?_
  rintro e w18 ⟨rfl, hb⟩
  replace HX := hide ((show Blk _ _ _ _ from unhide HX).keep hb)
  replace HR := hide ((show RowG _ _ _ _ from unhide HR).keep hb)
  replace HY := hide ((show RowG _ _ _ _ from unhide HY).keep hb)
  replace HV := hide ((show RowG _ _ _ _ from unhide HV).keep hb)
  replace HQ := hide ((show Blk _ _ _ _ from unhide HQ).keep hb)
  replace HZ := hide ((show RowG _ _ _ _ from unhide HZ).keep hb)
  replace HB := hide (below_via (unhide HB) hb)
  go_wp2_with fail
  go_ret
  exact ⟨rfl, unhide HB⟩
theorem walk (s e : Int) (x : Option Addr) (n cap : Nat) (l : List Li) (x1 : Option Addr) (n1 cap1 : Nat) (xs : List Nat) (at1 : Int) (w : World) (h : RowG 2 w (.slice x n cap) (l.map liL)) (hi : AllIn l) (h1 : RowG 1 w (.slice x1 n1 cap1) (bys xs)) (hb : Bytes xs) (ia : 0 ≤ at1 ∧ at1 ≤ 65535) : Calls Try.prog 5 #[.agg #[.int .i64 s, .int .i64 e, .slice x n cap], .slice x1 n1 cap1, .int .u16 at1] w fun r w' => r = .returned (.bool true) ∧ Below w.heap.size w w' := by
  have hl := rowG_len h
  rw [List.length_map] at hl
  have hl1 := rowB_len h1
  obtain ⟨a, rfl⟩ : ∃ a : Nat, at1 = (a : Int) := ⟨at1.toNat, by omega⟩
  by_cases q1 : 300 < n
  · exact s_long s e x n cap x1 n1 cap1 a (decide_eq_true (by omega)) w
  by_cases q2 : 3000 < n1
  · exact s_much s e x n cap x1 n1 cap1 a (decide_eq_false (by omega)) (decide_eq_true (by omega)) w
  have D1 : decide ((300 : Int) < (n : Int)) = false := decide_eq_false (by omega)
  have D2 : decide ((3000 : Int) < (n1 : Int)) = false := decide_eq_false (by omega)
  have hp := putN_len s e l
  by_cases q3 : chkB s e l = 0
  case neg =>
    have G : (chkB s e l == 0) = false := by rw [beq_eq_false_iff_ne]; exact q3
    by_cases q4 : getE xs = 0
    · exact s_ny s e x n cap x1 n1 cap1 a l xs D1 D2 G (hide q4) (hide (by omega)) (hide hb) w (hide h) (hide h1)
    · exact s_nn s e x n cap x1 n1 cap1 a l xs D1 D2 G (hide q4) (hide (by omega)) (hide hb) w (hide h) (hide h1)
  by_cases q4 : getE xs = 0
  · exact s_yy s e x n cap x1 n1 cap1 a l xs D1 D2 (hide q3) _ _ (hide (by omega)) (hide rfl) (hide rfl) (hide (by omega)) (hide (by simp; omega)) (hide (by simp; omega)) (hide q4) (hide (by omega)) (hide hb) w (hide h) (hide h1)
  · exact s_yn s e x n cap x1 n1 cap1 a l xs D1 D2 (hide q3) _ _ (hide (by omega)) (hide rfl) (hide rfl) (hide (by omega)) (hide (by simp; omega)) (hide (by simp; omega)) (hide q4) (hide (by omega)) (hide hb) w (hide h) (hide h1)
theorem own : ownKnob Try.prog.godebug = none := by kernel_rfl
theorem laidOut : laidOutB Try.prog = true := by kernel_rfl
set_option linter.unusedVariables false in
set_option maxRecDepth 100000 in
theorem lifted (os : Os) (started : os.Started) (H : Type) (enc : TypeId × Value → H) :
    ReturnsInHanded {} Try.checked os 5 .any (Rows.batchBackSpec.pre6 enc Try.prog Try.f5 Rows.batchBackRow.domain false) (Rows.batchBackSpec.post enc Try.prog Try.f5 false true false false) := by
  refine returnsInHanded_of_change (C := Try.checked) own started (by kernel_rfl) Try.func5
    (ChangeSpec.witness6 (enc := enc) (C := Try.checked) false ⟨#[], #[.agg #[.int .i64 0, .int .i64 0, .slice none 0 0], .slice none 0 0, .int .u16 0], []⟩ 8 (by kernel_rfl) (by kernel_rfl) (by kernel_rfl) (by kernel_rfl)) ?_
  intro W base args ds gs before hval0 hW hcnd _
  have hval : ∀ (j : Nat) t v, Try.f5.params[j]? = some t → args[j]? = some v → Value.okWide Try.prog W .any base t v := hval0
  have hW' := hW
  obtain ⟨p, q, hA0, hV, rfl, hfz, hnd⟩ := hW
  have hA : DataW.TrodAll enc Try.prog W 0 (fun _ => true) true Try.f5.params.toList args.toList ds p := hA0
  rw [Try.params5] at hA hval
  obtain ⟨v0, vs0, d0, ds0, p0, q0, hargs, rfl, rfl, h0, r0⟩ := trodAll_cons hA
  obtain ⟨v1, vs1, d1, ds1, p1, q1, rfl, rfl, rfl, h1, r1⟩ := trodAll_cons r0
  obtain ⟨v2, vs2, d2, ds2, p2, q2, rfl, rfl, rfl, h2, r2⟩ := trodAll_cons r1
  obtain ⟨rfl, rfl, rfl⟩ := trodAll_nil r2
  obtain rfl : args = #[v0, v1, v2] := by cases args; simp_all
  obtain ⟨rfl, rfl⟩ := trodVars_none hV
  have k0 := h0
  have lt0 : ∀ x ∈ p0, x.block < W.heap.size := by obtain ⟨m, hm⟩ := k0; exact DataW.trod_lt m _ _ _ hm
  obtain ⟨s0, e0, a0, len0, cap0, l0, rfl, hr0, ii0⟩ := bat_open (hval 0 24 v0 rfl rfl) h0
  have k1 := h1
  have lt1 : ∀ x ∈ p1, x.block < W.heap.size := by obtain ⟨m, hm⟩ := k1; exact DataW.trod_lt m _ _ _ hm
  obtain ⟨a1, len1, cap1, rfl⟩ := okWide_slice Try.underlying25 (hval 1 25 v1 rfl rfl)
  obtain ⟨l1, hr1, ii1⟩ : ∃ l : List Nat, RowG 1 W (.slice a1 len1 cap1) (bys l) ∧ Bytes l := by
    obtain ⟨fuel, hf⟩ := h1
    exact bys_open hf
  have k2 := h2
  have lt2 : ∀ x ∈ p2, x.block < W.heap.size := by obtain ⟨m, hm⟩ := k2; exact DataW.trod_lt m _ _ _ hm
  obtain ⟨xb2, rfl, ib2⟩ : ∃ n : Int, v2 = .int .u16 n ∧ (0 ≤ n ∧ n ≤ 65535) := by
    obtain ⟨n, rfl⟩ := okWide_int Try.underlying48 (hval 2 48 v2 rfl rfl)
    obtain ⟨m, hm⟩ := h2
    have q := hm
    obtain ⟨z, e, _, w⟩ := DataW.trod_int Try.underlying48 (by simpa [Value.cells] using hm)
    simp at e
    subst e
    refine ⟨_, rfl, ?_⟩
    simp [Lit.wf, IntKind.min, IntKind.max, IntKind.signed, IntKind.bits] at w
    omega
  clear hA0 hval0
  refine (walk s0 e0 a0 len0 cap0 l0 a1 len1 cap1 l1 xb2 W hr0 ii0 hr1 ii1 ib2).mono fun e W' ⟨he, bel⟩ => ?_
  subst he
  exact ⟨_, rfl, _, _, _, [], _, [], hW', trodAll_mk1 (shut_bool Try.underlying4 _), (trodAll_cons_mk (Below.trod laidOut (by kernel_rfl) (of_decide_eq_true (by kernel_rfl)) k0 bel lt0) (trodAll_cons_mk (Below.trod laidOut (by kernel_rfl) (of_decide_eq_true (by kernel_rfl)) k1 bel lt1) (trodAll_cons_mk (Below.trod laidOut (by kernel_rfl) (of_decide_eq_true (by kernel_rfl)) k2 bel lt2) trodAll_mk0))), rfl, bel.frame _, fun h => by cases h⟩
theorem over : Rows.batchBackRow.holds Try.pinned (OpenSpec.ofChange Rows.batchBackSpec) :=
  OpenClaim.holds_of_wide 5 Try.f5 rfl rfl rfl rfl rfl rfl rfl ⟨rfl, rfl, rfl, rfl, rfl⟩ rfl rfl rfl rfl rfl (by kernel_rfl) Try.func5 (by kernel_rfl)
    (of_decide_eq_true (by kernel_rfl)) (by unfold Func.isWrapper; first | (rw [if_pos (by decide +kernel)]; kernel_rfl) | (rw [if_neg (by decide +kernel)]; exact ⟨rfl, rfl⟩))
    (fun os started H enc _ => lifted os started H enc)
theorem proved : Rows.BatchBackSaid := over
end Go.Proofs.Ytfahgphkceilkaa.batchBack
namespace Go.Proofs.Ytfahgphkceilkaa
theorem batchBack_holds : Rows.BatchBackSaid := batchBack.proved
end Go.Proofs.Ytfahgphkceilkaa
