/- Proved here: BatchSizes: a batch has 15 bytes and 9 for each line; two that aren't the same haven't the same bytes. No condition. -/
import Derived.Test.YtfahgphkceilkaaYl
import Derived.Deep.QuietTactic
import Derived.BigQuiet
import Derived.Deep.RegionHeld
import Derived.Deep.MidRow
namespace Go.Proofs.Ytfahgphkceilkaa.batchSizes
open Go.ChangeShapes Go.WideShapes Go.ChangeAt Go.RowKit
set_option linter.unusedVariables false
set_option linter.unusedSimpArgs false
theorem beq_bel (v u : Value) (xs ys : List Nat) (w : World) (h : RowG 1 w v (bys xs)) (h' : RowG 1 w u (bys ys)) :
    Calls Try.prog 13 #[v, u] w fun e w' => e = .returned (.bool (eqB xs ys)) ∧ Below w.heap.size w w' :=
  (beq_any v u xs ys w h h').mono fun e w' ⟨he, n, hn⟩ => by
    subst hn
    exact ⟨he, ⟨rfl, rfl, rfl, Nat.le_refl _, fun _ _ => rfl⟩⟩
theorem sizes_eq {s e s1 e1 : Int} {l l1 : List Li} (h : chkB s e l = 0) (h' : chkB s1 e1 l1 = 0) : eqB (putN s e l) (putN s1 e1 l1) = eqBt s e l s1 e1 l1 := by
  unfold eqB eqBt
  rw [decide_eq_decide]
  exact ⟨put_inj h h', fun ⟨a, b, c⟩ => by rw [a, b, c]⟩
theorem s_long (s e : Int) (x : Option Addr) (n cap : Nat) (s1 e1 : Int) (x1 : Option Addr) (n1 cap1 : Nat) (d1 : decide ((300 : Int) < (n : Int)) = true) (w : World) : Calls Try.prog 8 #[.agg #[.int .i64 s, .int .i64 e, .slice x n cap], .agg #[.int .i64 s1, .int .i64 e1, .slice x1 n1 cap1]] w fun r w' => r = .returned (.bool true) ∧ Below w.heap.size w w' := by
  have HX := hide ((Blk.new w #[.int .i64 s, .int .i64 e, .slice x n cap] 24).alloc (.cells #[.int .i64 s1, .int .i64 e1, .slice x1 n1 cap1] 24))
  have HZ := hide (show Blk ((w.alloc (.cells #[.int .i64 s, .int .i64 e, .slice x n cap] 24)).alloc (.cells #[.int .i64 s1, .int .i64 e1, .slice x1 n1 cap1] 24)) (w.heap.size + 1) #[.int .i64 s1, .int .i64 e1, .slice x1 n1 cap1] 24 from by rw [show w.heap.size + 1 = (w.alloc (.cells #[.int .i64 s, .int .i64 e, .slice x n cap] 24)).heap.size from (Array.size_push _).symm]; exact Blk.new (w.alloc (.cells #[.int .i64 s, .int .i64 e, .slice x n cap] 24)) #[.int .i64 s1, .int .i64 e1, .slice x1 n1 cap1] 24)
  have HB := hide (below_via (below1 w (.cells #[.int .i64 s, .int .i64 e, .slice x n cap] 24)) (below1 _ (.cells #[.int .i64 s1, .int .i64 e1, .slice x1 n1 cap1] 24)))
  go_enter Try.func8, Try.ntmps8
  go_wp2_with fail
  generalize (w.alloc (.cells #[.int .i64 s, .int .i64 e, .slice x n cap] 24)).alloc (.cells #[.int .i64 s1, .int .i64 e1, .slice x1 n1 cap1] 24) = w0 at *
  refine (alive_any _).mono ?_
  rintro e w1 ⟨rfl, hb⟩
  replace HX := hide ((show Blk _ _ _ _ from unhide HX).keep hb)
  replace HZ := hide ((show Blk _ _ _ _ from unhide HZ).keep hb)
  replace HB := hide (below_via (unhide HB) hb)
  have c2 := (show Blk _ _ _ _ from unhide HX).at 2 _ rfl
  have d2 := (show Blk _ _ _ _ from unhide HZ).at 2 _ rfl
  go_wp2_with fail
  go_ret
  exact ⟨rfl, unhide HB⟩
theorem s_much (s e : Int) (x : Option Addr) (n cap : Nat) (s1 e1 : Int) (x1 : Option Addr) (n1 cap1 : Nat) (d1 : decide ((300 : Int) < (n : Int)) = false) (e2 : decide ((300 : Int) < (n1 : Int)) = true) (w : World) : Calls Try.prog 8 #[.agg #[.int .i64 s, .int .i64 e, .slice x n cap], .agg #[.int .i64 s1, .int .i64 e1, .slice x1 n1 cap1]] w fun r w' => r = .returned (.bool true) ∧ Below w.heap.size w w' := by
  have HX := hide ((Blk.new w #[.int .i64 s, .int .i64 e, .slice x n cap] 24).alloc (.cells #[.int .i64 s1, .int .i64 e1, .slice x1 n1 cap1] 24))
  have HZ := hide (show Blk ((w.alloc (.cells #[.int .i64 s, .int .i64 e, .slice x n cap] 24)).alloc (.cells #[.int .i64 s1, .int .i64 e1, .slice x1 n1 cap1] 24)) (w.heap.size + 1) #[.int .i64 s1, .int .i64 e1, .slice x1 n1 cap1] 24 from by rw [show w.heap.size + 1 = (w.alloc (.cells #[.int .i64 s, .int .i64 e, .slice x n cap] 24)).heap.size from (Array.size_push _).symm]; exact Blk.new (w.alloc (.cells #[.int .i64 s, .int .i64 e, .slice x n cap] 24)) #[.int .i64 s1, .int .i64 e1, .slice x1 n1 cap1] 24)
  have HB := hide (below_via (below1 w (.cells #[.int .i64 s, .int .i64 e, .slice x n cap] 24)) (below1 _ (.cells #[.int .i64 s1, .int .i64 e1, .slice x1 n1 cap1] 24)))
  go_enter Try.func8, Try.ntmps8
  go_wp2_with fail
  generalize (w.alloc (.cells #[.int .i64 s, .int .i64 e, .slice x n cap] 24)).alloc (.cells #[.int .i64 s1, .int .i64 e1, .slice x1 n1 cap1] 24) = w0 at *
  refine (alive_any _).mono ?_
  rintro e w1 ⟨rfl, hb⟩
  replace HX := hide ((show Blk _ _ _ _ from unhide HX).keep hb)
  replace HZ := hide ((show Blk _ _ _ _ from unhide HZ).keep hb)
  replace HB := hide (below_via (unhide HB) hb)
  have c2 := (show Blk _ _ _ _ from unhide HX).at 2 _ rfl
  have d2 := (show Blk _ _ _ _ from unhide HZ).at 2 _ rfl
  go_wp2_with fail
  go_ret
  exact ⟨rfl, unhide HB⟩
set_option maxHeartbeats 8000000 in
theorem s_no (s e : Int) (x : Option Addr) (n cap : Nat) (s1 e1 : Int) (x1 : Option Addr) (n1 cap1 : Nat) (l l1 : List Li) (d1 : decide ((300 : Int) < (n : Int)) = false) (e2 : decide ((300 : Int) < (n1 : Int)) = false) (g1 : (chkB s e l != 0) = true) (Hle : Hid (l.length ≤ 10000)) (Hle1 : Hid (l1.length ≤ 10000)) (w : World) (HR : Hid (RowG 2 w (.slice x n cap) (l.map liL))) (HY : Hid (RowG 2 w (.slice x1 n1 cap1) (l1.map liL))) : Calls Try.prog 8 #[.agg #[.int .i64 s, .int .i64 e, .slice x n cap], .agg #[.int .i64 s1, .int .i64 e1, .slice x1 n1 cap1]] w fun r w' => r = .returned (.bool true) ∧ Below w.heap.size w w' := by
  have HX := hide ((Blk.new w #[.int .i64 s, .int .i64 e, .slice x n cap] 24).alloc (.cells #[.int .i64 s1, .int .i64 e1, .slice x1 n1 cap1] 24))
  have HZ := hide (show Blk ((w.alloc (.cells #[.int .i64 s, .int .i64 e, .slice x n cap] 24)).alloc (.cells #[.int .i64 s1, .int .i64 e1, .slice x1 n1 cap1] 24)) (w.heap.size + 1) #[.int .i64 s1, .int .i64 e1, .slice x1 n1 cap1] 24 from by rw [show w.heap.size + 1 = (w.alloc (.cells #[.int .i64 s, .int .i64 e, .slice x n cap] 24)).heap.size from (Array.size_push _).symm]; exact Blk.new (w.alloc (.cells #[.int .i64 s, .int .i64 e, .slice x n cap] 24)) #[.int .i64 s1, .int .i64 e1, .slice x1 n1 cap1] 24)
  have HB := hide (below_via (below1 w (.cells #[.int .i64 s, .int .i64 e, .slice x n cap] 24)) (below1 _ (.cells #[.int .i64 s1, .int .i64 e1, .slice x1 n1 cap1] 24)))
  replace HR := hide (((show RowG _ _ _ _ from unhide HR).alloc (.cells #[.int .i64 s, .int .i64 e, .slice x n cap] 24)).alloc (.cells #[.int .i64 s1, .int .i64 e1, .slice x1 n1 cap1] 24))
  replace HY := hide (((show RowG _ _ _ _ from unhide HY).alloc (.cells #[.int .i64 s, .int .i64 e, .slice x n cap] 24)).alloc (.cells #[.int .i64 s1, .int .i64 e1, .slice x1 n1 cap1] 24))
  go_enter Try.func8, Try.ntmps8
  go_wp2_with fail
  generalize (w.alloc (.cells #[.int .i64 s, .int .i64 e, .slice x n cap] 24)).alloc (.cells #[.int .i64 s1, .int .i64 e1, .slice x1 n1 cap1] 24) = w0 at *
  refine (alive_any _).mono ?_
  rintro e w1 ⟨rfl, hb⟩
  replace HX := hide ((show Blk _ _ _ _ from unhide HX).keep hb)
  replace HZ := hide ((show Blk _ _ _ _ from unhide HZ).keep hb)
  replace HR := hide ((show RowG _ _ _ _ from unhide HR).keep hb)
  replace HY := hide ((show RowG _ _ _ _ from unhide HY).keep hb)
  replace HB := hide (below_via (unhide HB) hb)
  have c2 := (show Blk _ _ _ _ from unhide HX).at 2 _ rfl
  have d2 := (show Blk _ _ _ _ from unhide HZ).at 2 _ rfl
  go_wp2_with (refine load_blk rfl 24 _ rfl (show Blk _ _ _ _ from unhide HX) rfl row24 size24 rfl ?_)
  refine (tob_any s e _ l _ (unhide HR) (unhide Hle)).mono ?_
  rintro e w2 ⟨t, rfl, hG⟩
  replace HX := hide ((show Blk _ _ _ _ from unhide HX).keep hG.below)
  replace HZ := hide ((show Blk _ _ _ _ from unhide HZ).keep hG.below)
  replace HR := hide ((show RowG _ _ _ _ from unhide HR).keep hG.below)
  replace HY := hide ((show RowG _ _ _ _ from unhide HY).keep hG.below)
  replace HB := hide (below_via (unhide HB) hG.below)
  have HT := hide (hG.row)
  clear hG
  go_wp2_with fail
  refine (put_any s e _ l _ (unhide HT)).mono ?_
  rintro e w3 ⟨p, rfl, hG⟩
  replace HX := hide ((show Blk _ _ _ _ from unhide HX).keep hG.below)
  replace HZ := hide ((show Blk _ _ _ _ from unhide HZ).keep hG.below)
  replace HR := hide ((show RowG _ _ _ _ from unhide HR).keep hG.below)
  replace HY := hide ((show RowG _ _ _ _ from unhide HY).keep hG.below)
  replace HT := hide ((show RowG _ _ _ _ from unhide HT).keep hG.below)
  replace HB := hide (below_via (unhide HB) hG.below)
  clear hG
  clear HT
  go_wp2_with (refine load_blk rfl 24 _ rfl (show Blk _ _ _ _ from unhide HZ) rfl row24 size24 rfl ?_)
  refine (tob_any s1 e1 _ l1 _ (unhide HY) (unhide Hle1)).mono ?_
  rintro e w4 ⟨t, rfl, hG⟩
  replace HX := hide ((show Blk _ _ _ _ from unhide HX).keep hG.below)
  replace HZ := hide ((show Blk _ _ _ _ from unhide HZ).keep hG.below)
  replace HR := hide ((show RowG _ _ _ _ from unhide HR).keep hG.below)
  replace HY := hide ((show RowG _ _ _ _ from unhide HY).keep hG.below)
  replace HB := hide (below_via (unhide HB) hG.below)
  have HT := hide (hG.row)
  clear hG
  go_wp2_with fail
  refine (put_any s1 e1 _ l1 _ (unhide HT)).mono ?_
  rintro e w5 ⟨p, rfl, hG⟩
  replace HX := hide ((show Blk _ _ _ _ from unhide HX).keep hG.below)
  replace HZ := hide ((show Blk _ _ _ _ from unhide HZ).keep hG.below)
  replace HR := hide ((show RowG _ _ _ _ from unhide HR).keep hG.below)
  replace HY := hide ((show RowG _ _ _ _ from unhide HY).keep hG.below)
  replace HT := hide ((show RowG _ _ _ _ from unhide HT).keep hG.below)
  replace HB := hide (below_via (unhide HB) hG.below)
  clear hG
  clear HT
  generalize chkB s e l = ce at *
  generalize chkB s1 e1 l1 = ce1 at *
  go_wp2_with fail
  go_ret
  exact ⟨rfl, unhide HB⟩
set_option maxHeartbeats 8000000 in
theorem s_non (s e : Int) (x : Option Addr) (n cap : Nat) (s1 e1 : Int) (x1 : Option Addr) (n1 cap1 : Nat) (l l1 : List Li) (d1 : decide ((300 : Int) < (n : Int)) = false) (e2 : decide ((300 : Int) < (n1 : Int)) = false) (Hc : Hid (chkB s e l = 0)) (g1 : ((0 : Int) != 0) = false) (g2 : (chkB s1 e1 l1 != 0) = true) (Hle : Hid (l.length ≤ 10000)) (Hle1 : Hid (l1.length ≤ 10000)) (w : World) (HR : Hid (RowG 2 w (.slice x n cap) (l.map liL))) (HY : Hid (RowG 2 w (.slice x1 n1 cap1) (l1.map liL))) : Calls Try.prog 8 #[.agg #[.int .i64 s, .int .i64 e, .slice x n cap], .agg #[.int .i64 s1, .int .i64 e1, .slice x1 n1 cap1]] w fun r w' => r = .returned (.bool true) ∧ Below w.heap.size w w' := by
  have HX := hide ((Blk.new w #[.int .i64 s, .int .i64 e, .slice x n cap] 24).alloc (.cells #[.int .i64 s1, .int .i64 e1, .slice x1 n1 cap1] 24))
  have HZ := hide (show Blk ((w.alloc (.cells #[.int .i64 s, .int .i64 e, .slice x n cap] 24)).alloc (.cells #[.int .i64 s1, .int .i64 e1, .slice x1 n1 cap1] 24)) (w.heap.size + 1) #[.int .i64 s1, .int .i64 e1, .slice x1 n1 cap1] 24 from by rw [show w.heap.size + 1 = (w.alloc (.cells #[.int .i64 s, .int .i64 e, .slice x n cap] 24)).heap.size from (Array.size_push _).symm]; exact Blk.new (w.alloc (.cells #[.int .i64 s, .int .i64 e, .slice x n cap] 24)) #[.int .i64 s1, .int .i64 e1, .slice x1 n1 cap1] 24)
  have HB := hide (below_via (below1 w (.cells #[.int .i64 s, .int .i64 e, .slice x n cap] 24)) (below1 _ (.cells #[.int .i64 s1, .int .i64 e1, .slice x1 n1 cap1] 24)))
  replace HR := hide (((show RowG _ _ _ _ from unhide HR).alloc (.cells #[.int .i64 s, .int .i64 e, .slice x n cap] 24)).alloc (.cells #[.int .i64 s1, .int .i64 e1, .slice x1 n1 cap1] 24))
  replace HY := hide (((show RowG _ _ _ _ from unhide HY).alloc (.cells #[.int .i64 s, .int .i64 e, .slice x n cap] 24)).alloc (.cells #[.int .i64 s1, .int .i64 e1, .slice x1 n1 cap1] 24))
  go_enter Try.func8, Try.ntmps8
  go_wp2_with fail
  generalize (w.alloc (.cells #[.int .i64 s, .int .i64 e, .slice x n cap] 24)).alloc (.cells #[.int .i64 s1, .int .i64 e1, .slice x1 n1 cap1] 24) = w0 at *
  refine (alive_any _).mono ?_
  rintro e w1 ⟨rfl, hb⟩
  replace HX := hide ((show Blk _ _ _ _ from unhide HX).keep hb)
  replace HZ := hide ((show Blk _ _ _ _ from unhide HZ).keep hb)
  replace HR := hide ((show RowG _ _ _ _ from unhide HR).keep hb)
  replace HY := hide ((show RowG _ _ _ _ from unhide HY).keep hb)
  replace HB := hide (below_via (unhide HB) hb)
  have c2 := (show Blk _ _ _ _ from unhide HX).at 2 _ rfl
  have d2 := (show Blk _ _ _ _ from unhide HZ).at 2 _ rfl
  go_wp2_with (refine load_blk rfl 24 _ rfl (show Blk _ _ _ _ from unhide HX) rfl row24 size24 rfl ?_)
  refine (tob_any s e _ l _ (unhide HR) (unhide Hle)).mono ?_
  rintro e w2 ⟨t, rfl, hG⟩
  replace HX := hide ((show Blk _ _ _ _ from unhide HX).keep hG.below)
  replace HZ := hide ((show Blk _ _ _ _ from unhide HZ).keep hG.below)
  replace HR := hide ((show RowG _ _ _ _ from unhide HR).keep hG.below)
  replace HY := hide ((show RowG _ _ _ _ from unhide HY).keep hG.below)
  replace HB := hide (below_via (unhide HB) hG.below)
  have HT := hide (hG.row)
  clear hG
  go_wp2_with fail
  refine (put_ok s e _ l _ (unhide HT) (unhide Hc)).mono ?_
  rintro e w3 ⟨p0, rfl, hG⟩
  replace HX := hide ((show Blk _ _ _ _ from unhide HX).keep hG.below)
  replace HZ := hide ((show Blk _ _ _ _ from unhide HZ).keep hG.below)
  replace HR := hide ((show RowG _ _ _ _ from unhide HR).keep hG.below)
  replace HY := hide ((show RowG _ _ _ _ from unhide HY).keep hG.below)
  replace HT := hide ((show RowG _ _ _ _ from unhide HT).keep hG.below)
  replace HB := hide (below_via (unhide HB) hG.below)
  have HP0 := hide (hG.row)
  clear hG
  clear HT
  go_wp2_with (refine load_blk rfl 24 _ rfl (show Blk _ _ _ _ from unhide HZ) rfl row24 size24 rfl ?_)
  refine (tob_any s1 e1 _ l1 _ (unhide HY) (unhide Hle1)).mono ?_
  rintro e w4 ⟨t, rfl, hG⟩
  replace HX := hide ((show Blk _ _ _ _ from unhide HX).keep hG.below)
  replace HZ := hide ((show Blk _ _ _ _ from unhide HZ).keep hG.below)
  replace HR := hide ((show RowG _ _ _ _ from unhide HR).keep hG.below)
  replace HY := hide ((show RowG _ _ _ _ from unhide HY).keep hG.below)
  replace HP0 := hide ((show RowG _ _ _ _ from unhide HP0).keep hG.below)
  replace HB := hide (below_via (unhide HB) hG.below)
  have HT := hide (hG.row)
  clear hG
  go_wp2_with fail
  refine (put_any s1 e1 _ l1 _ (unhide HT)).mono ?_
  rintro e w5 ⟨p, rfl, hG⟩
  replace HX := hide ((show Blk _ _ _ _ from unhide HX).keep hG.below)
  replace HZ := hide ((show Blk _ _ _ _ from unhide HZ).keep hG.below)
  replace HR := hide ((show RowG _ _ _ _ from unhide HR).keep hG.below)
  replace HY := hide ((show RowG _ _ _ _ from unhide HY).keep hG.below)
  replace HP0 := hide ((show RowG _ _ _ _ from unhide HP0).keep hG.below)
  replace HT := hide ((show RowG _ _ _ _ from unhide HT).keep hG.below)
  replace HB := hide (below_via (unhide HB) hG.below)
  clear hG
  clear HT
  generalize chkB s1 e1 l1 = ce1 at *
  go_wp2_with fail
  go_ret
  exact ⟨rfl, unhide HB⟩
set_option maxHeartbeats 8000000 in
theorem s_ok (s e : Int) (x : Option Addr) (n cap : Nat) (s1 e1 : Int) (x1 : Option Addr) (n1 cap1 : Nat) (l l1 : List Li) (d1 : decide ((300 : Int) < (n : Int)) = false) (e2 : decide ((300 : Int) < (n1 : Int)) = false) (Hc : Hid (chkB s e l = 0)) (Hc1 : Hid (chkB s1 e1 l1 = 0)) (g1 : ((0 : Int) != 0) = false) (Hn : Hid (l.length = n)) (Hn3 : Hid (n ≤ 300)) (Hle : Hid (l.length ≤ 10000)) (Hle1 : Hid (l1.length ≤ 10000)) (w : World) (HR : Hid (RowG 2 w (.slice x n cap) (l.map liL))) (HY : Hid (RowG 2 w (.slice x1 n1 cap1) (l1.map liL))) : Calls Try.prog 8 #[.agg #[.int .i64 s, .int .i64 e, .slice x n cap], .agg #[.int .i64 s1, .int .i64 e1, .slice x1 n1 cap1]] w fun r w' => r = .returned (.bool true) ∧ Below w.heap.size w w' := by
  have HX := hide ((Blk.new w #[.int .i64 s, .int .i64 e, .slice x n cap] 24).alloc (.cells #[.int .i64 s1, .int .i64 e1, .slice x1 n1 cap1] 24))
  have HZ := hide (show Blk ((w.alloc (.cells #[.int .i64 s, .int .i64 e, .slice x n cap] 24)).alloc (.cells #[.int .i64 s1, .int .i64 e1, .slice x1 n1 cap1] 24)) (w.heap.size + 1) #[.int .i64 s1, .int .i64 e1, .slice x1 n1 cap1] 24 from by rw [show w.heap.size + 1 = (w.alloc (.cells #[.int .i64 s, .int .i64 e, .slice x n cap] 24)).heap.size from (Array.size_push _).symm]; exact Blk.new (w.alloc (.cells #[.int .i64 s, .int .i64 e, .slice x n cap] 24)) #[.int .i64 s1, .int .i64 e1, .slice x1 n1 cap1] 24)
  have HB := hide (below_via (below1 w (.cells #[.int .i64 s, .int .i64 e, .slice x n cap] 24)) (below1 _ (.cells #[.int .i64 s1, .int .i64 e1, .slice x1 n1 cap1] 24)))
  replace HR := hide (((show RowG _ _ _ _ from unhide HR).alloc (.cells #[.int .i64 s, .int .i64 e, .slice x n cap] 24)).alloc (.cells #[.int .i64 s1, .int .i64 e1, .slice x1 n1 cap1] 24))
  replace HY := hide (((show RowG _ _ _ _ from unhide HY).alloc (.cells #[.int .i64 s, .int .i64 e, .slice x n cap] 24)).alloc (.cells #[.int .i64 s1, .int .i64 e1, .slice x1 n1 cap1] 24))
  go_enter Try.func8, Try.ntmps8
  go_wp2_with fail
  generalize (w.alloc (.cells #[.int .i64 s, .int .i64 e, .slice x n cap] 24)).alloc (.cells #[.int .i64 s1, .int .i64 e1, .slice x1 n1 cap1] 24) = w0 at *
  refine (alive_any _).mono ?_
  rintro e w1 ⟨rfl, hb⟩
  replace HX := hide ((show Blk _ _ _ _ from unhide HX).keep hb)
  replace HZ := hide ((show Blk _ _ _ _ from unhide HZ).keep hb)
  replace HR := hide ((show RowG _ _ _ _ from unhide HR).keep hb)
  replace HY := hide ((show RowG _ _ _ _ from unhide HY).keep hb)
  replace HB := hide (below_via (unhide HB) hb)
  have c2 := (show Blk _ _ _ _ from unhide HX).at 2 _ rfl
  have d2 := (show Blk _ _ _ _ from unhide HZ).at 2 _ rfl
  go_wp2_with (refine load_blk rfl 24 _ rfl (show Blk _ _ _ _ from unhide HX) rfl row24 size24 rfl ?_)
  refine (tob_any s e _ l _ (unhide HR) (unhide Hle)).mono ?_
  rintro e w2 ⟨t, rfl, hG⟩
  replace HX := hide ((show Blk _ _ _ _ from unhide HX).keep hG.below)
  replace HZ := hide ((show Blk _ _ _ _ from unhide HZ).keep hG.below)
  replace HR := hide ((show RowG _ _ _ _ from unhide HR).keep hG.below)
  replace HY := hide ((show RowG _ _ _ _ from unhide HY).keep hG.below)
  replace HB := hide (below_via (unhide HB) hG.below)
  have HT := hide (hG.row)
  clear hG
  go_wp2_with fail
  refine (put_ok s e _ l _ (unhide HT) (unhide Hc)).mono ?_
  rintro e w3 ⟨p0, rfl, hG⟩
  replace HX := hide ((show Blk _ _ _ _ from unhide HX).keep hG.below)
  replace HZ := hide ((show Blk _ _ _ _ from unhide HZ).keep hG.below)
  replace HR := hide ((show RowG _ _ _ _ from unhide HR).keep hG.below)
  replace HY := hide ((show RowG _ _ _ _ from unhide HY).keep hG.below)
  replace HT := hide ((show RowG _ _ _ _ from unhide HT).keep hG.below)
  replace HB := hide (below_via (unhide HB) hG.below)
  have HP0 := hide (hG.row)
  clear hG
  clear HT
  go_wp2_with (refine load_blk rfl 24 _ rfl (show Blk _ _ _ _ from unhide HZ) rfl row24 size24 rfl ?_)
  refine (tob_any s1 e1 _ l1 _ (unhide HY) (unhide Hle1)).mono ?_
  rintro e w4 ⟨t, rfl, hG⟩
  replace HX := hide ((show Blk _ _ _ _ from unhide HX).keep hG.below)
  replace HZ := hide ((show Blk _ _ _ _ from unhide HZ).keep hG.below)
  replace HR := hide ((show RowG _ _ _ _ from unhide HR).keep hG.below)
  replace HY := hide ((show RowG _ _ _ _ from unhide HY).keep hG.below)
  replace HP0 := hide ((show RowG _ _ _ _ from unhide HP0).keep hG.below)
  replace HB := hide (below_via (unhide HB) hG.below)
  have HT := hide (hG.row)
  clear hG
  go_wp2_with fail
  refine (put_ok s1 e1 _ l1 _ (unhide HT) (unhide Hc1)).mono ?_
  rintro e w5 ⟨p1, rfl, hG⟩
  replace HX := hide ((show Blk _ _ _ _ from unhide HX).keep hG.below)
  replace HZ := hide ((show Blk _ _ _ _ from unhide HZ).keep hG.below)
  replace HR := hide ((show RowG _ _ _ _ from unhide HR).keep hG.below)
  replace HY := hide ((show RowG _ _ _ _ from unhide HY).keep hG.below)
  replace HP0 := hide ((show RowG _ _ _ _ from unhide HP0).keep hG.below)
  replace HT := hide ((show RowG _ _ _ _ from unhide HT).keep hG.below)
  replace HB := hide (below_via (unhide HB) hG.below)
  have HP1 := hide (hG.row)
  clear hG
  clear HT
  obtain ⟨ap, cp, rfl⟩ := rowG_slice (unhide HP0)
  obtain ⟨aq, cq, rfl⟩ := rowG_slice (unhide HP1)
  generalize hP0 : putN s e l = P0 at *
  generalize hP1 : putN s1 e1 l1 = P1 at *
  replace hP0 := hide hP0
  replace hP1 := hide hP1
  have hm : Hid ((bys P0).length = 15 + 9 * n) := hide (by rw [bys_len, ← unhide hP0, putN_len, unhide Hn])
  generalize (bys P0).length = m0 at *
  generalize (bys P1).length = m1 at *
  go_wp2_with fail
  generalize hE : eqBt s e l s1 e1 l1 = E at *
  replace hE := hide hE
  have HQ := hide (fun (W : World) h1 h2 => (beq_bel (.slice ap m0 cp) (.slice aq m1 cq) P0 P1 W h1 h2))
  rw [← unhide hP0, ← unhide hP1, sizes_eq (unhide Hc) (unhide Hc1), unhide hE, unhide hP0, unhide hP1] at HQ
  have HQ2 := hide (fun (W : World) h1 h2 => (eqb_any s e s1 e1 (.slice x n cap) (.slice x1 n1 cap1) l l1 W h1 h2))
  rw [unhide hE] at HQ2
  clear hE
  refine wp_region_noPanic ?_
  refine wp_region_held_drew (S := fun W => Below w5.heap.size w5 W) (by kernel_rfl) (Below.refl _ _).drew (fun hS => ?_)
  have HXV := HX
  have HZV := HZ
  have hb := hS
  replace HX := hide ((show Blk _ _ _ _ from unhide HX).keep hb)
  replace HZ := hide ((show Blk _ _ _ _ from unhide HZ).keep hb)
  replace HR := hide ((show RowG _ _ _ _ from unhide HR).keep hb)
  replace HY := hide ((show RowG _ _ _ _ from unhide HY).keep hb)
  replace HP0 := hide ((show RowG _ _ _ _ from unhide HP0).keep hb)
  replace HP1 := hide ((show RowG _ _ _ _ from unhide HP1).keep hb)
  replace HB := hide (below_via (unhide HB) hb)
  clear hb
  generalize w5.drew = w6 at *
  have hX := hide (fun (W : World) (hW : Below w5.heap.size w5 W) => ((show Blk _ _ _ _ from unhide HXV).keep hW).at 2 (.slice x n cap) rfl)
  refine anyH_at (i := 0) (v := .slice ap m0 cp) 39 rfl (by kernel_rfl) (by kernel_rfl) (by kernel_rfl) (by kernel_rfl) (fun _ _ _ h => h) (Or.inl ⟨by kernel_rfl, fun W hS => by go_simp⟩) hS ?_
  try simp only [Act.put, List.setIfInBounds_toArray, List.set_cons_zero, List.set_cons_succ]
  refine anyH_at (i := 1) (v := .int .i64 (m0 : Int)) 40 rfl (by kernel_rfl) (by kernel_rfl) (by kernel_rfl) (by kernel_rfl) (fun _ _ _ h => h) (Or.inl ⟨by kernel_rfl, fun W hS => by go_simp⟩) hS ?_
  try simp only [Act.put, List.setIfInBounds_toArray, List.set_cons_zero, List.set_cons_succ]
  refine anyH_at (i := 2) (v := .pointer (some ⟨w.heap.size, 2, none⟩)) 41 rfl (by kernel_rfl) (by kernel_rfl) (by kernel_rfl) (by kernel_rfl) (fun _ _ _ h => h) (Or.inl ⟨by kernel_rfl, fun W hS => by go_simp⟩) hS ?_
  try simp only [Act.put, List.setIfInBounds_toArray, List.set_cons_zero, List.set_cons_succ]
  refine anyH_at (i := 3) (v := .slice x n cap) 42 rfl (by kernel_rfl) (by kernel_rfl) (by kernel_rfl) (by kernel_rfl) (fun _ _ _ h => h) (Or.inl ⟨by kernel_rfl, fun W hS => by have f1 := unhide hX W hS; go_simp⟩) hS ?_
  try simp only [Act.put, List.setIfInBounds_toArray, List.set_cons_zero, List.set_cons_succ]
  refine anyH_at (i := 4) (v := .int .i64 (n : Int)) 43 rfl (by kernel_rfl) (by kernel_rfl) (by kernel_rfl) (by kernel_rfl) (fun _ _ _ h => h) (Or.inl ⟨by kernel_rfl, fun W hS => by go_simp⟩) hS ?_
  try simp only [Act.put, List.setIfInBounds_toArray, List.set_cons_zero, List.set_cons_succ]
  refine anyH_at (i := 5) (v := .int .i64 (9 * (n : Int))) 44 rfl (by kernel_rfl) (by kernel_rfl) (by kernel_rfl) (by kernel_rfl) (fun _ _ _ h => h) (Or.inl ⟨by kernel_rfl, fun W hS => by have f1 : IntKind.i64.wrap (9 * (n : Int)) = 9 * (n : Int) := wrap_in' ⟨by have := unhide Hn3; omega, by have := unhide Hn3; omega⟩; go_simp⟩) hS ?_
  try simp only [Act.put, List.setIfInBounds_toArray, List.set_cons_zero, List.set_cons_succ]
  refine anyH_at (i := 6) (v := .int .i64 (m0 : Int)) 45 rfl (by kernel_rfl) (by kernel_rfl) (by kernel_rfl) (by kernel_rfl) (fun _ _ _ h => h) (Or.inl ⟨by kernel_rfl, fun W hS => by have f1 : IntKind.i64.wrap (15 + 9 * (n : Int)) = (m0 : Int) := (by rw [wrap_in' ⟨by have := unhide Hn3; omega, by have := unhide Hn3; omega⟩]; have := unhide hm; omega); go_simp⟩) hS ?_
  try simp only [Act.put, List.setIfInBounds_toArray, List.set_cons_zero, List.set_cons_succ]
  refine anyH_at (i := 7) (v := .bool true) 46 rfl (by kernel_rfl) (by kernel_rfl) (by kernel_rfl) (by kernel_rfl) (fun _ _ _ h => h) (Or.inl ⟨by kernel_rfl, fun W hS => by go_simp⟩) hS ?_
  try simp only [Act.put, List.setIfInBounds_toArray, List.set_cons_zero, List.set_cons_succ]
  refine anyH_at (i := 8) (v := .bool true) 47 rfl (by kernel_rfl) (by kernel_rfl) (by kernel_rfl) (by kernel_rfl) (fun _ _ _ h => h) (Or.inl ⟨by kernel_rfl, fun W hS => by go_simp⟩) hS ?_
  try simp only [Act.put, List.setIfInBounds_toArray, List.set_cons_zero, List.set_cons_succ]
  refine anyH_at (i := 9) (v := .slice ap m0 cp) 48 rfl (by kernel_rfl) (by kernel_rfl) (by kernel_rfl) (by kernel_rfl) (fun _ _ _ h => h) (Or.inl ⟨by kernel_rfl, fun W hS => by go_simp⟩) hS ?_
  try simp only [Act.put, List.setIfInBounds_toArray, List.set_cons_zero, List.set_cons_succ]
  refine anyH_at (i := 10) (v := .slice aq m1 cq) 49 rfl (by kernel_rfl) (by kernel_rfl) (by kernel_rfl) (by kernel_rfl) (fun _ _ _ h => h) (Or.inl ⟨by kernel_rfl, fun W hS => by go_simp⟩) hS ?_
  try simp only [Act.put, List.setIfInBounds_toArray, List.set_cons_zero, List.set_cons_succ]
  refine anyH_at (i := 12) (v := .agg #[.int .i64 s, .int .i64 e, .slice x n cap]) 51 rfl (by kernel_rfl) (by kernel_rfl) (by kernel_rfl) (by kernel_rfl) (fun _ _ _ h => h) (yl_blk (by kernel_rfl) 24 _ rfl rfl (fun W hS => (show Blk _ _ _ _ from unhide HXV).keep hS) row24 size24 rfl) hS ?_
  try simp only [Act.put, List.setIfInBounds_toArray, List.set_cons_zero, List.set_cons_succ]
  refine anyH_at (i := 13) (v := .agg #[.int .i64 s1, .int .i64 e1, .slice x1 n1 cap1]) 52 rfl (by kernel_rfl) (by kernel_rfl) (by kernel_rfl) (by kernel_rfl) (fun _ _ _ h => h) (yl_blk (by kernel_rfl) 24 _ rfl rfl (fun W hS => (show Blk _ _ _ _ from unhide HZV).keep hS) row24 size24 rfl) hS ?_
  try simp only [Act.put, List.setIfInBounds_toArray, List.set_cons_zero, List.set_cons_succ]
  refine wpAnyH_all (rs := [11]) (by kernel_rfl) (by simp) (AllReadyH.cons (i := 11) rfl (fun KK hK => ?_) AllReadyH.nil)
  rw [if_pos (by kernel_rfl)]
  have hS0 := hide hS
  clear hS
  go_wp2_with fail
  refine (unhide HQ _ (unhide HP0) (unhide HP1)).mono ?_
  rintro e w7 ⟨rfl, hb⟩
  replace HX := hide ((show Blk _ _ _ _ from unhide HX).keep hb)
  replace HZ := hide ((show Blk _ _ _ _ from unhide HZ).keep hb)
  replace HR := hide ((show RowG _ _ _ _ from unhide HR).keep hb)
  replace HY := hide ((show RowG _ _ _ _ from unhide HY).keep hb)
  replace HP0 := hide ((show RowG _ _ _ _ from unhide HP0).keep hb)
  replace HP1 := hide ((show RowG _ _ _ _ from unhide HP1).keep hb)
  replace HB := hide (below_via (unhide HB) hb)
  have hS1 := hide (below_via (unhide hS0) hb)
  clear hS0 hb
  go_wp2_with fail
  refine hK.out _ _ (unhide hS1) (fun hS => ?_)
  clear hK hS1
  try simp only [Act.put, List.setIfInBounds_toArray, List.set_cons_zero, List.set_cons_succ]
  refine wpAnyH_all (rs := [14]) (by kernel_rfl) (by simp) (AllReadyH.cons (i := 14) rfl (fun KK hK => ?_) AllReadyH.nil)
  rw [if_pos (by kernel_rfl)]
  have hS0 := hide hS
  clear hS
  go_wp2_with fail
  refine (unhide HQ2 _ (unhide HR) (unhide HY)).mono ?_
  rintro e w8 ⟨rfl, hb⟩
  replace HX := hide ((show Blk _ _ _ _ from unhide HX).keep hb)
  replace HZ := hide ((show Blk _ _ _ _ from unhide HZ).keep hb)
  replace HR := hide ((show RowG _ _ _ _ from unhide HR).keep hb)
  replace HY := hide ((show RowG _ _ _ _ from unhide HY).keep hb)
  replace HP0 := hide ((show RowG _ _ _ _ from unhide HP0).keep hb)
  replace HP1 := hide ((show RowG _ _ _ _ from unhide HP1).keep hb)
  replace HB := hide (below_via (unhide HB) hb)
  have hS1 := hide (below_via (unhide hS0) hb)
  clear hS0 hb
  go_wp2_with fail
  refine hK.out _ _ (unhide hS1) (fun hS => ?_)
  clear hK hS1
  try simp only [Act.put, List.setIfInBounds_toArray, List.set_cons_zero, List.set_cons_succ]
  refine anyH_at (i := 15) (v := .bool true) 54 rfl (by kernel_rfl) (by kernel_rfl) (by kernel_rfl) (by kernel_rfl) (fun _ _ _ h => h) (Or.inl ⟨by kernel_rfl, fun W hS => by have f1 : (E == E) = true := (by cases E <;> rfl); go_simp⟩) hS ?_
  try simp only [Act.put, List.setIfInBounds_toArray, List.set_cons_zero, List.set_cons_succ]
  refine anyH_at (i := 16) (v := .bool true) 55 rfl (by kernel_rfl) (by kernel_rfl) (by kernel_rfl) (by kernel_rfl) (fun _ _ _ h => h) (Or.inl ⟨by kernel_rfl, fun W hS => by go_simp⟩) hS ?_
  try simp only [Act.put, List.setIfInBounds_toArray, List.set_cons_zero, List.set_cons_succ]
  refine anyH_at (i := 17) (v := .bool true) 4 rfl (by kernel_rfl) (by kernel_rfl) (by kernel_rfl) (by kernel_rfl) (fun _ _ _ h => h) (Or.inl ⟨by kernel_rfl, fun W hS => by go_simp⟩) hS ?_
  try simp only [Act.put, List.setIfInBounds_toArray, List.set_cons_zero, List.set_cons_succ]
  refine wpAnyH_done (by kernel_rfl) ?_ _
  clear hS
  refine noPanic_out ?_
  clear HXV
  clear HZV
  go_wp2_with fail
  go_ret
  exact ⟨rfl, unhide HB⟩
theorem walk (s e : Int) (x : Option Addr) (n cap : Nat) (l : List Li) (s1 e1 : Int) (x1 : Option Addr) (n1 cap1 : Nat) (l1 : List Li) (w : World) (h : RowG 2 w (.slice x n cap) (l.map liL)) (hi : AllIn l) (h1 : RowG 2 w (.slice x1 n1 cap1) (l1.map liL)) (hi1 : AllIn l1) : Calls Try.prog 8 #[.agg #[.int .i64 s, .int .i64 e, .slice x n cap], .agg #[.int .i64 s1, .int .i64 e1, .slice x1 n1 cap1]] w fun r w' => r = .returned (.bool true) ∧ Below w.heap.size w w' := by
  have hl := rowG_len h
  rw [List.length_map] at hl
  have hl1 := rowG_len h1
  rw [List.length_map] at hl1
  by_cases q1 : 300 < n
  · exact s_long s e x n cap s1 e1 x1 n1 cap1 (decide_eq_true (by omega)) w
  by_cases q2 : 300 < n1
  · exact s_much s e x n cap s1 e1 x1 n1 cap1 (decide_eq_false (by omega)) (decide_eq_true (by omega)) w
  by_cases q3 : chkB s e l = 0
  case neg => exact s_no s e x n cap s1 e1 x1 n1 cap1 l l1 (decide_eq_false (by omega)) (decide_eq_false (by omega)) (by rw [bne_iff_ne]; exact q3) (hide (by omega)) (hide (by omega)) w (hide h) (hide h1)
  by_cases q4 : chkB s1 e1 l1 = 0
  case neg => exact s_non s e x n cap s1 e1 x1 n1 cap1 l l1 (decide_eq_false (by omega)) (decide_eq_false (by omega)) (hide q3) (by decide) (by rw [bne_iff_ne]; exact q4) (hide (by omega)) (hide (by omega)) w (hide h) (hide h1)
  exact s_ok s e x n cap s1 e1 x1 n1 cap1 l l1 (decide_eq_false (by omega)) (decide_eq_false (by omega)) (hide q3) (hide q4) (by decide) (hide hl.symm) (hide (by omega)) (hide (by omega)) (hide (by omega)) w (hide h) (hide h1)
theorem own : ownKnob Try.prog.godebug = none := by kernel_rfl
theorem laidOut : laidOutB Try.prog = true := by kernel_rfl
set_option linter.unusedVariables false in
set_option maxRecDepth 100000 in
theorem lifted (os : Os) (started : os.Started) (H : Type) (enc : TypeId × Value → H) :
    ReturnsInHanded {} Try.checked os 8 .any (Rows.batchSizesSpec.pre6 enc Try.prog Try.f8 Rows.batchSizesRow.domain false) (Rows.batchSizesSpec.post enc Try.prog Try.f8 false true false false) := by
  refine returnsInHanded_of_change (C := Try.checked) own started (by kernel_rfl) Try.func8
    (ChangeSpec.witness6 (enc := enc) (C := Try.checked) false ⟨#[], #[.agg #[.int .i64 0, .int .i64 0, .slice none 0 0], .agg #[.int .i64 0, .int .i64 0, .slice none 0 0]], []⟩ 8 (by kernel_rfl) (by kernel_rfl) (by kernel_rfl) (by kernel_rfl)) ?_
  intro W base args ds gs before hval0 hW hcnd _
  have hval : ∀ (j : Nat) t v, Try.f8.params[j]? = some t → args[j]? = some v → Value.okWide Try.prog W .any base t v := hval0
  have hW' := hW
  obtain ⟨p, q, hA0, hV, rfl, hfz, hnd⟩ := hW
  have hA : DataW.TrodAll enc Try.prog W 0 (fun _ => true) true Try.f8.params.toList args.toList ds p := hA0
  rw [Try.params8] at hA hval
  obtain ⟨v0, vs0, d0, ds0, p0, q0, hargs, rfl, rfl, h0, r0⟩ := trodAll_cons hA
  obtain ⟨v1, vs1, d1, ds1, p1, q1, rfl, rfl, rfl, h1, r1⟩ := trodAll_cons r0
  obtain ⟨rfl, rfl, rfl⟩ := trodAll_nil r1
  obtain rfl : args = #[v0, v1] := by cases args; simp_all
  obtain ⟨rfl, rfl⟩ := trodVars_none hV
  have k0 := h0
  have lt0 : ∀ x ∈ p0, x.block < W.heap.size := by obtain ⟨m, hm⟩ := k0; exact DataW.trod_lt m _ _ _ hm
  obtain ⟨s0, e0, a0, len0, cap0, l0, rfl, hr0, ii0⟩ := bat_open (hval 0 24 v0 rfl rfl) h0
  have k1 := h1
  have lt1 : ∀ x ∈ p1, x.block < W.heap.size := by obtain ⟨m, hm⟩ := k1; exact DataW.trod_lt m _ _ _ hm
  obtain ⟨s1, e1, a1, len1, cap1, l1, rfl, hr1, ii1⟩ := bat_open (hval 1 24 v1 rfl rfl) h1
  clear hA0 hval0
  refine (walk s0 e0 a0 len0 cap0 l0 s1 e1 a1 len1 cap1 l1 W hr0 ii0 hr1 ii1).mono fun e W' ⟨he, bel⟩ => ?_
  subst he
  exact ⟨_, rfl, _, _, _, [], _, [], hW', trodAll_mk1 (shut_bool Try.underlying4 _), (trodAll_cons_mk (Below.trod laidOut (by kernel_rfl) (of_decide_eq_true (by kernel_rfl)) k0 bel lt0) (trodAll_cons_mk (Below.trod laidOut (by kernel_rfl) (of_decide_eq_true (by kernel_rfl)) k1 bel lt1) trodAll_mk0)), rfl, bel.frame _, fun h => by cases h⟩
theorem over : Rows.batchSizesRow.holds Try.pinned (OpenSpec.ofChange Rows.batchSizesSpec) :=
  OpenClaim.holds_of_wide 8 Try.f8 rfl rfl rfl rfl rfl rfl rfl ⟨rfl, rfl, rfl, rfl, rfl⟩ rfl rfl rfl rfl rfl (by kernel_rfl) Try.func8 (by kernel_rfl)
    (of_decide_eq_true (by kernel_rfl)) (by unfold Func.isWrapper; first | (rw [if_pos (by decide +kernel)]; kernel_rfl) | (rw [if_neg (by decide +kernel)]; exact ⟨rfl, rfl⟩))
    (fun os started H enc _ => lifted os started H enc)
theorem proved : Rows.BatchSizesSaid := over
end Go.Proofs.Ytfahgphkceilkaa.batchSizes
namespace Go.Proofs.Ytfahgphkceilkaa
theorem batchSizes_holds : Rows.BatchSizesSaid := batchSizes.proved
end Go.Proofs.Ytfahgphkceilkaa
