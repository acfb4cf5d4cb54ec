/- The document's Get: bytes that aren't a batch's. -/
import Derived.Test.YtfahgphkceilkaaGt
namespace Go.Proofs.Ytfahgphkceilkaa
open Go.RowKit
set_option linter.unusedVariables false
set_option linter.unusedSimpArgs false
theorem lis_at (xs : List Nat) (k : Nat) : linesB (k + 1) (xs.drop 11) = linesB k (xs.drop 11) ++ [(((xs.getD (11 + 9 * k) 0 : Nat) : Int), wrap64 (valB (((xs.drop (11 + 9 * k)).take 9).drop 1) : Nat))] := by
  rw [linesB_next, List.drop_drop]
  congr 1
  unfold lineOf
  rw [List.drop_take]
  congr 2
  congr 1
  simp [List.getD]
theorem rget_short (a : Option Addr) (n cap : Nat) (w : World) (h : n < 15) : Calls Try.prog 19 #[.slice a n cap] w fun e w' => e = .returned (.tuple #[.agg #[.int .i64 0, .int .i64 0, .slice none 0 0], .int .i64 14]) ∧ Below w.heap.size w w' := by
  have HB := hide (below1 w (.cells #[.int .i64 0, .int .i64 0, .slice none 0 0] 24))
  have HX := hide (Blk.new w #[.int .i64 0, .int .i64 0, .slice none 0 0] 24)
  have HE := hide (rfl : (14 : Int) = 14)
  go_enter Try.func19, Try.ntmps19
  go_wp2_with (refine store_blk rfl 24 _ _ rfl (show Blk _ _ _ _ from unhide HX) rfl rfl size24 rfl rfl rfl ?_)
  intro w4 k4 kp
  have k6 := kp.bel (Nat.le_refl _) (unhide HB)
  clear kp HX HB
  go_wp2_with fail
  exact bodyPost_ret (v := .tuple #[.agg #[.int .i64 0, .int .i64 0, .slice none 0 0], .int .i64 14]) (res_ct (cs0 := #[.int .i64 0, .int .i64 0, .slice none 0 0]) rfl k4 row24 size24 rfl rfl rfl) rfl ⟨rfl, k6⟩
set_option maxHeartbeats 2000000 in
theorem rget_first (b off cap n : Nat) (w : World) (c0 c1 c : Nat) (m0 : w.cell? ⟨b, off, none⟩ = some (.int .u8 (c0 : Int))) (m1 : w.cell? ⟨b, off + 1, none⟩ = some (.int .u8 (c1 : Int))) (m10 : w.cell? ⟨b, off + 10, none⟩ = some (.int .u8 (c : Int))) (hn : 15 ≤ n) (hc : c < 256) (hm : n ≤ 9223372036854775807) (h : ¬ c0 = 76) : Calls Try.prog 19 #[.slice (some ⟨b, off, none⟩) n cap] w fun e w' => e = .returned (.tuple #[.agg #[.int .i64 0, .int .i64 0, .slice none 0 0], .int .i64 6]) ∧ Below w.heap.size w w' := by
  have HB := hide (below1 w (.cells #[.int .i64 0, .int .i64 0, .slice none 0 0] 24))
  have HX := hide (Blk.new w #[.int .i64 0, .int .i64 0, .slice none 0 0] 24)
  have HE := hide (rfl : (14 : Int) = 14)
  have lt := lt_of_cell m0
  replace m0 := (below1 w (.cells #[.int .i64 0, .int .i64 0, .slice none 0 0] 24)).cell (p := ⟨b, off, none⟩) lt |>.trans m0
  replace m1 := (below1 w (.cells #[.int .i64 0, .int .i64 0, .slice none 0 0] 24)).cell (p := ⟨b, off + 1, none⟩) lt |>.trans m1
  replace m10 := (below1 w (.cells #[.int .i64 0, .int .i64 0, .slice none 0 0] 24)).cell (p := ⟨b, off + 10, none⟩) lt |>.trans m10
  have e2 : ¬ (c0 : Int) = 76 := by omega
  go_enter Try.func19, Try.ntmps19
  go_wp2_with (refine store_blk rfl 24 _ _ rfl (show Blk _ _ _ _ from unhide HX) rfl rfl size24 rfl rfl rfl ?_)
  intro w4 k4 kp
  have k6 := kp.bel (Nat.le_refl _) (unhide HB)
  clear kp HX HB
  go_wp2_with fail
  exact bodyPost_ret (v := .tuple #[.agg #[.int .i64 0, .int .i64 0, .slice none 0 0], .int .i64 6]) (res_ct (cs0 := #[.int .i64 0, .int .i64 0, .slice none 0 0]) rfl k4 row24 size24 rfl rfl rfl) rfl ⟨rfl, k6⟩
set_option maxHeartbeats 2000000 in
theorem rget_second (b off cap n : Nat) (w : World) (c0 c1 c : Nat) (m0 : w.cell? ⟨b, off, none⟩ = some (.int .u8 (c0 : Int))) (m1 : w.cell? ⟨b, off + 1, none⟩ = some (.int .u8 (c1 : Int))) (m10 : w.cell? ⟨b, off + 10, none⟩ = some (.int .u8 (c : Int))) (hn : 15 ≤ n) (hc : c < 256) (hm : n ≤ 9223372036854775807) (h0 : c0 = 76) (h : ¬ c1 = 66) : Calls Try.prog 19 #[.slice (some ⟨b, off, none⟩) n cap] w fun e w' => e = .returned (.tuple #[.agg #[.int .i64 0, .int .i64 0, .slice none 0 0], .int .i64 6]) ∧ Below w.heap.size w w' := by
  have HB := hide (below1 w (.cells #[.int .i64 0, .int .i64 0, .slice none 0 0] 24))
  have HX := hide (Blk.new w #[.int .i64 0, .int .i64 0, .slice none 0 0] 24)
  have HE := hide (rfl : (14 : Int) = 14)
  have lt := lt_of_cell m0
  replace m0 := (below1 w (.cells #[.int .i64 0, .int .i64 0, .slice none 0 0] 24)).cell (p := ⟨b, off, none⟩) lt |>.trans m0
  replace m1 := (below1 w (.cells #[.int .i64 0, .int .i64 0, .slice none 0 0] 24)).cell (p := ⟨b, off + 1, none⟩) lt |>.trans m1
  replace m10 := (below1 w (.cells #[.int .i64 0, .int .i64 0, .slice none 0 0] 24)).cell (p := ⟨b, off + 10, none⟩) lt |>.trans m10
  subst h0
  have e2 : ¬ (c1 : Int) = 66 := by omega
  go_enter Try.func19, Try.ntmps19
  go_wp2_with (refine store_blk rfl 24 _ _ rfl (show Blk _ _ _ _ from unhide HX) rfl rfl size24 rfl rfl rfl ?_)
  intro w4 k4 kp
  have k6 := kp.bel (Nat.le_refl _) (unhide HB)
  clear kp HX HB
  go_wp2_with fail
  exact bodyPost_ret (v := .tuple #[.agg #[.int .i64 0, .int .i64 0, .slice none 0 0], .int .i64 6]) (res_ct (cs0 := #[.int .i64 0, .int .i64 0, .slice none 0 0]) rfl k4 row24 size24 rfl rfl rfl) rfl ⟨rfl, k6⟩
set_option maxHeartbeats 2000000 in
theorem rget_less (b off cap n : Nat) (w : World) (c0 c1 c : Nat) (m0 : w.cell? ⟨b, off, none⟩ = some (.int .u8 (c0 : Int))) (m1 : w.cell? ⟨b, off + 1, none⟩ = some (.int .u8 (c1 : Int))) (m10 : w.cell? ⟨b, off + 10, none⟩ = some (.int .u8 (c : Int))) (hn : 15 ≤ n) (hc : c < 256) (hm : n ≤ 9223372036854775807) (h0 : c0 = 76) (h1 : c1 = 66) (h : n < 15 + 9 * c) : Calls Try.prog 19 #[.slice (some ⟨b, off, none⟩) n cap] w fun e w' => e = .returned (.tuple #[.agg #[.int .i64 0, .int .i64 0, .slice none 0 0], .int .i64 14]) ∧ Below w.heap.size w w' := by
  have HB := hide (below1 w (.cells #[.int .i64 0, .int .i64 0, .slice none 0 0] 24))
  have HX := hide (Blk.new w #[.int .i64 0, .int .i64 0, .slice none 0 0] 24)
  have HE := hide (rfl : (14 : Int) = 14)
  have lt := lt_of_cell m0
  replace m0 := (below1 w (.cells #[.int .i64 0, .int .i64 0, .slice none 0 0] 24)).cell (p := ⟨b, off, none⟩) lt |>.trans m0
  replace m1 := (below1 w (.cells #[.int .i64 0, .int .i64 0, .slice none 0 0] 24)).cell (p := ⟨b, off + 1, none⟩) lt |>.trans m1
  replace m10 := (below1 w (.cells #[.int .i64 0, .int .i64 0, .slice none 0 0] 24)).cell (p := ⟨b, off + 10, none⟩) lt |>.trans m10
  subst h0 h1
  have e3 : IntKind.i64.wrap (9 * (c : Int)) = 9 * (c : Int) := wrap_in' ⟨by omega, by omega⟩
  have e4 : IntKind.i64.wrap (15 + 9 * (c : Int)) = 15 + 9 * (c : Int) := wrap_in' ⟨by omega, by omega⟩
  have e5 : (n : Int) < 15 + 9 * (c : Int) := by omega
  go_enter Try.func19, Try.ntmps19
  go_wp2_with (refine store_blk rfl 24 _ _ rfl (show Blk _ _ _ _ from unhide HX) rfl rfl size24 rfl rfl rfl ?_)
  intro w4 k4 kp
  have k6 := kp.bel (Nat.le_refl _) (unhide HB)
  clear kp HX HB
  go_wp2_with fail
  exact bodyPost_ret (v := .tuple #[.agg #[.int .i64 0, .int .i64 0, .slice none 0 0], .int .i64 14]) (res_ct (cs0 := #[.int .i64 0, .int .i64 0, .slice none 0 0]) rfl k4 row24 size24 rfl rfl rfl) rfl ⟨rfl, k6⟩
set_option maxHeartbeats 2000000 in
theorem rget_more (b off cap n : Nat) (w : World) (c0 c1 c : Nat) (m0 : w.cell? ⟨b, off, none⟩ = some (.int .u8 (c0 : Int))) (m1 : w.cell? ⟨b, off + 1, none⟩ = some (.int .u8 (c1 : Int))) (m10 : w.cell? ⟨b, off + 10, none⟩ = some (.int .u8 (c : Int))) (hn : 15 ≤ n) (hc : c < 256) (hm : n ≤ 9223372036854775807) (h0 : c0 = 76) (h1 : c1 = 66) (h : 15 + 9 * c < n) : Calls Try.prog 19 #[.slice (some ⟨b, off, none⟩) n cap] w fun e w' => e = .returned (.tuple #[.agg #[.int .i64 0, .int .i64 0, .slice none 0 0], .int .i64 6]) ∧ Below w.heap.size w w' := by
  have HB := hide (below1 w (.cells #[.int .i64 0, .int .i64 0, .slice none 0 0] 24))
  have HX := hide (Blk.new w #[.int .i64 0, .int .i64 0, .slice none 0 0] 24)
  have HE := hide (rfl : (14 : Int) = 14)
  have lt := lt_of_cell m0
  replace m0 := (below1 w (.cells #[.int .i64 0, .int .i64 0, .slice none 0 0] 24)).cell (p := ⟨b, off, none⟩) lt |>.trans m0
  replace m1 := (below1 w (.cells #[.int .i64 0, .int .i64 0, .slice none 0 0] 24)).cell (p := ⟨b, off + 1, none⟩) lt |>.trans m1
  replace m10 := (below1 w (.cells #[.int .i64 0, .int .i64 0, .slice none 0 0] 24)).cell (p := ⟨b, off + 10, none⟩) lt |>.trans m10
  subst h0 h1
  have e3 : IntKind.i64.wrap (9 * (c : Int)) = 9 * (c : Int) := wrap_in' ⟨by omega, by omega⟩
  have e4 : IntKind.i64.wrap (15 + 9 * (c : Int)) = 15 + 9 * (c : Int) := wrap_in' ⟨by omega, by omega⟩
  have e5 : ¬ (n : Int) < 15 + 9 * (c : Int) := by omega
  have e6 : 15 + 9 * (c : Int) < (n : Int) := by omega
  go_enter Try.func19, Try.ntmps19
  go_wp2_with (refine store_blk rfl 24 _ _ rfl (show Blk _ _ _ _ from unhide HX) rfl rfl size24 rfl rfl rfl ?_)
  intro w4 k4 kp
  have k6 := kp.bel (Nat.le_refl _) (unhide HB)
  clear kp HX HB
  go_wp2_with fail
  exact bodyPost_ret (v := .tuple #[.agg #[.int .i64 0, .int .i64 0, .slice none 0 0], .int .i64 6]) (res_ct (cs0 := #[.int .i64 0, .int .i64 0, .slice none 0 0]) rfl k4 row24 size24 rfl rfl rfl) rfl ⟨rfl, k6⟩
end Go.Proofs.Ytfahgphkceilkaa
