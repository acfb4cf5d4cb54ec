/- The document's example. -/
import Derived.Test.YtkccladbcehdbaaTo
namespace Go.Proofs.Ytkccladbcehdbaa
open Go.RowKit
set_option linter.unusedVariables false
set_option linter.unusedSimpArgs false
def Alive : Prop := ∀ w : World, Calls Try.prog 9 #[] w fun e w' => e = .returned (.bool true) ∧ Below w.heap.size w w'
abbrev eg16 : List Ch := [⟨1, 2, 4, 7, 0⟩]
theorem eg16_roll : RollR 10 0 0 eg16 ⟨10, 0, 4, 0, 0, 6⟩ ⟨0, 4, 0, 3, 0, 7⟩ rw0 0 := .inr (.inr ⟨by decide, by decide, by simp [rwS, putS, putN], by simp [rwS, putS, putN], by simp [rwS, putS, putN], rfl⟩)
theorem eg16_row {w : World} {b : Nat} (h : Blk w b #[.int .i64 1, .int .i64 2, .int .i64 4, .int .i64 7, .int .i64 0] 50) : RowG 5 w (.slice (some ⟨b, 0, none⟩) 1 1) (eg16.map chL) := by
  refine Or.inr ⟨b, 0, 1, rfl, by decide, by decide, by decide, fun j hj t ht => ?_, fit_chs _⟩
  rw [Nat.zero_add]
  have hj' : j < 1 := hj
  match j, hj', t, ht with
  | 0, _, 0, _ => exact h.at 0 _ rfl
  | 0, _, 1, _ => exact h.at 1 _ rfl
  | 0, _, 2, _ => exact h.at 2 _ rfl
  | 0, _, 3, _ => exact h.at 3 _ rfl
  | 0, _, 4, _ => exact h.at 4 _ rfl
theorem eg_tie : tieB 0 4 0 3 0 7 = true := by decide
set_option maxHeartbeats 2000000 in
theorem alive_any : Alive := by
  intro w
  have HR := hide (roll_any (w.alloc (.cells #[.int .i64 1, .int .i64 2, .int .i64 4, .int .i64 7, .int .i64 0] 50)) _ 10 0 0 eg16 (eg16_row (Blk.new w #[.int .i64 1, .int .i64 2, .int .i64 4, .int .i64 7, .int .i64 0] 50)))
  have HT := hide (fun w => ti_any 0 4 0 3 0 7 in_0 ⟨by decide, by decide⟩ in_0 ⟨by decide, by decide⟩ in_0 w)
  have HO := hide eg16_roll
  have HE := hide eg_tie
  go_enter Try.func9, Try.ntmps9
  go_wp2_with fail
  refine (unhide HR).mono ?_
  rintro e w1 ⟨r, s, t, e1, rfl, hb, hr⟩
  obtain ⟨rfl, rfl, rfl, rfl⟩ := hr.only (unhide HO)
  have HB := hide (below_via (below1 w _) hb)
  clear hb hr HR HO
  go_wp2_with (refine store_blk rfl 27 _ _ rfl (Blk.new w1 _ _) rfl rfl size27 rfl rfl rfl ?_)
  intro w2 k2 kp
  have hsz := hide (unhide HB).size
  have HB2 := hide (kp.bel (unhide hsz) (below_via (unhide HB) (below1 w1 _)))
  have HX := hide k2
  clear kp k2 HB
  generalize w1.heap.size = nb at *
  have c0 := (show Blk _ _ _ _ from unhide HX).at 0 (.int .i64 10) rfl
  have c1 := (show Blk _ _ _ _ from unhide HX).at 1 (.int .i64 0) rfl
  have c2 := (show Blk _ _ _ _ from unhide HX).at 2 (.int .i64 4) rfl
  have c3 := (show Blk _ _ _ _ from unhide HX).at 3 (.int .i64 0) rfl
  have c4 := (show Blk _ _ _ _ from unhide HX).at 4 (.int .i64 0) rfl
  have c5 := (show Blk _ _ _ _ from unhide HX).at 5 (.int .i64 6) rfl
  have c6 := (show Blk _ _ _ _ from unhide HX).at 6 (.int .i64 0) rfl
  have c7 := (show Blk _ _ _ _ from unhide HX).at 7 (.int .i64 4) rfl
  have c8 := (show Blk _ _ _ _ from unhide HX).at 8 (.int .i64 0) rfl
  have c9 := (show Blk _ _ _ _ from unhide HX).at 9 (.int .i64 3) rfl
  have c10 := (show Blk _ _ _ _ from unhide HX).at 10 (.int .i64 0) rfl
  have c11 := (show Blk _ _ _ _ from unhide HX).at 11 (.int .i64 7) rfl
  go_wp2_with fail
  refine (unhide HT _).mono ?_
  rintro e w3 ⟨rfl, hb⟩
  rw [unhide HE]
  replace HB2 := hide (below_via (unhide HB2) hb)
  clear hb
  go_wp2_with fail
  go_ret
  exact ⟨rfl, unhide HB2⟩
end Go.Proofs.Ytkccladbcehdbaa
