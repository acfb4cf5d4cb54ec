/- Whether a row ties, by the document. -/
import Derived.Test.YtkccladbcehdbaaTp
namespace Go.Proofs.Ytkccladbcehdbaa
open Go.RowKit
set_option linter.unusedVariables false
set_option linter.unusedSimpArgs false
theorem tie_no {o i u n x z : Int} (h : fits o i u n x = false) : tieB o i u n x z = false := by unfold tieB; rw [h]; rfl
theorem fits_no {o i u n x : Int} (h : ¬ (turn (o + i) = 0 ∧ turn (o + i + n) = 0 ∧ turn (o + i + n - u) = 0 ∧ turn (o + i + n - u - x) = 0)) : fits o i u n x = false := by
  cases hf : fits o i u n x with
  | false => rfl
  | true =>
    unfold fits at hf
    simp only [Bool.and_eq_true, decide_eq_true_eq] at hf
    exact absurd ⟨hf.1.1.1, hf.1.1.2, hf.1.2, hf.2⟩ h
set_option maxHeartbeats 4000000 in
theorem rties_any (o i u n x z : Int) (ho : In64 o) (hi : In64 i) (hu : In64 u) (hn : In64 n) (hx : In64 x) (w : World) : Calls Try.prog 17 #[.agg #[.int .i64 o, .int .i64 i, .int .i64 u, .int .i64 n, .int .i64 x, .int .i64 z]] w fun e w' => e = .returned (.bool (tieB o i u n x z)) ∧ Below w.heap.size w w' := by
  have HB := hide (below1 w (.cells #[.int .i64 o, .int .i64 i, .int .i64 u, .int .i64 n, .int .i64 x, .int .i64 z] 33))
  have HX := hide (Blk.new w #[.int .i64 o, .int .i64 i, .int .i64 u, .int .i64 n, .int .i64 x, .int .i64 z] 33)
  have HN := hide (fun h => tie_no (z := z) (fits_no (o := o) (i := i) (u := u) (n := n) (x := x) h))
  have HY : Hid (turn (o + i) = 0 → turn (o + i + n) = 0 → turn (o + i + n - u) = 0 → turn (o + i + n - u - x) = 0 → tieB o i u n x z = (o + i + n - u - x == z)) := hide (fun a b c d => by unfold tieB fits; rw [a, b, c, d]; simp)
  generalize tieB o i u n x z = B at *
  replace ho := hide ho
  replace hi := hide hi
  replace hu := hide hu
  replace hn := hide hn
  replace hx := hide hx
  go_enter Try.func17, Try.ntmps17
  go_wp2_with fail
  generalize w.alloc (.cells #[.int .i64 o, .int .i64 i, .int .i64 u, .int .i64 n, .int .i64 x, .int .i64 z] 33) = w1 at *
  have c2 := (unhide HX).at 2 (.int .i64 u) rfl
  have c3 := (unhide HX).at 3 (.int .i64 n) rfl
  have c4 := (unhide HX).at 4 (.int .i64 x) rfl
  have c5 := (unhide HX).at 5 (.int .i64 z) rfl
  clear HX
  refine (Mn.radd_any o i (unhide ho) (unhide hi) _).mono ?_
  rintro e w2 ⟨rfl, rfl⟩
  by_cases g1 : turn (o + i) = 0
  · rw [okN_in g1, okE_in g1]
    have t1 := hide g1
    clear g1
    go_wp2_with fail
    refine (Mn.radd_any (o + i) n (in_of_turn (unhide t1)) (unhide hn) _).mono ?_
    rintro e w2 ⟨rfl, rfl⟩
    by_cases g2 : turn (o + i + n) = 0
    · rw [okN_in g2, okE_in g2]
      have t2 := hide g2
      clear g2
      go_wp2_with fail
      refine (Mn.rsub_any (o + i + n) u (in_of_turn (unhide t2)) (unhide hu) _).mono ?_
      rintro e w2 ⟨rfl, rfl⟩
      by_cases g3 : turn (o + i + n - u) = 0
      · rw [okN_in g3, okE_in g3]
        have t3 := hide g3
        clear g3
        go_wp2_with fail
        refine (Mn.rsub_any (o + i + n - u) x (in_of_turn (unhide t3)) (unhide hx) _).mono ?_
        rintro e w2 ⟨rfl, rfl⟩
        by_cases g4 : turn (o + i + n - u - x) = 0
        · rw [okN_in g4, okE_in g4]
          have t4 := hide g4
          clear g4
          obtain rfl : B = _ := unhide HY (unhide t1) (unhide t2) (unhide t3) (unhide t4)
          clear HY HN
          go_wp2_with fail
          go_ret
          exact ⟨rfl, unhide HB⟩
        · rw [okN_out g4, okE_out g4]
          obtain rfl : B = false := unhide HN (fun c => g4 c.2.2.2)
          clear HN HY g4
          go_wp2_with fail
          go_ret
          exact ⟨rfl, unhide HB⟩
      · rw [okN_out g3, okE_out g3]
        obtain rfl : B = false := unhide HN (fun c => g3 c.2.2.1)
        clear HN HY g3
        go_wp2_with fail
        go_ret
        exact ⟨rfl, unhide HB⟩
    · rw [okN_out g2, okE_out g2]
      obtain rfl : B = false := unhide HN (fun c => g2 c.2.1)
      clear HN HY g2
      go_wp2_with fail
      go_ret
      exact ⟨rfl, unhide HB⟩
  · rw [okN_out g1, okE_out g1]
    obtain rfl : B = false := unhide HN (fun c => g1 c.1)
    clear HN HY g1
    go_wp2_with fail
    go_ret
    exact ⟨rfl, unhide HB⟩
end Go.Proofs.Ytkccladbcehdbaa
