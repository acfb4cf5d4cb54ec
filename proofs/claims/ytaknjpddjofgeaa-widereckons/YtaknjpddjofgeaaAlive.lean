/- The document's examples of layer 2 come out as the chapter says. -/
import Derived.Test.YtaknjpddjofgeaaWide7
namespace Go.Proofs.Ytaknjpddjofgeaa
open Go.RowKit
theorem in64_small {n : Int} (h : -1000 ≤ n ∧ n ≤ 1000) : In64 n := ⟨by omega, by omega⟩
theorem ex_a (w : World) : Calls Try.prog 22 #[.int .i64 7, .int .i64 1, .int .i64 2, .int .i64 1] w fun e w' => e = .returned (.tuple #[.int .i64 4, .int .i64 0]) ∧ Below w.heap.size w w' := by
  have h := muldiv_near 7 1 2 (in64_small (by omega)) (in64_small (by omega)) (in64_small (by omega)) (by omega) w
  rw [show okN (quot 1 (7 * 1) 2) = 4 from by decide, show okE (quot 1 (7 * 1) 2) = 0 from by decide] at h
  exact h
theorem ex_b (w : World) : Calls Try.prog 22 #[.int .i64 5, .int .i64 1, .int .i64 2, .int .i64 1] w fun e w' => e = .returned (.tuple #[.int .i64 2, .int .i64 0]) ∧ Below w.heap.size w w' := by
  have h := muldiv_near 5 1 2 (in64_small (by omega)) (in64_small (by omega)) (in64_small (by omega)) (by omega) w
  rw [show okN (quot 1 (5 * 1) 2) = 2 from by decide, show okE (quot 1 (5 * 1) 2) = 0 from by decide] at h
  exact h
theorem ex_c (w : World) : Calls Try.prog 22 #[.int .i64 (-5), .int .i64 1, .int .i64 2, .int .i64 1] w fun e w' => e = .returned (.tuple #[.int .i64 (-2), .int .i64 0]) ∧ Below w.heap.size w w' := by
  have h := muldiv_near (-5) 1 2 (in64_small (by omega)) (in64_small (by omega)) (in64_small (by omega)) (by omega) w
  rw [show okN (quot 1 (-5 * 1) 2) = -2 from by decide, show okE (quot 1 (-5 * 1) 2) = 0 from by decide] at h
  exact h
theorem ex_d (w : World) : Calls Try.prog 22 #[.int .i64 (-5), .int .i64 1, .int .i64 2, .int .i64 0] w fun e w' => e = .returned (.tuple #[.int .i64 (-3), .int .i64 0]) ∧ Below w.heap.size w w' := by
  have h := muldiv_floor (-5) 1 2 (in64_small (by omega)) (in64_small (by omega)) (in64_small (by omega)) (by omega) w
  rw [show okN (quot 0 (-5 * 1) 2) = -3 from by decide, show okE (quot 0 (-5 * 1) 2) = 0 from by decide] at h
  exact h
theorem ex_f (w : World) : Calls Try.prog 22 #[.int .i64 1, .int .i64 1, .int .i64 0, .int .i64 0] w fun e w' => e = .returned (.tuple #[.int .i64 0, .int .i64 4]) ∧ Below w.heap.size w w' :=
  muldiv_by0 1 1 0 (in64_small (by omega)) (in64_small (by omega)) (by omega) (by omega) w
set_option maxHeartbeats 400000 in
theorem alive_any (w : World) : Calls Try.prog 9 #[] w fun e w' => e = .returned (.bool true) ∧ Below w.heap.size w w' := by
  go_enter Try.func9, Try.ntmps9
  go_wp2_with fail
  refine (ex_a _).mono ?_
  rintro e w1 ⟨rfl, hb1⟩
  replace hb1 := hide hb1
  go_wp2_with fail
  refine (ex_b _).mono ?_
  rintro e w2 ⟨rfl, hb2⟩
  replace hb2 := hide (below_via (unhide hb1) hb2)
  clear hb1
  go_wp2_with fail
  refine (ex_c _).mono ?_
  rintro e w3 ⟨rfl, hb3⟩
  replace hb3 := hide (below_via (unhide hb2) hb3)
  clear hb2
  go_wp2_with fail
  refine (ex_d _).mono ?_
  rintro e w4 ⟨rfl, hb4⟩
  replace hb4 := hide (below_via (unhide hb3) hb4)
  clear hb3
  go_wp2_with fail
  refine (ex_f _).mono ?_
  rintro e w5 ⟨rfl, hb5⟩
  replace hb5 := hide (below_via (unhide hb4) hb5)
  clear hb4
  go_wp2_with fail
  go_ret
  exact ⟨rfl, unhide hb5⟩
end Go.Proofs.Ytaknjpddjofgeaa
