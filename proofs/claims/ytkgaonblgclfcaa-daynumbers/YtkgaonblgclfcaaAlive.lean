/- The document's examples come out. -/
import Derived.Test.YtkgaonblgclfcaaFrom
namespace Go.Proofs.Ytkgaonblgclfcaa
open Go.RowKit
set_option linter.unusedSimpArgs false
theorem ex_a : Froms 2000 1 1 730120 0 := by
  have h := from_ok (y := 2000) (m := 1) (d := 1) ⟨by omega, by omega, by omega, by omega, by omega, by decide +kernel⟩
  rwa [show num 2000 1 1 = 730120 from by decide +kernel] at h
theorem ex_b : Tos 3652059 9999 12 31 0 := by
  have h := to_ok 9999 12 31 ⟨by omega, by omega, by omega, by omega, by omega, by decide +kernel⟩
  rwa [show num 9999 12 31 = 3652059 from by decide +kernel] at h
set_option maxRecDepth 20000 in
set_option maxHeartbeats 1000000 in
theorem alive_any (w : World) : Calls Try.prog 8 #[] w fun e w' => e = .returned (.bool true) ∧ Below w.heap.size w w' := by
  have ha := hide ex_a
  have hb := hide ex_b
  have hc := hide (weekday_any 730120)
  have hq : ∀ w, (binOp .eql 23 (.agg #[.int .i64 9999, .int .i64 12, .int .i64 31]) (.agg #[.int .i64 9999, .int .i64 12, .int .i64 31])).run Try.prog w = .ok (.bool true) w := fun w => by rw [eql23]; rfl
  go_enter Try.func8, Try.ntmps8
  go_wp2_with (simp only [build3])
  refine (unhide ha _).mono ?_
  rintro e w1 ⟨rfl, hb1⟩
  replace hb1 := hide hb1
  go_wp2_with fail
  refine (unhide hb _).mono ?_
  rintro e w2 ⟨rfl, hb2⟩
  replace hb2 := hide (below_via (unhide hb1) hb2)
  clear hb1
  have BB := hide (below_via (unhide hb2) (below_new (.cells #[.int .i64 0, .int .i64 0, .int .i64 0] 23) (.int .i64 9999) (.int .i64 12) (.int .i64 31)))
  go_wp2_with (simp only [build3])
  refine (unhide hc _).mono ?_
  rintro e w3 ⟨rfl, rfl⟩
  go_wp2_with (simp only [build3])
  go_ret
  exact ⟨rfl, unhide BB⟩
end Go.Proofs.Ytkgaonblgclfcaa
