/- The document's examples come out. -/
import Derived.Test.YtdejpbbiomdkjaaPower
namespace Go.Proofs.Ytdejpbbiomdkjaa
open Go.RowKit
set_option linter.unusedSimpArgs false
theorem ex_a : Ans 10 1000 50000000000 50 0 := by
  have h := interest_ok (x := 1000) (r := 50000000000) ⟨by omega, by omega⟩ ⟨by omega, by omega⟩
  rwa [show okN (qI 1000 50000000000) = 50 from by decide +kernel, show okE (qI 1000 50000000000) = 0 from by decide +kernel] at h
theorem ex_b : Ans 14 1050 50000000000 1000 0 := by
  have h := discount_ok (x := 1050) (r := 50000000000) ⟨by omega, by omega⟩ ⟨by omega, by omega⟩
  rwa [show okN (qD 1050 50000000000) = 1000 from by decide +kernel, show okE (qD 1050 50000000000) = 0 from by decide +kernel] at h
theorem ex_c : Pows 100000000000 2 1210000000000 0 := by
  have h := power_yes 100000000000 2 (by omega) ⟨by omega, by omega⟩
  rwa [show pN (pw 100000000000 2) = 1210000000000 from by decide +kernel, show pE (pw 100000000000 2) = 0 from by decide +kernel] at h
theorem ex_d : Ans 12 1 10000000000001 0 2 := grow_no (fun h => absurd h.2 (by omega))
set_option maxHeartbeats 400000 in
theorem alive_any (w : World) : Calls Try.prog 9 #[] w fun e w' => e = .returned (.bool true) ∧ Below w.heap.size w w' := by
  have ha := hide ex_a
  have hb := hide ex_b
  have hc := hide ex_c
  have hd := hide ex_d
  go_enter Try.func9, Try.ntmps9
  go_wp2_with fail
  refine (unhide ha _).mono ?_
  rintro e w1 ⟨rfl, hb1⟩
  replace hb1 := hide hb1
  go_wp2_with fail
  refine (unhide hb _).mono ?_
  rintro e w2 ⟨rfl, hb2⟩
  replace hb2 := hide (below_via (unhide hb1) hb2)
  clear hb1
  go_wp2_with fail
  refine (unhide hc _).mono ?_
  rintro e w3 ⟨rfl, hb3⟩
  replace hb3 := hide (below_via (unhide hb2) hb3)
  clear hb2
  go_wp2_with fail
  refine (unhide hd _).mono ?_
  rintro e w4 ⟨rfl, hb4⟩
  replace hb4 := hide (below_via (unhide hb3) hb4)
  clear hb3
  go_wp2_with fail
  go_ret
  exact ⟨rfl, unhide hb4⟩
end Go.Proofs.Ytdejpbbiomdkjaa
