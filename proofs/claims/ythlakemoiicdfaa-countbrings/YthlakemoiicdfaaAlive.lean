/- The document's examples come out. -/
import Derived.Test.YthlakemoiicdfaaAcc
namespace Go.Proofs.Ythlakemoiicdfaa
open Go.RowKit
open Dy (Froms Valid build3 from_ok num)
set_option linter.unusedSimpArgs false
theorem v_a : Valid 2020 1 31 := ⟨by omega, by omega, by omega, by omega, by omega, by decide +kernel⟩
theorem v_b : Valid 2020 3 1 := ⟨by omega, by omega, by omega, by omega, by omega, by decide +kernel⟩
theorem n_a : num 2020 1 31 = 737455 := by decide +kernel
theorem n_b : num 2020 3 1 = 737485 := by decide +kernel
theorem ex_a : Froms 2020 1 31 737455 0 := by have h := from_ok v_a; rwa [n_a] at h
theorem ex_b : Froms 2020 3 1 737485 0 := by have h := from_ok v_b; rwa [n_b] at h
theorem ex_c : DaysA 737455 737485 1 31 0 := by
  have h1 := flat_ok v_a
  have h2 := flat_ok v_b
  rw [n_a, show fp 2020 1 31 = 727260 from by decide +kernel] at h1
  rw [n_b, show fp 2020 3 1 = 727291 from by decide +kernel] at h2
  exact days_1 _ _ 727260 727291 (by omega) (by omega) (by omega) (by omega) (hide h1) (hide h2)
theorem ex_d : DaysA 737455 737485 2 30 0 := days_2 _ _ 737455 737485 (by omega) (by omega) (by omega) (by omega) (hide (real_ok _ (by omega) (by omega))) (hide (real_ok _ (by omega) (by omega)))
theorem ex_e : DaysA 737455 737465 2 10 0 := days_2 _ _ 737455 737465 (by omega) (by omega) (by omega) (by omega) (hide (real_ok _ (by omega) (by omega))) (hide (real_ok _ (by omega) (by omega)))
theorem ex_p : Parts 100000000000 10 360 2777777778 0 := by
  have h := part_yes 100000000000 10 360 ⟨by omega, by omega⟩ ⟨by omega, by omega⟩ ⟨by omega, by omega⟩ (by omega) (by omega)
  rwa [show okN (near (100000000000 * 10) 360) = 2777777778 from by decide +kernel, show okE (near (100000000000 * 10) 360) = 0 from by decide +kernel] at h
theorem ex_i : Ans 20 36000 2777777778 100 0 := by
  have h := interest_ok (x := 36000) (r := 2777777778) ⟨by omega, by omega⟩ ⟨by omega, by omega⟩
  rwa [show okN (qI 36000 2777777778) = 100 from by decide +kernel, show okE (qI 36000 2777777778) = 0 from by decide +kernel] at h
theorem ex_f : AccA 36000 100000000000 737455 737465 2 100 0 := acc_ok _ _ _ _ 2 10 360 2777777778 100 0 (hide ex_e) (decide_eq_false (by omega)) (hide (may_yes ⟨by omega, by omega⟩)) (hide basis_2) (hide ex_p) (hide ex_i)
set_option maxRecDepth 20000 in
set_option maxHeartbeats 1000000 in
theorem alive_any (w : World) : Calls Try.prog 8 #[] w fun e w' => e = .returned (.bool true) ∧ Below w.heap.size w w' := by
  have ha := hide ex_a
  have hb := hide ex_b
  have hc := hide ex_c
  have hd := hide ex_d
  have hf := hide ex_f
  have hg := hide basis_3
  go_enter Try.func8, Try.ntmps8
  go_wp2_with (simp only [build3])
  refine (unhide ha _).mono ?_
  rintro e w1 ⟨rfl, hb1⟩
  replace hb1 := hide hb1
  go_wp2_with (simp only [build3])
  refine (unhide hb _).mono ?_
  rintro e w2 ⟨rfl, hb2⟩
  replace hb2 := hide (below_via (unhide hb1) hb2)
  clear hb1
  go_wp2_with (simp only [build3])
  refine (unhide hc _).mono ?_
  rintro e w3 ⟨rfl, hb3⟩
  replace hb3 := hide (below_via (unhide hb2) hb3)
  clear hb2
  go_wp2_with (simp only [build3])
  refine (unhide hd _).mono ?_
  rintro e w4 ⟨rfl, hb4⟩
  replace hb4 := hide (below_via (unhide hb3) hb4)
  clear hb3
  go_wp2_with (simp only [build3])
  refine (unhide hf _).mono ?_
  rintro e w5 ⟨rfl, hb5⟩
  replace hb5 := hide (below_via (unhide hb4) hb5)
  clear hb4
  go_wp2_with (simp only [build3])
  refine (unhide hg _).mono ?_
  rintro e w6 ⟨rfl, hb6⟩
  replace hb6 := hide (below_via (unhide hb5) hb6)
  clear hb5
  go_wp2_with fail
  go_ret
  exact ⟨rfl, unhide hb6⟩
end Go.Proofs.Ythlakemoiicdfaa
