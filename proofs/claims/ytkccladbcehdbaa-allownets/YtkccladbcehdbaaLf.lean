/- What may be: amounts, stages, changes. -/
import Derived.Test.YtkccladbcehdbaaPl
namespace Go.Proofs.Ytkccladbcehdbaa
open Go.RowKit
set_option linter.unusedVariables false
set_option linter.unusedSimpArgs false
theorem ix22_0 (v0 v1 v2 : Int) (w : World) : Sem.run Try.prog (Instr.index 22 (.agg #[.int .i64 v0, .int .i64 v1, .int .i64 v2]) (.int .i64 0)) w = .ok (.int .i64 v0) w := by kernel_rfl
theorem ix22_1 (v0 v1 v2 : Int) (w : World) : Sem.run Try.prog (Instr.index 22 (.agg #[.int .i64 v0, .int .i64 v1, .int .i64 v2]) (.int .i64 1)) w = .ok (.int .i64 v1) w := by kernel_rfl
theorem ix22_2 (v0 v1 v2 : Int) (w : World) : Sem.run Try.prog (Instr.index 22 (.agg #[.int .i64 v0, .int .i64 v1, .int .i64 v2]) (.int .i64 2)) w = .ok (.int .i64 v2) w := by kernel_rfl
theorem ix60_0 (v0 v1 v2 v3 v4 v5 : Int) (w : World) : Sem.run Try.prog (Instr.index 60 (.agg #[.int .i64 v0, .int .i64 v1, .int .i64 v2, .int .i64 v3, .int .i64 v4, .int .i64 v5]) (.int .i64 0)) w = .ok (.int .i64 v0) w := by kernel_rfl
theorem ix60_1 (v0 v1 v2 v3 v4 v5 : Int) (w : World) : Sem.run Try.prog (Instr.index 60 (.agg #[.int .i64 v0, .int .i64 v1, .int .i64 v2, .int .i64 v3, .int .i64 v4, .int .i64 v5]) (.int .i64 1)) w = .ok (.int .i64 v1) w := by kernel_rfl
theorem ix60_2 (v0 v1 v2 v3 v4 v5 : Int) (w : World) : Sem.run Try.prog (Instr.index 60 (.agg #[.int .i64 v0, .int .i64 v1, .int .i64 v2, .int .i64 v3, .int .i64 v4, .int .i64 v5]) (.int .i64 2)) w = .ok (.int .i64 v2) w := by kernel_rfl
theorem ix60_3 (v0 v1 v2 v3 v4 v5 : Int) (w : World) : Sem.run Try.prog (Instr.index 60 (.agg #[.int .i64 v0, .int .i64 v1, .int .i64 v2, .int .i64 v3, .int .i64 v4, .int .i64 v5]) (.int .i64 3)) w = .ok (.int .i64 v3) w := by kernel_rfl
theorem ix60_4 (v0 v1 v2 v3 v4 v5 : Int) (w : World) : Sem.run Try.prog (Instr.index 60 (.agg #[.int .i64 v0, .int .i64 v1, .int .i64 v2, .int .i64 v3, .int .i64 v4, .int .i64 v5]) (.int .i64 4)) w = .ok (.int .i64 v4) w := by kernel_rfl
theorem ix60_5 (v0 v1 v2 v3 v4 v5 : Int) (w : World) : Sem.run Try.prog (Instr.index 60 (.agg #[.int .i64 v0, .int .i64 v1, .int .i64 v2, .int .i64 v3, .int .i64 v4, .int .i64 v5]) (.int .i64 5)) w = .ok (.int .i64 v5) w := by kernel_rfl
theorem ix27_0 (v0 v1 v2 v3 v4 v5 v6 v7 v8 v9 v10 v11 v12 v13 v14 v15 v16 v17 : Value) (w : World) : Sem.run Try.prog (Instr.index 27 (.agg #[v0, v1, v2, v3, v4, v5, v6, v7, v8, v9, v10, v11, v12, v13, v14, v15, v16, v17]) (.int .i64 0)) w = .ok (.agg #[v0, v1, v2, v3, v4, v5]) w := by kernel_rfl
theorem ix27_1 (v0 v1 v2 v3 v4 v5 v6 v7 v8 v9 v10 v11 v12 v13 v14 v15 v16 v17 : Value) (w : World) : Sem.run Try.prog (Instr.index 27 (.agg #[v0, v1, v2, v3, v4, v5, v6, v7, v8, v9, v10, v11, v12, v13, v14, v15, v16, v17]) (.int .i64 1)) w = .ok (.agg #[v6, v7, v8, v9, v10, v11]) w := by kernel_rfl
theorem ix27_2 (v0 v1 v2 v3 v4 v5 v6 v7 v8 v9 v10 v11 v12 v13 v14 v15 v16 v17 : Value) (w : World) : Sem.run Try.prog (Instr.index 27 (.agg #[v0, v1, v2, v3, v4, v5, v6, v7, v8, v9, v10, v11, v12, v13, v14, v15, v16, v17]) (.int .i64 2)) w = .ok (.agg #[v12, v13, v14, v15, v16, v17]) w := by kernel_rfl
theorem ix34_0 (v0 v1 v2 v3 v4 v5 v6 v7 v8 v9 v10 v11 v12 v13 v14 v15 v16 v17 : Value) (w : World) : Sem.run Try.prog (Instr.index 34 (.agg #[v0, v1, v2, v3, v4, v5, v6, v7, v8, v9, v10, v11, v12, v13, v14, v15, v16, v17]) (.int .i64 0)) w = .ok (.agg #[v0, v1, v2, v3, v4, v5]) w := by kernel_rfl
theorem ix34_1 (v0 v1 v2 v3 v4 v5 v6 v7 v8 v9 v10 v11 v12 v13 v14 v15 v16 v17 : Value) (w : World) : Sem.run Try.prog (Instr.index 34 (.agg #[v0, v1, v2, v3, v4, v5, v6, v7, v8, v9, v10, v11, v12, v13, v14, v15, v16, v17]) (.int .i64 1)) w = .ok (.agg #[v6, v7, v8, v9, v10, v11]) w := by kernel_rfl
theorem ix34_2 (v0 v1 v2 v3 v4 v5 v6 v7 v8 v9 v10 v11 v12 v13 v14 v15 v16 v17 : Value) (w : World) : Sem.run Try.prog (Instr.index 34 (.agg #[v0, v1, v2, v3, v4, v5, v6, v7, v8, v9, v10, v11, v12, v13, v14, v15, v16, v17]) (.int .i64 2)) w = .ok (.agg #[v12, v13, v14, v15, v16, v17]) w := by kernel_rfl
theorem wi_a (n m : Int) (q : decide (0 ≤ n) = true) (w : World) : Calls Try.prog 30 #[.int .i64 n, .int .i64 m] w fun e w' => e = .returned (.bool (decide (n ≤ m))) ∧ w = w' := by
  go_enter Try.func30, Try.ntmps30
  go_wp2_with fail
  go_ret
  exact ⟨rfl, rfl⟩
theorem wi_b (n m : Int) (q : decide (0 ≤ n) = false) (w : World) : Calls Try.prog 30 #[.int .i64 n, .int .i64 m] w fun e w' => e = .returned (.bool false) ∧ w = w' := by
  go_enter Try.func30, Try.ntmps30
  go_wp2_with fail
  go_ret
  exact ⟨rfl, rfl⟩
theorem wi_any (n m : Int) (w : World) : Calls Try.prog 30 #[.int .i64 n, .int .i64 m] w fun e w' => e = .returned (.bool (inB n m)) ∧ w = w' := by
  unfold inB
  by_cases q : 0 ≤ n
  · rw [decide_eq_true q, Bool.true_and]; exact wi_a n m (decide_eq_true q) w
  · rw [decide_eq_false q, Bool.false_and]; exact wi_b n m (decide_eq_false q) w
theorem my_a (n m : Int) (q : decide (0 ≤ n) = true) (w : World) : Calls Try.prog 22 #[.int .i64 n, .int .i64 m] w fun e w' => e = .returned (.bool (decide (n ≤ m))) ∧ w = w' := by
  go_enter Try.func22, Try.ntmps22
  go_wp2_with fail
  go_ret
  exact ⟨rfl, rfl⟩
theorem my_b (n m : Int) (q : decide (0 ≤ n) = false) (w : World) : Calls Try.prog 22 #[.int .i64 n, .int .i64 m] w fun e w' => e = .returned (.bool false) ∧ w = w' := by
  go_enter Try.func22, Try.ntmps22
  go_wp2_with fail
  go_ret
  exact ⟨rfl, rfl⟩
theorem my_any (n m : Int) (w : World) : Calls Try.prog 22 #[.int .i64 n, .int .i64 m] w fun e w' => e = .returned (.bool (inB n m)) ∧ w = w' := by
  unfold inB
  by_cases q : 0 ≤ n
  · rw [decide_eq_true q, Bool.true_and]; exact my_a n m (decide_eq_true q) w
  · rw [decide_eq_false q, Bool.false_and]; exact my_b n m (decide_eq_false q) w
theorem sg_a (n : Int) (q : decide (1 ≤ n) = true) (w : World) : Calls Try.prog 37 #[.int .i64 n] w fun e w' => e = .returned (.bool (decide (n ≤ 3))) ∧ w = w' := by
  go_enter Try.func37, Try.ntmps37
  go_wp2_with fail
  go_ret
  exact ⟨rfl, rfl⟩
theorem sg_b (n : Int) (q : decide (1 ≤ n) = false) (w : World) : Calls Try.prog 37 #[.int .i64 n] w fun e w' => e = .returned (.bool false) ∧ w = w' := by
  go_enter Try.func37, Try.ntmps37
  go_wp2_with fail
  go_ret
  exact ⟨rfl, rfl⟩
theorem sg_any (n : Int) (w : World) : Calls Try.prog 37 #[.int .i64 n] w fun e w' => e = .returned (.bool (stB n)) ∧ w = w' := by
  unfold stB
  by_cases q : 1 ≤ n
  · rw [decide_eq_true q, Bool.true_and]; exact sg_a n (decide_eq_true q) w
  · rw [decide_eq_false q, Bool.false_and]; exact sg_b n (decide_eq_false q) w
theorem mc_0 (f t a n x : Int) (q0 : stB f = false) (w : World) : Calls Try.prog 31 #[.agg #[.int .i64 f, .int .i64 t, .int .i64 a, .int .i64 n, .int .i64 x]] w fun e w' => e = .returned (.bool false) ∧ Below w.heap.size w w' := by
  have HB := hide (Blk.new w #[.int .i64 f, .int .i64 t, .int .i64 a, .int .i64 n, .int .i64 x] 50)
  have HL := hide (below1 w (.cells #[.int .i64 f, .int .i64 t, .int .i64 a, .int .i64 n, .int .i64 x] 50))
  skip
  have c0 := (unhide HB).at 0 (.int .i64 f) rfl
  have c1 := (unhide HB).at 1 (.int .i64 t) rfl
  have c2 := (unhide HB).at 2 (.int .i64 a) rfl
  have c3 := (unhide HB).at 3 (.int .i64 n) rfl
  have c4 := (unhide HB).at 4 (.int .i64 x) rfl
  go_enter Try.func31, Try.ntmps31
  go_wp2_with fail
  refine (sg_any f _).mono ?_
  rintro e w0 ⟨rfl, rfl⟩
  rw [q0]
  go_wp2_with fail
  go_ret
  exact ⟨rfl, unhide HL⟩
theorem mc_1 (f t a n x : Int) (q0 : stB f = true) (q1 : stB t = false) (w : World) : Calls Try.prog 31 #[.agg #[.int .i64 f, .int .i64 t, .int .i64 a, .int .i64 n, .int .i64 x]] w fun e w' => e = .returned (.bool false) ∧ Below w.heap.size w w' := by
  have HB := hide (Blk.new w #[.int .i64 f, .int .i64 t, .int .i64 a, .int .i64 n, .int .i64 x] 50)
  have HL := hide (below1 w (.cells #[.int .i64 f, .int .i64 t, .int .i64 a, .int .i64 n, .int .i64 x] 50))
  skip
  have c0 := (unhide HB).at 0 (.int .i64 f) rfl
  have c1 := (unhide HB).at 1 (.int .i64 t) rfl
  have c2 := (unhide HB).at 2 (.int .i64 a) rfl
  have c3 := (unhide HB).at 3 (.int .i64 n) rfl
  have c4 := (unhide HB).at 4 (.int .i64 x) rfl
  go_enter Try.func31, Try.ntmps31
  go_wp2_with fail
  refine (sg_any f _).mono ?_
  rintro e w0 ⟨rfl, rfl⟩
  rw [q0]
  go_wp2_with fail
  refine (sg_any t _).mono ?_
  rintro e w1 ⟨rfl, rfl⟩
  rw [q1]
  go_wp2_with fail
  go_ret
  exact ⟨rfl, unhide HL⟩
theorem mc_2 (f t a n x : Int) (q0 : stB f = true) (q1 : stB t = true) (q2 : inB a 562949953421312 = false) (w : World) : Calls Try.prog 31 #[.agg #[.int .i64 f, .int .i64 t, .int .i64 a, .int .i64 n, .int .i64 x]] w fun e w' => e = .returned (.bool false) ∧ Below w.heap.size w w' := by
  have HB := hide (Blk.new w #[.int .i64 f, .int .i64 t, .int .i64 a, .int .i64 n, .int .i64 x] 50)
  have HL := hide (below1 w (.cells #[.int .i64 f, .int .i64 t, .int .i64 a, .int .i64 n, .int .i64 x] 50))
  skip
  have c0 := (unhide HB).at 0 (.int .i64 f) rfl
  have c1 := (unhide HB).at 1 (.int .i64 t) rfl
  have c2 := (unhide HB).at 2 (.int .i64 a) rfl
  have c3 := (unhide HB).at 3 (.int .i64 n) rfl
  have c4 := (unhide HB).at 4 (.int .i64 x) rfl
  go_enter Try.func31, Try.ntmps31
  go_wp2_with fail
  refine (sg_any f _).mono ?_
  rintro e w0 ⟨rfl, rfl⟩
  rw [q0]
  go_wp2_with fail
  refine (sg_any t _).mono ?_
  rintro e w1 ⟨rfl, rfl⟩
  rw [q1]
  go_wp2_with fail
  refine (wi_any a 562949953421312 _).mono ?_
  rintro e w2 ⟨rfl, rfl⟩
  rw [q2]
  go_wp2_with fail
  go_ret
  exact ⟨rfl, unhide HL⟩
theorem mc_3 (f t a n x : Int) (q0 : stB f = true) (q1 : stB t = true) (q2 : inB a 562949953421312 = true) (q3 : inB n 562949953421312 = false) (w : World) : Calls Try.prog 31 #[.agg #[.int .i64 f, .int .i64 t, .int .i64 a, .int .i64 n, .int .i64 x]] w fun e w' => e = .returned (.bool false) ∧ Below w.heap.size w w' := by
  have HB := hide (Blk.new w #[.int .i64 f, .int .i64 t, .int .i64 a, .int .i64 n, .int .i64 x] 50)
  have HL := hide (below1 w (.cells #[.int .i64 f, .int .i64 t, .int .i64 a, .int .i64 n, .int .i64 x] 50))
  skip
  have c0 := (unhide HB).at 0 (.int .i64 f) rfl
  have c1 := (unhide HB).at 1 (.int .i64 t) rfl
  have c2 := (unhide HB).at 2 (.int .i64 a) rfl
  have c3 := (unhide HB).at 3 (.int .i64 n) rfl
  have c4 := (unhide HB).at 4 (.int .i64 x) rfl
  go_enter Try.func31, Try.ntmps31
  go_wp2_with fail
  refine (sg_any f _).mono ?_
  rintro e w0 ⟨rfl, rfl⟩
  rw [q0]
  go_wp2_with fail
  refine (sg_any t _).mono ?_
  rintro e w1 ⟨rfl, rfl⟩
  rw [q1]
  go_wp2_with fail
  refine (wi_any a 562949953421312 _).mono ?_
  rintro e w2 ⟨rfl, rfl⟩
  rw [q2]
  go_wp2_with fail
  refine (wi_any n 562949953421312 _).mono ?_
  rintro e w3 ⟨rfl, rfl⟩
  rw [q3]
  go_wp2_with fail
  go_ret
  exact ⟨rfl, unhide HL⟩
theorem mc_4 (f t a n x : Int) (q0 : stB f = true) (q1 : stB t = true) (q2 : inB a 562949953421312 = true) (q3 : inB n 562949953421312 = true) (q4 : inB x 562949953421312 = false) (w : World) : Calls Try.prog 31 #[.agg #[.int .i64 f, .int .i64 t, .int .i64 a, .int .i64 n, .int .i64 x]] w fun e w' => e = .returned (.bool false) ∧ Below w.heap.size w w' := by
  have HB := hide (Blk.new w #[.int .i64 f, .int .i64 t, .int .i64 a, .int .i64 n, .int .i64 x] 50)
  have HL := hide (below1 w (.cells #[.int .i64 f, .int .i64 t, .int .i64 a, .int .i64 n, .int .i64 x] 50))
  skip
  have c0 := (unhide HB).at 0 (.int .i64 f) rfl
  have c1 := (unhide HB).at 1 (.int .i64 t) rfl
  have c2 := (unhide HB).at 2 (.int .i64 a) rfl
  have c3 := (unhide HB).at 3 (.int .i64 n) rfl
  have c4 := (unhide HB).at 4 (.int .i64 x) rfl
  go_enter Try.func31, Try.ntmps31
  go_wp2_with fail
  refine (sg_any f _).mono ?_
  rintro e w0 ⟨rfl, rfl⟩
  rw [q0]
  go_wp2_with fail
  refine (sg_any t _).mono ?_
  rintro e w1 ⟨rfl, rfl⟩
  rw [q1]
  go_wp2_with fail
  refine (wi_any a 562949953421312 _).mono ?_
  rintro e w2 ⟨rfl, rfl⟩
  rw [q2]
  go_wp2_with fail
  refine (wi_any n 562949953421312 _).mono ?_
  rintro e w3 ⟨rfl, rfl⟩
  rw [q3]
  go_wp2_with fail
  refine (wi_any x 562949953421312 _).mono ?_
  rintro e w4 ⟨rfl, rfl⟩
  rw [q4]
  go_wp2_with fail
  go_ret
  exact ⟨rfl, unhide HL⟩
theorem mc_5 (f t a n x : Int) (q0 : stB f = true) (q1 : stB t = true) (q2 : inB a 562949953421312 = true) (q3 : inB n 562949953421312 = true) (q4 : inB x 562949953421312 = true) (w : World) : Calls Try.prog 31 #[.agg #[.int .i64 f, .int .i64 t, .int .i64 a, .int .i64 n, .int .i64 x]] w fun e w' => e = .returned (.bool true) ∧ Below w.heap.size w w' := by
  have HB := hide (Blk.new w #[.int .i64 f, .int .i64 t, .int .i64 a, .int .i64 n, .int .i64 x] 50)
  have HL := hide (below1 w (.cells #[.int .i64 f, .int .i64 t, .int .i64 a, .int .i64 n, .int .i64 x] 50))
  skip
  have c0 := (unhide HB).at 0 (.int .i64 f) rfl
  have c1 := (unhide HB).at 1 (.int .i64 t) rfl
  have c2 := (unhide HB).at 2 (.int .i64 a) rfl
  have c3 := (unhide HB).at 3 (.int .i64 n) rfl
  have c4 := (unhide HB).at 4 (.int .i64 x) rfl
  go_enter Try.func31, Try.ntmps31
  go_wp2_with fail
  refine (sg_any f _).mono ?_
  rintro e w0 ⟨rfl, rfl⟩
  rw [q0]
  go_wp2_with fail
  refine (sg_any t _).mono ?_
  rintro e w1 ⟨rfl, rfl⟩
  rw [q1]
  go_wp2_with fail
  refine (wi_any a 562949953421312 _).mono ?_
  rintro e w2 ⟨rfl, rfl⟩
  rw [q2]
  go_wp2_with fail
  refine (wi_any n 562949953421312 _).mono ?_
  rintro e w3 ⟨rfl, rfl⟩
  rw [q3]
  go_wp2_with fail
  refine (wi_any x 562949953421312 _).mono ?_
  rintro e w4 ⟨rfl, rfl⟩
  rw [q4]
  go_wp2_with fail
  go_ret
  exact ⟨rfl, unhide HL⟩
theorem mc_any (c : Ch) (w : World) : Calls Try.prog 31 #[.agg #[.int .i64 c.fr, .int .i64 c.to, .int .i64 c.was, .int .i64 c.now, .int .i64 c.wr]] w fun e w' => e = .returned (.bool (okC c)) ∧ Below w.heap.size w w' := by
  obtain ⟨f, t, a, n, x⟩ := c
  unfold okC
  cases q0 : stB f
  · exact mc_0 f t a n x q0 w
  cases q1 : stB t
  · exact mc_1 f t a n x q0 q1 w
  cases q2 : inB a 562949953421312
  · exact mc_2 f t a n x q0 q1 q2 w
  cases q3 : inB n 562949953421312
  · exact mc_3 f t a n x q0 q1 q2 q3 w
  cases q4 : inB x 562949953421312
  · exact mc_4 f t a n x q0 q1 q2 q3 q4 w
  exact mc_5 f t a n x q0 q1 q2 q3 q4 w
end Go.Proofs.Ytkccladbcehdbaa
