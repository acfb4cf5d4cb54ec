/- Worst, and the rule that refuses. -/
import Derived.Test.YtifdabmdacpmgaaLf
namespace Go.Proofs.Ytifdabmdacpmgaa
open Go.RowKit
set_option linter.unusedVariables false
set_option linter.unusedSimpArgs false
structure S22 (w wr : World) (k : Nat) (p d : Int) (b : Bool) : Prop where
  bel : Below w.heap.size w wr
  b0 : Blk wr w.heap.size #[.int .i64 p, .int .i64 d, .bool b] 31
  rl : Blk wr k #[.func (.func 23) #[] #[], .func (.func 24) #[] #[], .func (.func 25) #[] #[]] 57
theorem S22.keep {w wr w2 : World} {k : Nat} {p d : Int} {b : Bool} (h : S22 w wr k p d b) (hb : Below wr.heap.size wr w2) : S22 w w2 k p d b := ⟨below_via h.bel hb, h.b0.keep hb, h.rl.keep hb⟩
theorem f22_a (p d : Int) (b : Bool) (k : Nat) (h : Hid (b = true ∨ 90 ≤ p)) (w : World) (hr : Blk w k #[.func (.func 23) #[] #[], .func (.func 24) #[] #[], .func (.func 25) #[] #[]] 57) : Calls Try.prog 22 #[.agg #[.int .i64 p, .int .i64 d, .bool b], .slice (some ⟨k, 0, none⟩) 3 3] w fun e w' => e = .returned (.int .i64 3) ∧ Below w.heap.size w w' := by
  have A := hide (show S22 w (w.alloc (.cells #[.int .i64 p, .int .i64 d, .bool b] 31)) k p d b from ⟨below1 _ _, Blk.new _ _ _, hr.alloc _⟩)
  clear hr
  go_enter Try.func22, Try.ntmps22
  go_wp2_with fail
  generalize w.alloc (.cells #[.int .i64 p, .int .i64 d, .bool b] 31) = W at A ⊢
  refine wp_loop_rounds 1 ?_
  rw [rounds_succ]
  have x0 := (unhide A).rl.at 0 (.func (.func 23) #[] #[]) rfl
  have c0 := (unhide A).b0.at 0 (.int .i64 p) rfl
  have c1 := (unhide A).b0.at 1 (.int .i64 d) rfl
  have c2 := (unhide A).b0.at 2 (.bool b) rfl
  go_wp2_with fail
  refine (fail_yes p d b (unhide h) _).mono ?_
  rintro e w0 ⟨rfl, hb⟩
  replace A := hide ((unhide A).keep hb)
  clear hb x0 c0 c1 c2
  go_wp2_with fail
  go_ret
  exact ⟨rfl, (unhide A).bel⟩
theorem f22_b (p d : Int) (b : Bool) (k : Nat) (h : Hid (¬ (b = true ∨ 90 ≤ p))) (h2 : Hid (30 ≤ p ∨ 3 ≤ d)) (w : World) (hr : Blk w k #[.func (.func 23) #[] #[], .func (.func 24) #[] #[], .func (.func 25) #[] #[]] 57) : Calls Try.prog 22 #[.agg #[.int .i64 p, .int .i64 d, .bool b], .slice (some ⟨k, 0, none⟩) 3 3] w fun e w' => e = .returned (.int .i64 2) ∧ Below w.heap.size w w' := by
  have A := hide (show S22 w (w.alloc (.cells #[.int .i64 p, .int .i64 d, .bool b] 31)) k p d b from ⟨below1 _ _, Blk.new _ _ _, hr.alloc _⟩)
  clear hr
  go_enter Try.func22, Try.ntmps22
  go_wp2_with fail
  generalize w.alloc (.cells #[.int .i64 p, .int .i64 d, .bool b] 31) = W at A ⊢
  refine wp_loop_rounds 2 ?_
  rw [rounds_succ]
  have x0 := (unhide A).rl.at 0 (.func (.func 23) #[] #[]) rfl
  have c0 := (unhide A).b0.at 0 (.int .i64 p) rfl
  have c1 := (unhide A).b0.at 1 (.int .i64 d) rfl
  have c2 := (unhide A).b0.at 2 (.bool b) rfl
  go_wp2_with fail
  refine (fail_no p d b (unhide h) _).mono ?_
  rintro e w0 ⟨rfl, hb⟩
  replace A := hide ((unhide A).keep hb)
  clear hb x0 c0 c1 c2
  go_wp2_with fail
  rw [rounds_succ]
  have x0 := (unhide A).rl.at 1 (.func (.func 24) #[] #[]) rfl
  have c0 := (unhide A).b0.at 0 (.int .i64 p) rfl
  have c1 := (unhide A).b0.at 1 (.int .i64 d) rfl
  have c2 := (unhide A).b0.at 2 (.bool b) rfl
  go_wp2_with fail
  refine (slip_yes p d b (unhide h2) _).mono ?_
  rintro e w1 ⟨rfl, hb⟩
  replace A := hide ((unhide A).keep hb)
  clear hb x0 c0 c1 c2
  go_wp2_with fail
  go_ret
  exact ⟨rfl, (unhide A).bel⟩
theorem f22_c (p d : Int) (b : Bool) (k : Nat) (h : Hid (¬ (b = true ∨ 90 ≤ p))) (h2 : Hid (¬ (30 ≤ p ∨ 3 ≤ d))) (w : World) (hr : Blk w k #[.func (.func 23) #[] #[], .func (.func 24) #[] #[], .func (.func 25) #[] #[]] 57) : Calls Try.prog 22 #[.agg #[.int .i64 p, .int .i64 d, .bool b], .slice (some ⟨k, 0, none⟩) 3 3] w fun e w' => e = .returned (.int .i64 1) ∧ Below w.heap.size w w' := by
  have A := hide (show S22 w (w.alloc (.cells #[.int .i64 p, .int .i64 d, .bool b] 31)) k p d b from ⟨below1 _ _, Blk.new _ _ _, hr.alloc _⟩)
  clear hr
  go_enter Try.func22, Try.ntmps22
  go_wp2_with fail
  generalize w.alloc (.cells #[.int .i64 p, .int .i64 d, .bool b] 31) = W at A ⊢
  refine wp_loop_rounds 3 ?_
  rw [rounds_succ]
  have x0 := (unhide A).rl.at 0 (.func (.func 23) #[] #[]) rfl
  have c0 := (unhide A).b0.at 0 (.int .i64 p) rfl
  have c1 := (unhide A).b0.at 1 (.int .i64 d) rfl
  have c2 := (unhide A).b0.at 2 (.bool b) rfl
  go_wp2_with fail
  refine (fail_no p d b (unhide h) _).mono ?_
  rintro e w0 ⟨rfl, hb⟩
  replace A := hide ((unhide A).keep hb)
  clear hb x0 c0 c1 c2
  go_wp2_with fail
  rw [rounds_succ]
  have x0 := (unhide A).rl.at 1 (.func (.func 24) #[] #[]) rfl
  have c0 := (unhide A).b0.at 0 (.int .i64 p) rfl
  have c1 := (unhide A).b0.at 1 (.int .i64 d) rfl
  have c2 := (unhide A).b0.at 2 (.bool b) rfl
  go_wp2_with fail
  refine (slip_no p d b (unhide h2) _).mono ?_
  rintro e w1 ⟨rfl, hb⟩
  replace A := hide ((unhide A).keep hb)
  clear hb x0 c0 c1 c2
  go_wp2_with fail
  rw [rounds_succ]
  have x0 := (unhide A).rl.at 2 (.func (.func 25) #[] #[]) rfl
  have c0 := (unhide A).b0.at 0 (.int .i64 p) rfl
  have c1 := (unhide A).b0.at 1 (.int .i64 d) rfl
  have c2 := (unhide A).b0.at 2 (.bool b) rfl
  go_wp2_with fail
  refine (sound_a p d b _).mono ?_
  rintro e w2 ⟨rfl, hb⟩
  replace A := hide ((unhide A).keep hb)
  clear hb x0 c0 c1 c2
  go_wp2_with fail
  go_ret
  exact ⟨rfl, (unhide A).bel⟩
theorem f22_any (p d : Int) (b : Bool) (k : Nat) (w : World) (hr : Blk w k #[.func (.func 23) #[] #[], .func (.func 24) #[] #[], .func (.func 25) #[] #[]] 57) : Calls Try.prog 22 #[.agg #[.int .i64 p, .int .i64 d, .bool b], .slice (some ⟨k, 0, none⟩) 3 3] w fun e w' => e = .returned (.int .i64 (wst p d b)) ∧ Below w.heap.size w w' := by
  unfold wst
  by_cases h : b = true ∨ 90 ≤ p
  · rw [if_pos h]; exact f22_a p d b k (hide h) w hr
  · rw [if_neg h]
    by_cases h2 : 30 ≤ p ∨ 3 ≤ d
    · rw [if_pos h2]; exact f22_b p d b k (hide h) (hide h2) w hr
    · rw [if_neg h2]; exact f22_c p d b k (hide h) (hide h2) w hr
theorem worst_any (p d : Int) (b : Bool) (w : World) : Calls Try.prog 11 #[.agg #[.int .i64 p, .int .i64 d, .bool b]] w fun e w' => e = .returned (.int .i64 (wst p d b)) ∧ Below w.heap.size w w' := by
  have HB : Hid (Below w.heap.size w ((w.alloc (.cells #[.int .i64 p, .int .i64 d, .bool b] 31)).alloc (.cells #[.func (.func 23) #[] #[], .func (.func 24) #[] #[], .func (.func 25) #[] #[]] 57))) := hide ((below1 w _).alloc (by simp) _)
  have HK : Hid (Blk ((w.alloc (.cells #[.int .i64 p, .int .i64 d, .bool b] 31)).alloc (.cells #[.func (.func 23) #[] #[], .func (.func 24) #[] #[], .func (.func 25) #[] #[]] 57)) (w.heap.size + 1) #[.func (.func 23) #[] #[], .func (.func 24) #[] #[], .func (.func 25) #[] #[]] 57) := hide (by have h := Blk.new (w.alloc (.cells #[.int .i64 p, .int .i64 d, .bool b] 31)) #[.func (.func 23) #[] #[], .func (.func 24) #[] #[], .func (.func 25) #[] #[]] 57; simpa using h)
  go_enter Try.func11, Try.ntmps11
  go_wp2_with fail
  refine (f22_any p d b _ _ (unhide HK)).mono ?_
  rintro e w2 ⟨rfl, hb⟩
  replace HB := hide (below_via (unhide HB) hb)
  clear hb HK
  go_wp2_with fail
  go_ret
  exact ⟨rfl, unhide HB⟩
structure S18 (w wr : World) (s g p d : Int) (b : Bool) : Prop where
  bel : Below w.heap.size w wr
  b0 : Blk wr w.heap.size #[.int .i64 s, .int .i64 g, .int .i64 p, .int .i64 d, .bool b] 54
  b1 : Blk wr (w.heap.size + 1) #[.int .i64 0, .int .i64 0, .int .i64 0] 51
theorem S18.keep {w wr w2 : World} {s g p d : Int} {b : Bool} (h : S18 w wr s g p d b) (hb : Below wr.heap.size wr w2) : S18 w w2 s g p d b := ⟨below_via h.bel hb, h.b0.keep hb, h.b1.keep hb⟩
theorem S18.new (w : World) (s g p d : Int) (b : Bool) : S18 w ((w.alloc (.cells #[.int .i64 s, .int .i64 g, .int .i64 p, .int .i64 d, .bool b] 54)).alloc (.cells #[.int .i64 0, .int .i64 0, .int .i64 0] 51)) s g p d b := ⟨(below1 w _).alloc (by simp) _, (Blk.new w _ _).alloc _, by have h := Blk.new (w.alloc (.cells #[.int .i64 s, .int .i64 g, .int .i64 p, .int .i64 d, .bool b] 54)) #[.int .i64 0, .int .i64 0, .int .i64 0] 51; simpa using h⟩
theorem row51 : isRowB Try.prog 51 = true := by kernel_rfl
theorem size51 : (Try.prog.info? 51).map (·.size) = some 3 := by kernel_rfl
theorem row27 : isRowB Try.prog 27 = true := by kernel_rfl
theorem size27 : (Try.prog.info? 27).map (·.size) = some 2 := by kernel_rfl
theorem wr_a (s g p d : Int) (b : Bool) (h : Hid (¬ okS s g)) (w : World) : Calls Try.prog 18 #[.agg #[.int .i64 s, .int .i64 g, .int .i64 p, .int .i64 d, .bool b]] w fun e w' => e = .returned (.tuple #[.agg #[.int .i64 0, .int .i64 0, .int .i64 2], .bool true]) ∧ Below w.heap.size w w' := by
  have A := hide (S18.new w s g p d b)
  go_enter Try.func18, Try.ntmps18
  go_wp2_with fail
  generalize (w.alloc (.cells #[.int .i64 s, .int .i64 g, .int .i64 p, .int .i64 d, .bool b] 54)).alloc (.cells #[.int .i64 0, .int .i64 0, .int .i64 0] 51) = W at A ⊢
  refine (ms_no s g (unhide h) _).mono ?_
  rintro e w2 ⟨rfl, hb⟩
  replace A := hide ((unhide A).keep hb)
  clear hb
  have c0 := (unhide A).b0.at 0 (.int .i64 s) rfl
  have c1 := (unhide A).b0.at 1 (.int .i64 g) rfl
  have c2 := (unhide A).b0.at 2 (.int .i64 p) rfl
  have c3 := (unhide A).b0.at 3 (.int .i64 d) rfl
  have c4 := (unhide A).b0.at 4 (.bool b) rfl
  go_wp2_with (refine store_blk rfl 51 _ _ rfl ((unhide A).b1) rfl rfl size51 rfl rfl rfl ?_)
  intro W1 k2 kp
  have k4 := kp.bel (by omega) (unhide A).bel
  clear kp A
  go_wp2_with fail
  exact bodyPost_ret (v := .tuple #[.agg #[.int .i64 0, .int .i64 0, .int .i64 2], .bool true]) (res_ct rfl k2 row51 size51 rfl rfl rfl) rfl ⟨rfl, k4⟩
theorem wr_b (s g p d : Int) (b : Bool) (h : Hid (okS s g)) (h2 : Hid (¬ okM p d)) (w : World) : Calls Try.prog 18 #[.agg #[.int .i64 s, .int .i64 g, .int .i64 p, .int .i64 d, .bool b]] w fun e w' => e = .returned (.tuple #[.agg #[.int .i64 0, .int .i64 0, .int .i64 2], .bool true]) ∧ Below w.heap.size w w' := by
  have A := hide (S18.new w s g p d b)
  go_enter Try.func18, Try.ntmps18
  go_wp2_with fail
  generalize (w.alloc (.cells #[.int .i64 s, .int .i64 g, .int .i64 p, .int .i64 d, .bool b] 54)).alloc (.cells #[.int .i64 0, .int .i64 0, .int .i64 0] 51) = W at A ⊢
  refine (ms_yes s g (unhide h) _).mono ?_
  rintro e w2 ⟨rfl, hb⟩
  replace A := hide ((unhide A).keep hb)
  clear hb
  have c0 := (unhide A).b0.at 0 (.int .i64 s) rfl
  have c1 := (unhide A).b0.at 1 (.int .i64 g) rfl
  have c2 := (unhide A).b0.at 2 (.int .i64 p) rfl
  have c3 := (unhide A).b0.at 3 (.int .i64 d) rfl
  have c4 := (unhide A).b0.at 4 (.bool b) rfl
  go_wp2_with fail
  clear c0 c1 c2 c3 c4
  refine (mm_no p d b (unhide h2) _).mono ?_
  rintro e w2 ⟨rfl, hb⟩
  replace A := hide ((unhide A).keep hb)
  clear hb
  have c0 := (unhide A).b0.at 0 (.int .i64 s) rfl
  have c1 := (unhide A).b0.at 1 (.int .i64 g) rfl
  have c2 := (unhide A).b0.at 2 (.int .i64 p) rfl
  have c3 := (unhide A).b0.at 3 (.int .i64 d) rfl
  have c4 := (unhide A).b0.at 4 (.bool b) rfl
  go_wp2_with (refine store_blk rfl 51 _ _ rfl ((unhide A).b1) rfl rfl size51 rfl rfl rfl ?_)
  intro W1 k2 kp
  have k4 := kp.bel (by omega) (unhide A).bel
  clear kp A
  go_wp2_with fail
  exact bodyPost_ret (v := .tuple #[.agg #[.int .i64 0, .int .i64 0, .int .i64 2], .bool true]) (res_ct rfl k2 row51 size51 rfl rfl rfl) rfl ⟨rfl, k4⟩
theorem wr_c (s g p d : Int) (b : Bool) (h : Hid (okS s g)) (h2 : Hid (okM p d)) (w : World) : Calls Try.prog 18 #[.agg #[.int .i64 s, .int .i64 g, .int .i64 p, .int .i64 d, .bool b]] w fun e w' => e = .returned (.tuple #[.agg #[.int .i64 0, .int .i64 0, .int .i64 2], .bool false]) ∧ Below w.heap.size w w' := by
  have A := hide (S18.new w s g p d b)
  go_enter Try.func18, Try.ntmps18
  go_wp2_with fail
  generalize (w.alloc (.cells #[.int .i64 s, .int .i64 g, .int .i64 p, .int .i64 d, .bool b] 54)).alloc (.cells #[.int .i64 0, .int .i64 0, .int .i64 0] 51) = W at A ⊢
  refine (ms_yes s g (unhide h) _).mono ?_
  rintro e w2 ⟨rfl, hb⟩
  replace A := hide ((unhide A).keep hb)
  clear hb
  have c0 := (unhide A).b0.at 0 (.int .i64 s) rfl
  have c1 := (unhide A).b0.at 1 (.int .i64 g) rfl
  have c2 := (unhide A).b0.at 2 (.int .i64 p) rfl
  have c3 := (unhide A).b0.at 3 (.int .i64 d) rfl
  have c4 := (unhide A).b0.at 4 (.bool b) rfl
  go_wp2_with fail
  clear c0 c1 c2 c3 c4
  refine (mm_yes p d b (unhide h2) _).mono ?_
  rintro e w2 ⟨rfl, hb⟩
  replace A := hide ((unhide A).keep hb)
  clear hb
  have c0 := (unhide A).b0.at 0 (.int .i64 s) rfl
  have c1 := (unhide A).b0.at 1 (.int .i64 g) rfl
  have c2 := (unhide A).b0.at 2 (.int .i64 p) rfl
  have c3 := (unhide A).b0.at 3 (.int .i64 d) rfl
  have c4 := (unhide A).b0.at 4 (.bool b) rfl
  go_wp2_with (refine store_blk rfl 51 _ _ rfl ((unhide A).b1) rfl rfl size51 rfl rfl rfl ?_)
  intro W1 k2 kp
  have k4 := kp.bel (by omega) (unhide A).bel
  clear kp A
  go_wp2_with fail
  exact bodyPost_ret (v := .tuple #[.agg #[.int .i64 0, .int .i64 0, .int .i64 2], .bool false]) (res_ct rfl k2 row51 size51 rfl rfl rfl) rfl ⟨rfl, k4⟩
end Go.Proofs.Ytifdabmdacpmgaa
