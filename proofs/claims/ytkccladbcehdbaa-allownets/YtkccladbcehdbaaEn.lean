/- What a row must end with. -/
import Derived.Test.YtkccladbcehdbaaMo
import Derived.Test.YtkccladbcehdbaaMLeaf
namespace Go.Proofs.Ytkccladbcehdbaa
open Go.RowKit
set_option linter.unusedVariables false
set_option linter.unusedSimpArgs false
/-- Do the sums of a row stay within bounds, from the left? -/
def fits (o i u n x : Int) : Bool := decide (turn (o + i) = 0) && decide (turn (o + i + n) = 0) && decide (turn (o + i + n - u) = 0) && decide (turn (o + i + n - u - x) = 0)
def endN (o i u n x : Int) : Int := if fits o i u n x = true then o + i + n - u - x else 0
def endE (o i u n x : Int) : Int := if fits o i u n x = true then 0 else 3
theorem size73 : (Try.prog.info? 73).map (·.size) = some 2 := by kernel_rfl
theorem okE_fail {n : Int} (h : ¬ turn n = 0) : (okE n != 0) = true := by rw [okE_out h]; rfl
theorem okE_pass {n : Int} (h : turn n = 0) : (okE n != 0) = false := by rw [okE_in h]; rfl
theorem ret_two {k l : IntKind} {a b c d : Int} (h1 : a = b) (h2 : c = d) : Ending.returned (.tuple #[.int k a, .int l c]) = .returned (.tuple #[.int k b, .int l d]) := by rw [h1, h2]
set_option maxHeartbeats 1000000 in
set_option maxRecDepth 4000 in
theorem en_0 (o i u n x z : Int) (ho : In64 o) (hi : In64 i) (hu : In64 u) (hn : In64 n) (hx : In64 x) (h0 : ¬ turn (o + i) = 0) (w : World) : Calls Try.prog 27 #[.agg #[.int .i64 o, .int .i64 i, .int .i64 u, .int .i64 n, .int .i64 x, .int .i64 z]] w fun e w' => e = .returned (.tuple #[.int .i64 0, .int .i64 3]) ∧ Below w.heap.size w w' := by
  have H0 := hide (fun w => Mn.add_any o i ho hi w)
  have f0 := hide (okN_out h0)
  have g0 := hide (okE_out h0)
  clear ho hi hu hn hx h0
  have HL : Hid (Below w.heap.size w ((w.alloc (.cells #[.int .i64 o, .int .i64 i, .int .i64 u, .int .i64 n, .int .i64 x, .int .i64 z] 26)).alloc (.cells #[.func (.func 35) #[] #[], .int .i64 i, .func (.func 35) #[] #[], .int .i64 n, .func (.func 36) #[] #[], .int .i64 u, .func (.func 36) #[] #[], .int .i64 x] 73))) := hide (below_via (below1 w _) (below1 _ _))
  have HV : Hid (Blk ((w.alloc (.cells #[.int .i64 o, .int .i64 i, .int .i64 u, .int .i64 n, .int .i64 x, .int .i64 z] 26)).alloc (.cells #[.func (.func 35) #[] #[], .int .i64 i, .func (.func 35) #[] #[], .int .i64 n, .func (.func 36) #[] #[], .int .i64 u, .func (.func 36) #[] #[], .int .i64 x] 73)) (w.heap.size + 1) #[.func (.func 35) #[] #[], .int .i64 i, .func (.func 35) #[] #[], .int .i64 n, .func (.func 36) #[] #[], .int .i64 u, .func (.func 36) #[] #[], .int .i64 x] 73) := hide (by have := Blk.new (w.alloc (.cells #[.int .i64 o, .int .i64 i, .int .i64 u, .int .i64 n, .int .i64 x, .int .i64 z] 26)) #[.func (.func 35) #[] #[], .int .i64 i, .func (.func 35) #[] #[], .int .i64 n, .func (.func 36) #[] #[], .int .i64 u, .func (.func 36) #[] #[], .int .i64 x] 73; simpa using this)
  go_enter Try.func27, Try.ntmps27
  go_wp2_with fail
  generalize (w.alloc (.cells #[.int .i64 o, .int .i64 i, .int .i64 u, .int .i64 n, .int .i64 x, .int .i64 z] 26)).alloc (.cells #[.func (.func 35) #[] #[], .int .i64 i, .func (.func 35) #[] #[], .int .i64 n, .func (.func 36) #[] #[], .int .i64 u, .func (.func 36) #[] #[], .int .i64 x] 73) = W0 at *
  generalize w.heap.size + 1 = sb at *
  refine wp_loop_rounds 1 ?_
  rw [rounds_succ]
  have c0 := (show Blk _ _ _ _ from unhide HV).at 0 (.func (.func 35) #[] #[]) rfl
  have c1 := (show Blk _ _ _ _ from unhide HV).at 1 (.int .i64 i) rfl
  have lt := hide (show Blk _ _ _ _ from unhide HV).lt
  go_wp2_with (refine store_blk rfl 73 _ _ rfl (Blk.new W0 _ _) rfl rfl size73 rfl rfl rfl ?_)
  intro W1 k2 kp
  have HV0 := hide (kp.blk (by have := unhide lt; omega) ((show Blk _ _ _ _ from unhide HV).alloc _))
  replace HL := hide (kp.bel (unhide HL).size (below_via (unhide HL) (below1 _ _)))
  have d0 := k2.at 0 _ rfl
  have d1 := k2.at 1 _ rfl
  clear HV c0 c1 lt kp k2
  generalize W0.heap.size = nb0 at *
  go_wp2_with fail
  refine (unhide H0 _).mono ?_
  rintro e w1 ⟨rfl, rfl⟩
  rw [unhide f0, unhide g0]
  go_wp2_with fail
  clear d0 d1 H0 f0 g0
  have HV := HV0
  clear HV0
  go_ret2
  exact ⟨rfl, unhide HL⟩
set_option maxHeartbeats 1000000 in
set_option maxRecDepth 4000 in
theorem en_1 (o i u n x z : Int) (ho : In64 o) (hi : In64 i) (hu : In64 u) (hn : In64 n) (hx : In64 x) (h0 : turn (o + i) = 0) (h1 : ¬ turn (o + i + n) = 0) (w : World) : Calls Try.prog 27 #[.agg #[.int .i64 o, .int .i64 i, .int .i64 u, .int .i64 n, .int .i64 x, .int .i64 z]] w fun e w' => e = .returned (.tuple #[.int .i64 0, .int .i64 3]) ∧ Below w.heap.size w w' := by
  have H0 := hide (fun w => Mn.add_any o i ho hi w)
  have f0 := hide (okN_in h0)
  have g0 := hide (okE_in h0)
  have H1 := hide (fun w => Mn.add_any (o + i) n (in_of_turn h0) hn w)
  have f1 := hide (okN_out h1)
  have g1 := hide (okE_out h1)
  clear ho hi hu hn hx h0 h1
  have HL : Hid (Below w.heap.size w ((w.alloc (.cells #[.int .i64 o, .int .i64 i, .int .i64 u, .int .i64 n, .int .i64 x, .int .i64 z] 26)).alloc (.cells #[.func (.func 35) #[] #[], .int .i64 i, .func (.func 35) #[] #[], .int .i64 n, .func (.func 36) #[] #[], .int .i64 u, .func (.func 36) #[] #[], .int .i64 x] 73))) := hide (below_via (below1 w _) (below1 _ _))
  have HV : Hid (Blk ((w.alloc (.cells #[.int .i64 o, .int .i64 i, .int .i64 u, .int .i64 n, .int .i64 x, .int .i64 z] 26)).alloc (.cells #[.func (.func 35) #[] #[], .int .i64 i, .func (.func 35) #[] #[], .int .i64 n, .func (.func 36) #[] #[], .int .i64 u, .func (.func 36) #[] #[], .int .i64 x] 73)) (w.heap.size + 1) #[.func (.func 35) #[] #[], .int .i64 i, .func (.func 35) #[] #[], .int .i64 n, .func (.func 36) #[] #[], .int .i64 u, .func (.func 36) #[] #[], .int .i64 x] 73) := hide (by have := Blk.new (w.alloc (.cells #[.int .i64 o, .int .i64 i, .int .i64 u, .int .i64 n, .int .i64 x, .int .i64 z] 26)) #[.func (.func 35) #[] #[], .int .i64 i, .func (.func 35) #[] #[], .int .i64 n, .func (.func 36) #[] #[], .int .i64 u, .func (.func 36) #[] #[], .int .i64 x] 73; simpa using this)
  go_enter Try.func27, Try.ntmps27
  go_wp2_with fail
  generalize (w.alloc (.cells #[.int .i64 o, .int .i64 i, .int .i64 u, .int .i64 n, .int .i64 x, .int .i64 z] 26)).alloc (.cells #[.func (.func 35) #[] #[], .int .i64 i, .func (.func 35) #[] #[], .int .i64 n, .func (.func 36) #[] #[], .int .i64 u, .func (.func 36) #[] #[], .int .i64 x] 73) = W0 at *
  generalize w.heap.size + 1 = sb at *
  refine wp_loop_rounds 2 ?_
  rw [rounds_succ]
  have c0 := (show Blk _ _ _ _ from unhide HV).at 0 (.func (.func 35) #[] #[]) rfl
  have c1 := (show Blk _ _ _ _ from unhide HV).at 1 (.int .i64 i) rfl
  have lt := hide (show Blk _ _ _ _ from unhide HV).lt
  go_wp2_with (refine store_blk rfl 73 _ _ rfl (Blk.new W0 _ _) rfl rfl size73 rfl rfl rfl ?_)
  intro W1 k2 kp
  have HV0 := hide (kp.blk (by have := unhide lt; omega) ((show Blk _ _ _ _ from unhide HV).alloc _))
  replace HL := hide (kp.bel (unhide HL).size (below_via (unhide HL) (below1 _ _)))
  have d0 := k2.at 0 _ rfl
  have d1 := k2.at 1 _ rfl
  clear HV c0 c1 lt kp k2
  generalize W0.heap.size = nb0 at *
  go_wp2_with fail
  refine (unhide H0 _).mono ?_
  rintro e w1 ⟨rfl, rfl⟩
  rw [unhide f0, unhide g0]
  go_wp2_with fail
  clear d0 d1 H0 f0 g0
  have HV := HV0
  clear HV0
  rw [rounds_succ]
  have c0 := (show Blk _ _ _ _ from unhide HV).at 2 (.func (.func 35) #[] #[]) rfl
  have c1 := (show Blk _ _ _ _ from unhide HV).at 3 (.int .i64 n) rfl
  have lt := hide (show Blk _ _ _ _ from unhide HV).lt
  go_wp2_with (refine store_blk rfl 73 _ _ rfl (Blk.new W1 _ _) rfl rfl size73 rfl rfl rfl ?_)
  intro W2 k2 kp
  have HV1 := hide (kp.blk (by have := unhide lt; omega) ((show Blk _ _ _ _ from unhide HV).alloc _))
  replace HL := hide (kp.bel (unhide HL).size (below_via (unhide HL) (below1 _ _)))
  have d0 := k2.at 0 _ rfl
  have d1 := k2.at 1 _ rfl
  clear HV c0 c1 lt kp k2
  generalize W1.heap.size = nb1 at *
  go_wp2_with fail
  refine (unhide H1 _).mono ?_
  rintro e w2 ⟨rfl, rfl⟩
  rw [unhide f1, unhide g1]
  go_wp2_with fail
  clear d0 d1 H1 f1 g1
  have HV := HV1
  clear HV1
  go_ret2
  exact ⟨rfl, unhide HL⟩
set_option maxHeartbeats 1000000 in
set_option maxRecDepth 4000 in
theorem en_2 (o i u n x z : Int) (ho : In64 o) (hi : In64 i) (hu : In64 u) (hn : In64 n) (hx : In64 x) (h0 : turn (o + i) = 0) (h1 : turn (o + i + n) = 0) (h2 : ¬ turn (o + i + n - u) = 0) (w : World) : Calls Try.prog 27 #[.agg #[.int .i64 o, .int .i64 i, .int .i64 u, .int .i64 n, .int .i64 x, .int .i64 z]] w fun e w' => e = .returned (.tuple #[.int .i64 0, .int .i64 3]) ∧ Below w.heap.size w w' := by
  have H0 := hide (fun w => Mn.add_any o i ho hi w)
  have f0 := hide (okN_in h0)
  have g0 := hide (okE_in h0)
  have H1 := hide (fun w => Mn.add_any (o + i) n (in_of_turn h0) hn w)
  have f1 := hide (okN_in h1)
  have g1 := hide (okE_in h1)
  have H2 := hide (fun w => Mn.sub_any (o + i + n) u (in_of_turn h1) hu w)
  have f2 := hide (okN_out h2)
  have g2 := hide (okE_out h2)
  clear ho hi hu hn hx h0 h1 h2
  have HL : Hid (Below w.heap.size w ((w.alloc (.cells #[.int .i64 o, .int .i64 i, .int .i64 u, .int .i64 n, .int .i64 x, .int .i64 z] 26)).alloc (.cells #[.func (.func 35) #[] #[], .int .i64 i, .func (.func 35) #[] #[], .int .i64 n, .func (.func 36) #[] #[], .int .i64 u, .func (.func 36) #[] #[], .int .i64 x] 73))) := hide (below_via (below1 w _) (below1 _ _))
  have HV : Hid (Blk ((w.alloc (.cells #[.int .i64 o, .int .i64 i, .int .i64 u, .int .i64 n, .int .i64 x, .int .i64 z] 26)).alloc (.cells #[.func (.func 35) #[] #[], .int .i64 i, .func (.func 35) #[] #[], .int .i64 n, .func (.func 36) #[] #[], .int .i64 u, .func (.func 36) #[] #[], .int .i64 x] 73)) (w.heap.size + 1) #[.func (.func 35) #[] #[], .int .i64 i, .func (.func 35) #[] #[], .int .i64 n, .func (.func 36) #[] #[], .int .i64 u, .func (.func 36) #[] #[], .int .i64 x] 73) := hide (by have := Blk.new (w.alloc (.cells #[.int .i64 o, .int .i64 i, .int .i64 u, .int .i64 n, .int .i64 x, .int .i64 z] 26)) #[.func (.func 35) #[] #[], .int .i64 i, .func (.func 35) #[] #[], .int .i64 n, .func (.func 36) #[] #[], .int .i64 u, .func (.func 36) #[] #[], .int .i64 x] 73; simpa using this)
  go_enter Try.func27, Try.ntmps27
  go_wp2_with fail
  generalize (w.alloc (.cells #[.int .i64 o, .int .i64 i, .int .i64 u, .int .i64 n, .int .i64 x, .int .i64 z] 26)).alloc (.cells #[.func (.func 35) #[] #[], .int .i64 i, .func (.func 35) #[] #[], .int .i64 n, .func (.func 36) #[] #[], .int .i64 u, .func (.func 36) #[] #[], .int .i64 x] 73) = W0 at *
  generalize w.heap.size + 1 = sb at *
  refine wp_loop_rounds 3 ?_
  rw [rounds_succ]
  have c0 := (show Blk _ _ _ _ from unhide HV).at 0 (.func (.func 35) #[] #[]) rfl
  have c1 := (show Blk _ _ _ _ from unhide HV).at 1 (.int .i64 i) rfl
  have lt := hide (show Blk _ _ _ _ from unhide HV).lt
  go_wp2_with (refine store_blk rfl 73 _ _ rfl (Blk.new W0 _ _) rfl rfl size73 rfl rfl rfl ?_)
  intro W1 k2 kp
  have HV0 := hide (kp.blk (by have := unhide lt; omega) ((show Blk _ _ _ _ from unhide HV).alloc _))
  replace HL := hide (kp.bel (unhide HL).size (below_via (unhide HL) (below1 _ _)))
  have d0 := k2.at 0 _ rfl
  have d1 := k2.at 1 _ rfl
  clear HV c0 c1 lt kp k2
  generalize W0.heap.size = nb0 at *
  go_wp2_with fail
  refine (unhide H0 _).mono ?_
  rintro e w1 ⟨rfl, rfl⟩
  rw [unhide f0, unhide g0]
  go_wp2_with fail
  clear d0 d1 H0 f0 g0
  have HV := HV0
  clear HV0
  rw [rounds_succ]
  have c0 := (show Blk _ _ _ _ from unhide HV).at 2 (.func (.func 35) #[] #[]) rfl
  have c1 := (show Blk _ _ _ _ from unhide HV).at 3 (.int .i64 n) rfl
  have lt := hide (show Blk _ _ _ _ from unhide HV).lt
  go_wp2_with (refine store_blk rfl 73 _ _ rfl (Blk.new W1 _ _) rfl rfl size73 rfl rfl rfl ?_)
  intro W2 k2 kp
  have HV1 := hide (kp.blk (by have := unhide lt; omega) ((show Blk _ _ _ _ from unhide HV).alloc _))
  replace HL := hide (kp.bel (unhide HL).size (below_via (unhide HL) (below1 _ _)))
  have d0 := k2.at 0 _ rfl
  have d1 := k2.at 1 _ rfl
  clear HV c0 c1 lt kp k2
  generalize W1.heap.size = nb1 at *
  go_wp2_with fail
  refine (unhide H1 _).mono ?_
  rintro e w2 ⟨rfl, rfl⟩
  rw [unhide f1, unhide g1]
  go_wp2_with fail
  clear d0 d1 H1 f1 g1
  have HV := HV1
  clear HV1
  rw [rounds_succ]
  have c0 := (show Blk _ _ _ _ from unhide HV).at 4 (.func (.func 36) #[] #[]) rfl
  have c1 := (show Blk _ _ _ _ from unhide HV).at 5 (.int .i64 u) rfl
  have lt := hide (show Blk _ _ _ _ from unhide HV).lt
  go_wp2_with (refine store_blk rfl 73 _ _ rfl (Blk.new W2 _ _) rfl rfl size73 rfl rfl rfl ?_)
  intro W3 k2 kp
  have HV2 := hide (kp.blk (by have := unhide lt; omega) ((show Blk _ _ _ _ from unhide HV).alloc _))
  replace HL := hide (kp.bel (unhide HL).size (below_via (unhide HL) (below1 _ _)))
  have d0 := k2.at 0 _ rfl
  have d1 := k2.at 1 _ rfl
  clear HV c0 c1 lt kp k2
  generalize W2.heap.size = nb2 at *
  go_wp2_with fail
  refine (unhide H2 _).mono ?_
  rintro e w3 ⟨rfl, rfl⟩
  rw [unhide f2, unhide g2]
  go_wp2_with fail
  clear d0 d1 H2 f2 g2
  have HV := HV2
  clear HV2
  go_ret2
  exact ⟨rfl, unhide HL⟩
set_option maxHeartbeats 1000000 in
set_option maxRecDepth 4000 in
theorem en_3 (o i u n x z : Int) (ho : In64 o) (hi : In64 i) (hu : In64 u) (hn : In64 n) (hx : In64 x) (h0 : turn (o + i) = 0) (h1 : turn (o + i + n) = 0) (h2 : turn (o + i + n - u) = 0) (h3 : ¬ turn (o + i + n - u - x) = 0) (w : World) : Calls Try.prog 27 #[.agg #[.int .i64 o, .int .i64 i, .int .i64 u, .int .i64 n, .int .i64 x, .int .i64 z]] w fun e w' => e = .returned (.tuple #[.int .i64 0, .int .i64 3]) ∧ Below w.heap.size w w' := by
  have H0 := hide (fun w => Mn.add_any o i ho hi w)
  have f0 := hide (okN_in h0)
  have g0 := hide (okE_in h0)
  have H1 := hide (fun w => Mn.add_any (o + i) n (in_of_turn h0) hn w)
  have f1 := hide (okN_in h1)
  have g1 := hide (okE_in h1)
  have H2 := hide (fun w => Mn.sub_any (o + i + n) u (in_of_turn h1) hu w)
  have f2 := hide (okN_in h2)
  have g2 := hide (okE_in h2)
  have H3 := hide (fun w => Mn.sub_any (o + i + n - u) x (in_of_turn h2) hx w)
  have f3 := hide (okN_out h3)
  have g3 := hide (okE_out h3)
  clear ho hi hu hn hx h0 h1 h2 h3
  have HL : Hid (Below w.heap.size w ((w.alloc (.cells #[.int .i64 o, .int .i64 i, .int .i64 u, .int .i64 n, .int .i64 x, .int .i64 z] 26)).alloc (.cells #[.func (.func 35) #[] #[], .int .i64 i, .func (.func 35) #[] #[], .int .i64 n, .func (.func 36) #[] #[], .int .i64 u, .func (.func 36) #[] #[], .int .i64 x] 73))) := hide (below_via (below1 w _) (below1 _ _))
  have HV : Hid (Blk ((w.alloc (.cells #[.int .i64 o, .int .i64 i, .int .i64 u, .int .i64 n, .int .i64 x, .int .i64 z] 26)).alloc (.cells #[.func (.func 35) #[] #[], .int .i64 i, .func (.func 35) #[] #[], .int .i64 n, .func (.func 36) #[] #[], .int .i64 u, .func (.func 36) #[] #[], .int .i64 x] 73)) (w.heap.size + 1) #[.func (.func 35) #[] #[], .int .i64 i, .func (.func 35) #[] #[], .int .i64 n, .func (.func 36) #[] #[], .int .i64 u, .func (.func 36) #[] #[], .int .i64 x] 73) := hide (by have := Blk.new (w.alloc (.cells #[.int .i64 o, .int .i64 i, .int .i64 u, .int .i64 n, .int .i64 x, .int .i64 z] 26)) #[.func (.func 35) #[] #[], .int .i64 i, .func (.func 35) #[] #[], .int .i64 n, .func (.func 36) #[] #[], .int .i64 u, .func (.func 36) #[] #[], .int .i64 x] 73; simpa using this)
  go_enter Try.func27, Try.ntmps27
  go_wp2_with fail
  generalize (w.alloc (.cells #[.int .i64 o, .int .i64 i, .int .i64 u, .int .i64 n, .int .i64 x, .int .i64 z] 26)).alloc (.cells #[.func (.func 35) #[] #[], .int .i64 i, .func (.func 35) #[] #[], .int .i64 n, .func (.func 36) #[] #[], .int .i64 u, .func (.func 36) #[] #[], .int .i64 x] 73) = W0 at *
  generalize w.heap.size + 1 = sb at *
  refine wp_loop_rounds 4 ?_
  rw [rounds_succ]
  have c0 := (show Blk _ _ _ _ from unhide HV).at 0 (.func (.func 35) #[] #[]) rfl
  have c1 := (show Blk _ _ _ _ from unhide HV).at 1 (.int .i64 i) rfl
  have lt := hide (show Blk _ _ _ _ from unhide HV).lt
  go_wp2_with (refine store_blk rfl 73 _ _ rfl (Blk.new W0 _ _) rfl rfl size73 rfl rfl rfl ?_)
  intro W1 k2 kp
  have HV0 := hide (kp.blk (by have := unhide lt; omega) ((show Blk _ _ _ _ from unhide HV).alloc _))
  replace HL := hide (kp.bel (unhide HL).size (below_via (unhide HL) (below1 _ _)))
  have d0 := k2.at 0 _ rfl
  have d1 := k2.at 1 _ rfl
  clear HV c0 c1 lt kp k2
  generalize W0.heap.size = nb0 at *
  go_wp2_with fail
  refine (unhide H0 _).mono ?_
  rintro e w1 ⟨rfl, rfl⟩
  rw [unhide f0, unhide g0]
  go_wp2_with fail
  clear d0 d1 H0 f0 g0
  have HV := HV0
  clear HV0
  rw [rounds_succ]
  have c0 := (show Blk _ _ _ _ from unhide HV).at 2 (.func (.func 35) #[] #[]) rfl
  have c1 := (show Blk _ _ _ _ from unhide HV).at 3 (.int .i64 n) rfl
  have lt := hide (show Blk _ _ _ _ from unhide HV).lt
  go_wp2_with (refine store_blk rfl 73 _ _ rfl (Blk.new W1 _ _) rfl rfl size73 rfl rfl rfl ?_)
  intro W2 k2 kp
  have HV1 := hide (kp.blk (by have := unhide lt; omega) ((show Blk _ _ _ _ from unhide HV).alloc _))
  replace HL := hide (kp.bel (unhide HL).size (below_via (unhide HL) (below1 _ _)))
  have d0 := k2.at 0 _ rfl
  have d1 := k2.at 1 _ rfl
  clear HV c0 c1 lt kp k2
  generalize W1.heap.size = nb1 at *
  go_wp2_with fail
  refine (unhide H1 _).mono ?_
  rintro e w2 ⟨rfl, rfl⟩
  rw [unhide f1, unhide g1]
  go_wp2_with fail
  clear d0 d1 H1 f1 g1
  have HV := HV1
  clear HV1
  rw [rounds_succ]
  have c0 := (show Blk _ _ _ _ from unhide HV).at 4 (.func (.func 36) #[] #[]) rfl
  have c1 := (show Blk _ _ _ _ from unhide HV).at 5 (.int .i64 u) rfl
  have lt := hide (show Blk _ _ _ _ from unhide HV).lt
  go_wp2_with (refine store_blk rfl 73 _ _ rfl (Blk.new W2 _ _) rfl rfl size73 rfl rfl rfl ?_)
  intro W3 k2 kp
  have HV2 := hide (kp.blk (by have := unhide lt; omega) ((show Blk _ _ _ _ from unhide HV).alloc _))
  replace HL := hide (kp.bel (unhide HL).size (below_via (unhide HL) (below1 _ _)))
  have d0 := k2.at 0 _ rfl
  have d1 := k2.at 1 _ rfl
  clear HV c0 c1 lt kp k2
  generalize W2.heap.size = nb2 at *
  go_wp2_with fail
  refine (unhide H2 _).mono ?_
  rintro e w3 ⟨rfl, rfl⟩
  rw [unhide f2, unhide g2]
  go_wp2_with fail
  clear d0 d1 H2 f2 g2
  have HV := HV2
  clear HV2
  rw [rounds_succ]
  have c0 := (show Blk _ _ _ _ from unhide HV).at 6 (.func (.func 36) #[] #[]) rfl
  have c1 := (show Blk _ _ _ _ from unhide HV).at 7 (.int .i64 x) rfl
  have lt := hide (show Blk _ _ _ _ from unhide HV).lt
  go_wp2_with (refine store_blk rfl 73 _ _ rfl (Blk.new W3 _ _) rfl rfl size73 rfl rfl rfl ?_)
  intro W4 k2 kp
  have HV3 := hide (kp.blk (by have := unhide lt; omega) ((show Blk _ _ _ _ from unhide HV).alloc _))
  replace HL := hide (kp.bel (unhide HL).size (below_via (unhide HL) (below1 _ _)))
  have d0 := k2.at 0 _ rfl
  have d1 := k2.at 1 _ rfl
  clear HV c0 c1 lt kp k2
  generalize W3.heap.size = nb3 at *
  go_wp2_with fail
  refine (unhide H3 _).mono ?_
  rintro e w4 ⟨rfl, rfl⟩
  rw [unhide f3, unhide g3]
  go_wp2_with fail
  clear d0 d1 H3 f3 g3
  have HV := HV3
  clear HV3
  go_ret2
  exact ⟨rfl, unhide HL⟩
set_option maxHeartbeats 1000000 in
set_option maxRecDepth 4000 in
theorem en_4 (o i u n x z : Int) (ho : In64 o) (hi : In64 i) (hu : In64 u) (hn : In64 n) (hx : In64 x) (h0 : turn (o + i) = 0) (h1 : turn (o + i + n) = 0) (h2 : turn (o + i + n - u) = 0) (h3 : turn (o + i + n - u - x) = 0) (w : World) : Calls Try.prog 27 #[.agg #[.int .i64 o, .int .i64 i, .int .i64 u, .int .i64 n, .int .i64 x, .int .i64 z]] w fun e w' => e = .returned (.tuple #[.int .i64 (o + i + n - u - x), .int .i64 0]) ∧ Below w.heap.size w w' := by
  have H0 := hide (fun w => Mn.add_any o i ho hi w)
  have f0 := hide (okN_in h0)
  have g0 := hide (okE_in h0)
  have H1 := hide (fun w => Mn.add_any (o + i) n (in_of_turn h0) hn w)
  have f1 := hide (okN_in h1)
  have g1 := hide (okE_in h1)
  have H2 := hide (fun w => Mn.sub_any (o + i + n) u (in_of_turn h1) hu w)
  have f2 := hide (okN_in h2)
  have g2 := hide (okE_in h2)
  have H3 := hide (fun w => Mn.sub_any (o + i + n - u) x (in_of_turn h2) hx w)
  have f3 := hide (okN_in h3)
  have g3 := hide (okE_in h3)
  clear ho hi hu hn hx h0 h1 h2 h3
  have HL : Hid (Below w.heap.size w ((w.alloc (.cells #[.int .i64 o, .int .i64 i, .int .i64 u, .int .i64 n, .int .i64 x, .int .i64 z] 26)).alloc (.cells #[.func (.func 35) #[] #[], .int .i64 i, .func (.func 35) #[] #[], .int .i64 n, .func (.func 36) #[] #[], .int .i64 u, .func (.func 36) #[] #[], .int .i64 x] 73))) := hide (below_via (below1 w _) (below1 _ _))
  have HV : Hid (Blk ((w.alloc (.cells #[.int .i64 o, .int .i64 i, .int .i64 u, .int .i64 n, .int .i64 x, .int .i64 z] 26)).alloc (.cells #[.func (.func 35) #[] #[], .int .i64 i, .func (.func 35) #[] #[], .int .i64 n, .func (.func 36) #[] #[], .int .i64 u, .func (.func 36) #[] #[], .int .i64 x] 73)) (w.heap.size + 1) #[.func (.func 35) #[] #[], .int .i64 i, .func (.func 35) #[] #[], .int .i64 n, .func (.func 36) #[] #[], .int .i64 u, .func (.func 36) #[] #[], .int .i64 x] 73) := hide (by have := Blk.new (w.alloc (.cells #[.int .i64 o, .int .i64 i, .int .i64 u, .int .i64 n, .int .i64 x, .int .i64 z] 26)) #[.func (.func 35) #[] #[], .int .i64 i, .func (.func 35) #[] #[], .int .i64 n, .func (.func 36) #[] #[], .int .i64 u, .func (.func 36) #[] #[], .int .i64 x] 73; simpa using this)
  go_enter Try.func27, Try.ntmps27
  go_wp2_with fail
  generalize (w.alloc (.cells #[.int .i64 o, .int .i64 i, .int .i64 u, .int .i64 n, .int .i64 x, .int .i64 z] 26)).alloc (.cells #[.func (.func 35) #[] #[], .int .i64 i, .func (.func 35) #[] #[], .int .i64 n, .func (.func 36) #[] #[], .int .i64 u, .func (.func 36) #[] #[], .int .i64 x] 73) = W0 at *
  generalize w.heap.size + 1 = sb at *
  refine wp_loop_rounds 5 ?_
  rw [rounds_succ]
  have c0 := (show Blk _ _ _ _ from unhide HV).at 0 (.func (.func 35) #[] #[]) rfl
  have c1 := (show Blk _ _ _ _ from unhide HV).at 1 (.int .i64 i) rfl
  have lt := hide (show Blk _ _ _ _ from unhide HV).lt
  go_wp2_with (refine store_blk rfl 73 _ _ rfl (Blk.new W0 _ _) rfl rfl size73 rfl rfl rfl ?_)
  intro W1 k2 kp
  have HV0 := hide (kp.blk (by have := unhide lt; omega) ((show Blk _ _ _ _ from unhide HV).alloc _))
  replace HL := hide (kp.bel (unhide HL).size (below_via (unhide HL) (below1 _ _)))
  have d0 := k2.at 0 _ rfl
  have d1 := k2.at 1 _ rfl
  clear HV c0 c1 lt kp k2
  generalize W0.heap.size = nb0 at *
  go_wp2_with fail
  refine (unhide H0 _).mono ?_
  rintro e w1 ⟨rfl, rfl⟩
  rw [unhide f0, unhide g0]
  go_wp2_with fail
  clear d0 d1 H0 f0 g0
  have HV := HV0
  clear HV0
  rw [rounds_succ]
  have c0 := (show Blk _ _ _ _ from unhide HV).at 2 (.func (.func 35) #[] #[]) rfl
  have c1 := (show Blk _ _ _ _ from unhide HV).at 3 (.int .i64 n) rfl
  have lt := hide (show Blk _ _ _ _ from unhide HV).lt
  go_wp2_with (refine store_blk rfl 73 _ _ rfl (Blk.new W1 _ _) rfl rfl size73 rfl rfl rfl ?_)
  intro W2 k2 kp
  have HV1 := hide (kp.blk (by have := unhide lt; omega) ((show Blk _ _ _ _ from unhide HV).alloc _))
  replace HL := hide (kp.bel (unhide HL).size (below_via (unhide HL) (below1 _ _)))
  have d0 := k2.at 0 _ rfl
  have d1 := k2.at 1 _ rfl
  clear HV c0 c1 lt kp k2
  generalize W1.heap.size = nb1 at *
  go_wp2_with fail
  refine (unhide H1 _).mono ?_
  rintro e w2 ⟨rfl, rfl⟩
  rw [unhide f1, unhide g1]
  go_wp2_with fail
  clear d0 d1 H1 f1 g1
  have HV := HV1
  clear HV1
  rw [rounds_succ]
  have c0 := (show Blk _ _ _ _ from unhide HV).at 4 (.func (.func 36) #[] #[]) rfl
  have c1 := (show Blk _ _ _ _ from unhide HV).at 5 (.int .i64 u) rfl
  have lt := hide (show Blk _ _ _ _ from unhide HV).lt
  go_wp2_with (refine store_blk rfl 73 _ _ rfl (Blk.new W2 _ _) rfl rfl size73 rfl rfl rfl ?_)
  intro W3 k2 kp
  have HV2 := hide (kp.blk (by have := unhide lt; omega) ((show Blk _ _ _ _ from unhide HV).alloc _))
  replace HL := hide (kp.bel (unhide HL).size (below_via (unhide HL) (below1 _ _)))
  have d0 := k2.at 0 _ rfl
  have d1 := k2.at 1 _ rfl
  clear HV c0 c1 lt kp k2
  generalize W2.heap.size = nb2 at *
  go_wp2_with fail
  refine (unhide H2 _).mono ?_
  rintro e w3 ⟨rfl, rfl⟩
  rw [unhide f2, unhide g2]
  go_wp2_with fail
  clear d0 d1 H2 f2 g2
  have HV := HV2
  clear HV2
  rw [rounds_succ]
  have c0 := (show Blk _ _ _ _ from unhide HV).at 6 (.func (.func 36) #[] #[]) rfl
  have c1 := (show Blk _ _ _ _ from unhide HV).at 7 (.int .i64 x) rfl
  have lt := hide (show Blk _ _ _ _ from unhide HV).lt
  go_wp2_with (refine store_blk rfl 73 _ _ rfl (Blk.new W3 _ _) rfl rfl size73 rfl rfl rfl ?_)
  intro W4 k2 kp
  have HV3 := hide (kp.blk (by have := unhide lt; omega) ((show Blk _ _ _ _ from unhide HV).alloc _))
  replace HL := hide (kp.bel (unhide HL).size (below_via (unhide HL) (below1 _ _)))
  have d0 := k2.at 0 _ rfl
  have d1 := k2.at 1 _ rfl
  clear HV c0 c1 lt kp k2
  generalize W3.heap.size = nb3 at *
  go_wp2_with fail
  refine (unhide H3 _).mono ?_
  rintro e w4 ⟨rfl, rfl⟩
  rw [unhide f3, unhide g3]
  go_wp2_with fail
  clear d0 d1 H3 f3 g3
  have HV := HV3
  clear HV3
  rw [rounds_succ]
  go_wp2_with fail
  go_ret2
  exact ⟨rfl, unhide HL⟩
theorem en_any (o i u n x z : Int) (ho : In64 o) (hi : In64 i) (hu : In64 u) (hn : In64 n) (hx : In64 x) (w : World) : Calls Try.prog 27 #[.agg #[.int .i64 o, .int .i64 i, .int .i64 u, .int .i64 n, .int .i64 x, .int .i64 z]] w fun e w' => e = .returned (.tuple #[.int .i64 (endN o i u n x), .int .i64 (endE o i u n x)]) ∧ Below w.heap.size w w' := by
  by_cases h0 : turn (o + i) = 0
  · by_cases h1 : turn (o + i + n) = 0
    · by_cases h2 : turn (o + i + n - u) = 0
      · by_cases h3 : turn (o + i + n - u - x) = 0
        · have f : fits o i u n x = true := by simp [fits, h0, h1, h2, h3]
          rw [endN, endE, if_pos f, if_pos f]
          exact en_4 o i u n x z ho hi hu hn hx h0 h1 h2 h3 w
        · have f : ¬ fits o i u n x = true := by simp [fits, h3]
          rw [endN, endE, if_neg f, if_neg f]
          exact en_3 o i u n x z ho hi hu hn hx h0 h1 h2 h3 w
      · have f : ¬ fits o i u n x = true := by simp [fits, h2]
        rw [endN, endE, if_neg f, if_neg f]
        exact en_2 o i u n x z ho hi hu hn hx h0 h1 h2 w
    · have f : ¬ fits o i u n x = true := by simp [fits, h1]
      rw [endN, endE, if_neg f, if_neg f]
      exact en_1 o i u n x z ho hi hu hn hx h0 h1 w
  · have f : ¬ fits o i u n x = true := by simp [fits, h0]
    rw [endN, endE, if_neg f, if_neg f]
    exact en_0 o i u n x z ho hi hu hn hx h0 w
/-- Does a row end with what it must? -/
def tieB (o i u n x z : Int) : Bool := fits o i u n x && (o + i + n - u - x == z)
theorem ti_0 (o i u n x z : Int) (ho : In64 o) (hi : In64 i) (hu : In64 u) (hn : In64 n) (hx : In64 x) (f : fits o i u n x = false) (w : World) : Calls Try.prog 16 #[.agg #[.int .i64 o, .int .i64 i, .int .i64 u, .int .i64 n, .int .i64 x, .int .i64 z]] w fun e w' => e = .returned (.bool false) ∧ Below w.heap.size w w' := by
  have H := hide (fun w => en_any o i u n x z ho hi hu hn hx w)
  have e0 : Hid (endN o i u n x = 0) := hide (by rw [endN, f]; rfl)
  have e1 : Hid (endE o i u n x = 3) := hide (by rw [endE, f]; rfl)
  clear ho hi hu hn hx f
  have HB := hide (Blk.new w #[.int .i64 o, .int .i64 i, .int .i64 u, .int .i64 n, .int .i64 x, .int .i64 z] 26)
  have HL := hide (below1 w (.cells #[.int .i64 o, .int .i64 i, .int .i64 u, .int .i64 n, .int .i64 x, .int .i64 z] 26))
  go_enter Try.func16, Try.ntmps16
  go_wp2_with fail
  refine (unhide H _).mono ?_
  rintro e w1 ⟨rfl, hb⟩
  rw [unhide e0, unhide e1]
  have c5 := ((unhide HB).keep hb).at 5 (.int .i64 z) rfl
  replace HL := hide (below_via (unhide HL) hb)
  clear hb
  go_wp2_with fail
  go_ret
  exact ⟨rfl, unhide HL⟩
theorem ti_1 (o i u n x z : Int) (ho : In64 o) (hi : In64 i) (hu : In64 u) (hn : In64 n) (hx : In64 x) (f : fits o i u n x = true) (w : World) : Calls Try.prog 16 #[.agg #[.int .i64 o, .int .i64 i, .int .i64 u, .int .i64 n, .int .i64 x, .int .i64 z]] w fun e w' => e = .returned (.bool (o + i + n - u - x == z)) ∧ Below w.heap.size w w' := by
  have H := hide (fun w => en_any o i u n x z ho hi hu hn hx w)
  have e0 : Hid (endN o i u n x = o + i + n - u - x) := hide (by rw [endN, f]; rfl)
  have e1 : Hid (endE o i u n x = 0) := hide (by rw [endE, f]; rfl)
  clear ho hi hu hn hx f
  have HB := hide (Blk.new w #[.int .i64 o, .int .i64 i, .int .i64 u, .int .i64 n, .int .i64 x, .int .i64 z] 26)
  have HL := hide (below1 w (.cells #[.int .i64 o, .int .i64 i, .int .i64 u, .int .i64 n, .int .i64 x, .int .i64 z] 26))
  go_enter Try.func16, Try.ntmps16
  go_wp2_with fail
  refine (unhide H _).mono ?_
  rintro e w1 ⟨rfl, hb⟩
  rw [unhide e0, unhide e1]
  have c5 := ((unhide HB).keep hb).at 5 (.int .i64 z) rfl
  replace HL := hide (below_via (unhide HL) hb)
  clear hb
  go_wp2_with fail
  go_ret
  exact ⟨rfl, unhide HL⟩
theorem ti_any (o i u n x z : Int) (ho : In64 o) (hi : In64 i) (hu : In64 u) (hn : In64 n) (hx : In64 x) (w : World) : Calls Try.prog 16 #[.agg #[.int .i64 o, .int .i64 i, .int .i64 u, .int .i64 n, .int .i64 x, .int .i64 z]] w fun e w' => e = .returned (.bool (tieB o i u n x z)) ∧ Below w.heap.size w w' := by
  unfold tieB
  cases f : fits o i u n x
  · exact ti_0 o i u n x z ho hi hu hn hx f w
  · exact ti_1 o i u n x z ho hi hu hn hx f w
end Go.Proofs.Ytkccladbcehdbaa
