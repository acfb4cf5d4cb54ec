/- The other rules, and which of them tells. -/
import Derived.Test.YtifdabmdacpmgaaNe
namespace Go.Proofs.Ytifdabmdacpmgaa
open Go.RowKit
set_option linter.unusedVariables false
set_option linter.unusedSimpArgs false
theorem Blk.drew {w : World} {b : Nat} {cs : Array Value} {T : TypeId} (h : Blk w b cs T) : Blk w.drew b cs T := h
theorem blk2 (w : World) (A B : Array Value) : Blk ((w.alloc (.cells A 54)).alloc (.cells B 51)) (w.heap.size + 1) B 51 := by
  have h := Blk.new (w.alloc (.cells A 54)) B 51
  simpa using h
theorem bel2 (w : World) (A B : Array Value) : Below w.heap.size w ((w.alloc (.cells A 54)).alloc (.cells B 51)) := (below1 w _).alloc (by simp) _
theorem Blk.put3 {w : World} {g : Nat} {T : TypeId} {c0 c1 c2 : Value} (h : Blk w g #[c0, c1, c2] T) (v0 v1 v2 : Value) : Blk (((w.setCell ⟨g, 0, none⟩ v0).setCell ⟨g, 1, none⟩ v1).setCell ⟨g, 2, none⟩ v2) g #[v0, v1, v2] T := by
  have k := ((h.set 0 v0).set 1 v1).set 2 v2
  simpa using k
theorem below_put3 {B : Nat} {w0 w : World} {g : Nat} (h : Below B w0 w) (hg : B ≤ g) (v0 v1 v2 : Value) : Below B w0 (((w.setCell ⟨g, 0, none⟩ v0).setCell ⟨g, 1, none⟩ v1).setCell ⟨g, 2, none⟩ v2) := ((h.setCell (p := ⟨g, 0, none⟩) hg v0).setCell (p := ⟨g, 1, none⟩) hg v1).setCell (p := ⟨g, 2, none⟩) hg v2
theorem Blk.put2 {w : World} {g : Nat} {T : TypeId} {c0 c1 : Value} (h : Blk w g #[c0, c1] T) (v0 v1 : Value) : Blk ((w.setCell ⟨g, 0, none⟩ v0).setCell ⟨g, 1, none⟩ v1) g #[v0, v1] T := by
  have k := (h.set 0 v0).set 1 v1
  simpa using k
theorem below_put2 {B : Nat} {w0 w : World} {g : Nat} (h : Below B w0 w) (hg : B ≤ g) (v0 v1 : Value) : Below B w0 ((w.setCell ⟨g, 0, none⟩ v0).setCell ⟨g, 1, none⟩ v1) := (h.setCell (p := ⟨g, 0, none⟩) hg v0).setCell (p := ⟨g, 1, none⟩) hg v1
theorem ge_y (s g p d : Int) (b : Bool) (e1 : IntKind.i64.wrap (s - 1) = s - 1) (e2 : IntKind.i64.wrap (g + 1) = g + 1) (q : (g + 1 == 3) = true) (w : World) : Calls Try.prog 20 #[.agg #[.int .i64 s, .int .i64 g, .int .i64 p, .int .i64 d, .bool b]] w fun e w' => e = .returned (.tuple #[.agg #[.int .i64 (s - 1), .int .i64 0, .int .i64 0], .bool true]) ∧ Below w.heap.size w w' := by
  go_enter Try.func20, Try.ntmps20
  go_wp2_with fail
  go_region
  all_goals (try go_wp2_with fail)
  all_goals exact bodyPost_ret (v := .tuple #[.agg #[.int .i64 (s - 1), .int .i64 0, .int .i64 0], .bool true]) (res_ct (cs0 := #[.int .i64 (s - 1), .int .i64 0, .int .i64 0]) rfl (blk2 w _ _).drew row51 size51 rfl rfl rfl) rfl ⟨rfl, (bel2 w _ _).drew⟩
theorem ge_n (s g p d : Int) (b : Bool) (e1 : IntKind.i64.wrap (s - 1) = s - 1) (e2 : IntKind.i64.wrap (g + 1) = g + 1) (q : (g + 1 == 3) = false) (w : World) : Calls Try.prog 20 #[.agg #[.int .i64 s, .int .i64 g, .int .i64 p, .int .i64 d, .bool b]] w fun e w' => e = .returned (.tuple #[.agg #[.int .i64 (s - 1), .int .i64 0, .int .i64 0], .bool false]) ∧ Below w.heap.size w w' := by
  go_enter Try.func20, Try.ntmps20
  go_wp2_with fail
  go_region
  all_goals (try go_wp2_with fail)
  all_goals exact bodyPost_ret (v := .tuple #[.agg #[.int .i64 (s - 1), .int .i64 0, .int .i64 0], .bool false]) (res_ct (cs0 := #[.int .i64 (s - 1), .int .i64 0, .int .i64 0]) rfl (blk2 w _ _).drew row51 size51 rfl rfl rfl) rfl ⟨rfl, (bel2 w _ _).drew⟩
theorem bt_a (s g p d : Int) (b : Bool) (e2 : IntKind.i64.wrap (g + 1) = g + 1) (w : World) : Calls Try.prog 21 #[.agg #[.int .i64 s, .int .i64 g, .int .i64 p, .int .i64 d, .bool b]] w fun e w' => e = .returned (.tuple #[.agg #[.int .i64 s, .int .i64 (g + 1), .int .i64 0], .bool true]) ∧ Below w.heap.size w w' := by
  go_enter Try.func21, Try.ntmps21
  go_wp2_with fail
  exact bodyPost_ret (v := .tuple #[.agg #[.int .i64 s, .int .i64 (g + 1), .int .i64 0], .bool true]) (res_ct (cs0 := #[.int .i64 s, .int .i64 (g + 1), .int .i64 0]) rfl (blk2 w _ _) row51 size51 rfl rfl rfl) rfl ⟨rfl, bel2 w _ _⟩
theorem nb_y (s g p d : Int) (b : Bool) (q : decide (s ≤ wst p d b) = true) (w : World) : Calls Try.prog 19 #[.agg #[.int .i64 s, .int .i64 g, .int .i64 p, .int .i64 d, .bool b]] w fun e w' => e = .returned (.tuple #[.agg #[.int .i64 (wst p d b), .int .i64 0, .int .i64 0], .bool true]) ∧ Below w.heap.size w w' := by
  have A := hide (S18.new w s g p d b)
  go_enter Try.func19, Try.ntmps19
  go_wp2_with fail
  refine (worst_any p d b _).mono ?_
  rintro e w2 ⟨rfl, hb⟩
  replace A := hide ((unhide A).keep hb)
  clear hb
  have c0 := (unhide A).b0.at 0 (.int .i64 s) rfl
  have r0 := (unhide A).b1.at 0 (.int .i64 0) rfl
  have r1 := (unhide A).b1.at 1 (.int .i64 0) rfl
  have r2 := (unhide A).b1.at 2 (.int .i64 0) rfl
  have f0 := (unhide A).b1.fz 0
  have f1 := (unhide A).b1.fz 1
  have f2 := (unhide A).b1.fz 2
  go_wp2_with fail
  go_region
  all_goals (try go_wp2_with fail)
  all_goals exact bodyPost_ret (v := .tuple #[.agg #[.int .i64 (wst p d b), .int .i64 0, .int .i64 0], .bool true]) (res_ct (cs0 := #[.int .i64 (wst p d b), .int .i64 0, .int .i64 0]) rfl ((unhide A).b1.put3 _ _ _).drew row51 size51 rfl rfl rfl) rfl ⟨rfl, (below_put3 (unhide A).bel (by omega) _ _ _).drew⟩
theorem nb_n (s g p d : Int) (b : Bool) (q : decide (s ≤ wst p d b) = false) (w : World) : Calls Try.prog 19 #[.agg #[.int .i64 s, .int .i64 g, .int .i64 p, .int .i64 d, .bool b]] w fun e w' => e = .returned (.tuple #[.agg #[.int .i64 (wst p d b), .int .i64 0, .int .i64 0], .bool false]) ∧ Below w.heap.size w w' := by
  have A := hide (S18.new w s g p d b)
  go_enter Try.func19, Try.ntmps19
  go_wp2_with fail
  refine (worst_any p d b _).mono ?_
  rintro e w2 ⟨rfl, hb⟩
  replace A := hide ((unhide A).keep hb)
  clear hb
  have c0 := (unhide A).b0.at 0 (.int .i64 s) rfl
  have r0 := (unhide A).b1.at 0 (.int .i64 0) rfl
  have r1 := (unhide A).b1.at 1 (.int .i64 0) rfl
  have r2 := (unhide A).b1.at 2 (.int .i64 0) rfl
  have f0 := (unhide A).b1.fz 0
  have f1 := (unhide A).b1.fz 1
  have f2 := (unhide A).b1.fz 2
  go_wp2_with fail
  go_region
  all_goals (try go_wp2_with fail)
  all_goals exact bodyPost_ret (v := .tuple #[.agg #[.int .i64 (wst p d b), .int .i64 0, .int .i64 0], .bool false]) (res_ct (cs0 := #[.int .i64 (wst p d b), .int .i64 0, .int .i64 0]) rfl ((unhide A).b1.put3 _ _ _).drew row51 size51 rfl rfl rfl) rfl ⟨rfl, (below_put3 (unhide A).bel (by omega) _ _ _).drew⟩
structure S17 (w wr : World) (k : Nat) (s g p d : Int) (b : Bool) : Prop where
  s18 : S18 w wr s g p d b
  rl : Blk wr k #[.func (.func 18) #[] #[], .func (.func 19) #[] #[], .func (.func 20) #[] #[], .func (.func 21) #[] #[]] 55
theorem S17.keep {w wr w2 : World} {k : Nat} {s g p d : Int} {b : Bool} (h : S17 w wr k s g p d b) (hb : Below wr.heap.size wr w2) : S17 w w2 k s g p d b := ⟨h.s18.keep hb, h.rl.keep hb⟩
theorem g17_a (s g p d : Int) (b : Bool) (k : Nat) (h : Hid (¬ okS s g)) (w : World) (hr : Blk w k #[.func (.func 18) #[] #[], .func (.func 19) #[] #[], .func (.func 20) #[] #[], .func (.func 21) #[] #[]] 55) : Calls Try.prog 17 #[.agg #[.int .i64 s, .int .i64 g, .int .i64 p, .int .i64 d, .bool b], .slice (some ⟨k, 0, none⟩) 4 4] w fun e w' => e = .returned (.agg #[.int .i64 0, .int .i64 0, .int .i64 2]) ∧ Below w.heap.size w w' := by
  have A := hide (show S17 w ((w.alloc (.cells #[.int .i64 s, .int .i64 g, .int .i64 p, .int .i64 d, .bool b] 54)).alloc (.cells #[.int .i64 0, .int .i64 0, .int .i64 0] 51)) k s g p d b from ⟨S18.new w s g p d b, (hr.alloc _).alloc _⟩)
  clear hr
  go_enter Try.func17, Try.ntmps17
  go_wp2_with fail
  generalize (w.alloc (.cells #[.int .i64 s, .int .i64 g, .int .i64 p, .int .i64 d, .bool b] 54)).alloc (.cells #[.int .i64 0, .int .i64 0, .int .i64 0] 51) = W at A ⊢
  refine wp_loop_rounds 1 ?_
  rw [rounds_succ]
  have x0 := (unhide A).rl.at 0 (.func (.func 18) #[] #[]) rfl
  have c0 := (unhide A).s18.b0.at 0 (.int .i64 s) rfl
  have c1 := (unhide A).s18.b0.at 1 (.int .i64 g) rfl
  have c2 := (unhide A).s18.b0.at 2 (.int .i64 p) rfl
  have c3 := (unhide A).s18.b0.at 3 (.int .i64 d) rfl
  have c4 := (unhide A).s18.b0.at 4 (.bool b) rfl
  go_wp2_with fail
  refine (wr_a s g p d b h _).mono ?_
  rintro e w0 ⟨rfl, hb⟩
  replace A := hide ((unhide A).keep hb)
  clear hb x0 c0 c1 c2 c3 c4
  replace A := hide ((unhide A).keep (below1 _ (.cells #[.int .i64 0, .int .i64 0, .int .i64 2] 51)))
  go_wp2_with (refine store_blk rfl 51 _ _ rfl ((unhide A).s18.b1) rfl rfl size51 rfl rfl rfl ?_)
  intro W1 k2 kp
  have k4 := kp.bel (by omega) (unhide A).s18.bel
  clear kp A
  go_wp2_with fail
  exact bodyPost_ret (v := .agg #[.int .i64 0, .int .i64 0, .int .i64 2]) (res_c rfl k2 row51 size51 rfl rfl) rfl ⟨rfl, k4⟩
theorem g17_b (s g p d : Int) (b : Bool) (k : Nat) (h : Hid (okS s g)) (h2 : Hid (¬ okM p d)) (w : World) (hr : Blk w k #[.func (.func 18) #[] #[], .func (.func 19) #[] #[], .func (.func 20) #[] #[], .func (.func 21) #[] #[]] 55) : Calls Try.prog 17 #[.agg #[.int .i64 s, .int .i64 g, .int .i64 p, .int .i64 d, .bool b], .slice (some ⟨k, 0, none⟩) 4 4] w fun e w' => e = .returned (.agg #[.int .i64 0, .int .i64 0, .int .i64 2]) ∧ Below w.heap.size w w' := by
  have A := hide (show S17 w ((w.alloc (.cells #[.int .i64 s, .int .i64 g, .int .i64 p, .int .i64 d, .bool b] 54)).alloc (.cells #[.int .i64 0, .int .i64 0, .int .i64 0] 51)) k s g p d b from ⟨S18.new w s g p d b, (hr.alloc _).alloc _⟩)
  clear hr
  go_enter Try.func17, Try.ntmps17
  go_wp2_with fail
  generalize (w.alloc (.cells #[.int .i64 s, .int .i64 g, .int .i64 p, .int .i64 d, .bool b] 54)).alloc (.cells #[.int .i64 0, .int .i64 0, .int .i64 0] 51) = W at A ⊢
  refine wp_loop_rounds 1 ?_
  rw [rounds_succ]
  have x0 := (unhide A).rl.at 0 (.func (.func 18) #[] #[]) rfl
  have c0 := (unhide A).s18.b0.at 0 (.int .i64 s) rfl
  have c1 := (unhide A).s18.b0.at 1 (.int .i64 g) rfl
  have c2 := (unhide A).s18.b0.at 2 (.int .i64 p) rfl
  have c3 := (unhide A).s18.b0.at 3 (.int .i64 d) rfl
  have c4 := (unhide A).s18.b0.at 4 (.bool b) rfl
  go_wp2_with fail
  refine (wr_b s g p d b h h2 _).mono ?_
  rintro e w0 ⟨rfl, hb⟩
  replace A := hide ((unhide A).keep hb)
  clear hb x0 c0 c1 c2 c3 c4
  replace A := hide ((unhide A).keep (below1 _ (.cells #[.int .i64 0, .int .i64 0, .int .i64 2] 51)))
  go_wp2_with (refine store_blk rfl 51 _ _ rfl ((unhide A).s18.b1) rfl rfl size51 rfl rfl rfl ?_)
  intro W1 k2 kp
  have k4 := kp.bel (by omega) (unhide A).s18.bel
  clear kp A
  go_wp2_with fail
  exact bodyPost_ret (v := .agg #[.int .i64 0, .int .i64 0, .int .i64 2]) (res_c rfl k2 row51 size51 rfl rfl) rfl ⟨rfl, k4⟩
theorem g17_c (s g p d : Int) (b : Bool) (k : Nat) (h : Hid (okS s g)) (h2 : Hid (okM p d)) (q : Hid (decide (s ≤ wst p d b) = true)) (w : World) (hr : Blk w k #[.func (.func 18) #[] #[], .func (.func 19) #[] #[], .func (.func 20) #[] #[], .func (.func 21) #[] #[]] 55) : Calls Try.prog 17 #[.agg #[.int .i64 s, .int .i64 g, .int .i64 p, .int .i64 d, .bool b], .slice (some ⟨k, 0, none⟩) 4 4] w fun e w' => e = .returned (.agg #[.int .i64 (wst p d b), .int .i64 0, .int .i64 0]) ∧ Below w.heap.size w w' := by
  have A := hide (show S17 w ((w.alloc (.cells #[.int .i64 s, .int .i64 g, .int .i64 p, .int .i64 d, .bool b] 54)).alloc (.cells #[.int .i64 0, .int .i64 0, .int .i64 0] 51)) k s g p d b from ⟨S18.new w s g p d b, (hr.alloc _).alloc _⟩)
  clear hr
  go_enter Try.func17, Try.ntmps17
  go_wp2_with fail
  generalize (w.alloc (.cells #[.int .i64 s, .int .i64 g, .int .i64 p, .int .i64 d, .bool b] 54)).alloc (.cells #[.int .i64 0, .int .i64 0, .int .i64 0] 51) = W at A ⊢
  refine wp_loop_rounds 2 ?_
  rw [rounds_succ]
  have x0 := (unhide A).rl.at 0 (.func (.func 18) #[] #[]) rfl
  have c0 := (unhide A).s18.b0.at 0 (.int .i64 s) rfl
  have c1 := (unhide A).s18.b0.at 1 (.int .i64 g) rfl
  have c2 := (unhide A).s18.b0.at 2 (.int .i64 p) rfl
  have c3 := (unhide A).s18.b0.at 3 (.int .i64 d) rfl
  have c4 := (unhide A).s18.b0.at 4 (.bool b) rfl
  go_wp2_with fail
  refine (wr_c s g p d b h h2 _).mono ?_
  rintro e w0 ⟨rfl, hb⟩
  replace A := hide ((unhide A).keep hb)
  clear hb x0 c0 c1 c2 c3 c4
  go_wp2_with fail
  replace A := hide ((unhide A).keep (below1 _ (.cells #[.int .i64 0, .int .i64 0, .int .i64 2] 51)))
  generalize w0.alloc (.cells #[.int .i64 0, .int .i64 0, .int .i64 2] 51) = V0 at A ⊢
  rw [rounds_succ]
  have x0 := (unhide A).rl.at 1 (.func (.func 19) #[] #[]) rfl
  have c0 := (unhide A).s18.b0.at 0 (.int .i64 s) rfl
  have c1 := (unhide A).s18.b0.at 1 (.int .i64 g) rfl
  have c2 := (unhide A).s18.b0.at 2 (.int .i64 p) rfl
  have c3 := (unhide A).s18.b0.at 3 (.int .i64 d) rfl
  have c4 := (unhide A).s18.b0.at 4 (.bool b) rfl
  go_wp2_with fail
  refine (nb_y s g p d b (unhide q) _).mono ?_
  rintro e w1 ⟨rfl, hb⟩
  replace A := hide ((unhide A).keep hb)
  clear hb x0 c0 c1 c2 c3 c4
  replace A := hide ((unhide A).keep (below1 _ (.cells #[.int .i64 (wst p d b), .int .i64 0, .int .i64 0] 51)))
  go_wp2_with (refine store_blk rfl 51 _ _ rfl ((unhide A).s18.b1) rfl rfl size51 rfl rfl rfl ?_)
  intro W1 k2 kp
  have k4 := kp.bel (by omega) (unhide A).s18.bel
  clear kp A
  go_wp2_with fail
  exact bodyPost_ret (v := .agg #[.int .i64 (wst p d b), .int .i64 0, .int .i64 0]) (res_c rfl k2 row51 size51 rfl rfl) rfl ⟨rfl, k4⟩
theorem g17_d (s g p d : Int) (b : Bool) (k : Nat) (h : Hid (okS s g)) (h2 : Hid (okM p d)) (q : Hid (decide (s ≤ wst p d b) = false)) (e1 : Hid (IntKind.i64.wrap (s - 1) = s - 1)) (e2 : Hid (IntKind.i64.wrap (g + 1) = g + 1)) (q2 : Hid ((g + 1 == 3) = true)) (w : World) (hr : Blk w k #[.func (.func 18) #[] #[], .func (.func 19) #[] #[], .func (.func 20) #[] #[], .func (.func 21) #[] #[]] 55) : Calls Try.prog 17 #[.agg #[.int .i64 s, .int .i64 g, .int .i64 p, .int .i64 d, .bool b], .slice (some ⟨k, 0, none⟩) 4 4] w fun e w' => e = .returned (.agg #[.int .i64 (s - 1), .int .i64 0, .int .i64 0]) ∧ Below w.heap.size w w' := by
  have A := hide (show S17 w ((w.alloc (.cells #[.int .i64 s, .int .i64 g, .int .i64 p, .int .i64 d, .bool b] 54)).alloc (.cells #[.int .i64 0, .int .i64 0, .int .i64 0] 51)) k s g p d b from ⟨S18.new w s g p d b, (hr.alloc _).alloc _⟩)
  clear hr
  go_enter Try.func17, Try.ntmps17
  go_wp2_with fail
  generalize (w.alloc (.cells #[.int .i64 s, .int .i64 g, .int .i64 p, .int .i64 d, .bool b] 54)).alloc (.cells #[.int .i64 0, .int .i64 0, .int .i64 0] 51) = W at A ⊢
  refine wp_loop_rounds 3 ?_
  rw [rounds_succ]
  have x0 := (unhide A).rl.at 0 (.func (.func 18) #[] #[]) rfl
  have c0 := (unhide A).s18.b0.at 0 (.int .i64 s) rfl
  have c1 := (unhide A).s18.b0.at 1 (.int .i64 g) rfl
  have c2 := (unhide A).s18.b0.at 2 (.int .i64 p) rfl
  have c3 := (unhide A).s18.b0.at 3 (.int .i64 d) rfl
  have c4 := (unhide A).s18.b0.at 4 (.bool b) rfl
  go_wp2_with fail
  refine (wr_c s g p d b h h2 _).mono ?_
  rintro e w0 ⟨rfl, hb⟩
  replace A := hide ((unhide A).keep hb)
  clear hb x0 c0 c1 c2 c3 c4
  go_wp2_with fail
  replace A := hide ((unhide A).keep (below1 _ (.cells #[.int .i64 0, .int .i64 0, .int .i64 2] 51)))
  generalize w0.alloc (.cells #[.int .i64 0, .int .i64 0, .int .i64 2] 51) = V0 at A ⊢
  rw [rounds_succ]
  have x0 := (unhide A).rl.at 1 (.func (.func 19) #[] #[]) rfl
  have c0 := (unhide A).s18.b0.at 0 (.int .i64 s) rfl
  have c1 := (unhide A).s18.b0.at 1 (.int .i64 g) rfl
  have c2 := (unhide A).s18.b0.at 2 (.int .i64 p) rfl
  have c3 := (unhide A).s18.b0.at 3 (.int .i64 d) rfl
  have c4 := (unhide A).s18.b0.at 4 (.bool b) rfl
  go_wp2_with fail
  refine (nb_n s g p d b (unhide q) _).mono ?_
  rintro e w1 ⟨rfl, hb⟩
  replace A := hide ((unhide A).keep hb)
  clear hb x0 c0 c1 c2 c3 c4
  go_wp2_with fail
  replace A := hide ((unhide A).keep (below1 _ (.cells #[.int .i64 (wst p d b), .int .i64 0, .int .i64 0] 51)))
  generalize w1.alloc (.cells #[.int .i64 (wst p d b), .int .i64 0, .int .i64 0] 51) = V1 at A ⊢
  rw [rounds_succ]
  have x0 := (unhide A).rl.at 2 (.func (.func 20) #[] #[]) rfl
  have c0 := (unhide A).s18.b0.at 0 (.int .i64 s) rfl
  have c1 := (unhide A).s18.b0.at 1 (.int .i64 g) rfl
  have c2 := (unhide A).s18.b0.at 2 (.int .i64 p) rfl
  have c3 := (unhide A).s18.b0.at 3 (.int .i64 d) rfl
  have c4 := (unhide A).s18.b0.at 4 (.bool b) rfl
  go_wp2_with fail
  refine (ge_y s g p d b (unhide e1) (unhide e2) (unhide q2) _).mono ?_
  rintro e w2 ⟨rfl, hb⟩
  replace A := hide ((unhide A).keep hb)
  clear hb x0 c0 c1 c2 c3 c4
  replace A := hide ((unhide A).keep (below1 _ (.cells #[.int .i64 (s - 1), .int .i64 0, .int .i64 0] 51)))
  go_wp2_with (refine store_blk rfl 51 _ _ rfl ((unhide A).s18.b1) rfl rfl size51 rfl rfl rfl ?_)
  intro W1 k2 kp
  have k4 := kp.bel (by omega) (unhide A).s18.bel
  clear kp A
  go_wp2_with fail
  exact bodyPost_ret (v := .agg #[.int .i64 (s - 1), .int .i64 0, .int .i64 0]) (res_c rfl k2 row51 size51 rfl rfl) rfl ⟨rfl, k4⟩
theorem g17_e (s g p d : Int) (b : Bool) (k : Nat) (h : Hid (okS s g)) (h2 : Hid (okM p d)) (q : Hid (decide (s ≤ wst p d b) = false)) (e1 : Hid (IntKind.i64.wrap (s - 1) = s - 1)) (e2 : Hid (IntKind.i64.wrap (g + 1) = g + 1)) (q2 : Hid ((g + 1 == 3) = false)) (w : World) (hr : Blk w k #[.func (.func 18) #[] #[], .func (.func 19) #[] #[], .func (.func 20) #[] #[], .func (.func 21) #[] #[]] 55) : Calls Try.prog 17 #[.agg #[.int .i64 s, .int .i64 g, .int .i64 p, .int .i64 d, .bool b], .slice (some ⟨k, 0, none⟩) 4 4] w fun e w' => e = .returned (.agg #[.int .i64 s, .int .i64 (g + 1), .int .i64 0]) ∧ Below w.heap.size w w' := by
  have A := hide (show S17 w ((w.alloc (.cells #[.int .i64 s, .int .i64 g, .int .i64 p, .int .i64 d, .bool b] 54)).alloc (.cells #[.int .i64 0, .int .i64 0, .int .i64 0] 51)) k s g p d b from ⟨S18.new w s g p d b, (hr.alloc _).alloc _⟩)
  clear hr
  go_enter Try.func17, Try.ntmps17
  go_wp2_with fail
  generalize (w.alloc (.cells #[.int .i64 s, .int .i64 g, .int .i64 p, .int .i64 d, .bool b] 54)).alloc (.cells #[.int .i64 0, .int .i64 0, .int .i64 0] 51) = W at A ⊢
  refine wp_loop_rounds 4 ?_
  rw [rounds_succ]
  have x0 := (unhide A).rl.at 0 (.func (.func 18) #[] #[]) rfl
  have c0 := (unhide A).s18.b0.at 0 (.int .i64 s) rfl
  have c1 := (unhide A).s18.b0.at 1 (.int .i64 g) rfl
  have c2 := (unhide A).s18.b0.at 2 (.int .i64 p) rfl
  have c3 := (unhide A).s18.b0.at 3 (.int .i64 d) rfl
  have c4 := (unhide A).s18.b0.at 4 (.bool b) rfl
  go_wp2_with fail
  refine (wr_c s g p d b h h2 _).mono ?_
  rintro e w0 ⟨rfl, hb⟩
  replace A := hide ((unhide A).keep hb)
  clear hb x0 c0 c1 c2 c3 c4
  go_wp2_with fail
  replace A := hide ((unhide A).keep (below1 _ (.cells #[.int .i64 0, .int .i64 0, .int .i64 2] 51)))
  generalize w0.alloc (.cells #[.int .i64 0, .int .i64 0, .int .i64 2] 51) = V0 at A ⊢
  rw [rounds_succ]
  have x0 := (unhide A).rl.at 1 (.func (.func 19) #[] #[]) rfl
  have c0 := (unhide A).s18.b0.at 0 (.int .i64 s) rfl
  have c1 := (unhide A).s18.b0.at 1 (.int .i64 g) rfl
  have c2 := (unhide A).s18.b0.at 2 (.int .i64 p) rfl
  have c3 := (unhide A).s18.b0.at 3 (.int .i64 d) rfl
  have c4 := (unhide A).s18.b0.at 4 (.bool b) rfl
  go_wp2_with fail
  refine (nb_n s g p d b (unhide q) _).mono ?_
  rintro e w1 ⟨rfl, hb⟩
  replace A := hide ((unhide A).keep hb)
  clear hb x0 c0 c1 c2 c3 c4
  go_wp2_with fail
  replace A := hide ((unhide A).keep (below1 _ (.cells #[.int .i64 (wst p d b), .int .i64 0, .int .i64 0] 51)))
  generalize w1.alloc (.cells #[.int .i64 (wst p d b), .int .i64 0, .int .i64 0] 51) = V1 at A ⊢
  rw [rounds_succ]
  have x0 := (unhide A).rl.at 2 (.func (.func 20) #[] #[]) rfl
  have c0 := (unhide A).s18.b0.at 0 (.int .i64 s) rfl
  have c1 := (unhide A).s18.b0.at 1 (.int .i64 g) rfl
  have c2 := (unhide A).s18.b0.at 2 (.int .i64 p) rfl
  have c3 := (unhide A).s18.b0.at 3 (.int .i64 d) rfl
  have c4 := (unhide A).s18.b0.at 4 (.bool b) rfl
  go_wp2_with fail
  refine (ge_n s g p d b (unhide e1) (unhide e2) (unhide q2) _).mono ?_
  rintro e w2 ⟨rfl, hb⟩
  replace A := hide ((unhide A).keep hb)
  clear hb x0 c0 c1 c2 c3 c4
  go_wp2_with fail
  replace A := hide ((unhide A).keep (below1 _ (.cells #[.int .i64 (s - 1), .int .i64 0, .int .i64 0] 51)))
  generalize w2.alloc (.cells #[.int .i64 (s - 1), .int .i64 0, .int .i64 0] 51) = V2 at A ⊢
  rw [rounds_succ]
  have x0 := (unhide A).rl.at 3 (.func (.func 21) #[] #[]) rfl
  have c0 := (unhide A).s18.b0.at 0 (.int .i64 s) rfl
  have c1 := (unhide A).s18.b0.at 1 (.int .i64 g) rfl
  have c2 := (unhide A).s18.b0.at 2 (.int .i64 p) rfl
  have c3 := (unhide A).s18.b0.at 3 (.int .i64 d) rfl
  have c4 := (unhide A).s18.b0.at 4 (.bool b) rfl
  go_wp2_with fail
  refine (bt_a s g p d b (unhide e2) _).mono ?_
  rintro e w3 ⟨rfl, hb⟩
  replace A := hide ((unhide A).keep hb)
  clear hb x0 c0 c1 c2 c3 c4
  replace A := hide ((unhide A).keep (below1 _ (.cells #[.int .i64 s, .int .i64 (g + 1), .int .i64 0] 51)))
  go_wp2_with (refine store_blk rfl 51 _ _ rfl ((unhide A).s18.b1) rfl rfl size51 rfl rfl rfl ?_)
  intro W1 k2 kp
  have k4 := kp.bel (by omega) (unhide A).s18.bel
  clear kp A
  go_wp2_with fail
  exact bodyPost_ret (v := .agg #[.int .i64 s, .int .i64 (g + 1), .int .i64 0]) (res_c rfl k2 row51 size51 rfl rfl) rfl ⟨rfl, k4⟩
end Go.Proofs.Ytifdabmdacpmgaa
