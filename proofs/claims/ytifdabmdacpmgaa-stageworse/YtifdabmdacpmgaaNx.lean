/- Next, the program's and the document's. -/
import Derived.Test.YtifdabmdacpmgaaNf
namespace Go.Proofs.Ytifdabmdacpmgaa
open Go.RowKit
set_option linter.unusedVariables false
set_option linter.unusedSimpArgs false
abbrev Mk := Int × Int × Bool
/-- The state behind a mark, and the error. -/
def nxt (s g p d : Int) (b : Bool) : Int × Int × Int := if okS s g ∧ okM p d then (if s ≤ wst p d b then (wst p d b, 0, 0) else if g = 2 then (s - 1, 0, 0) else (s, g + 1, 0)) else (0, 0, 2)
theorem wrap_in {n : Int} (h : In64 n) : IntKind.i64.wrap n = n := IntWalk.i64_in _ ⟨h.lo, h.hi⟩
theorem f17_any (s g p d : Int) (b : Bool) (k : Nat) (w : World) (hr : Blk w k #[.func (.func 18) #[] #[], .func (.func 19) #[] #[], .func (.func 20) #[] #[], .func (.func 21) #[] #[]] 55) : Calls Try.prog 17 #[.agg #[.int .i64 s, .int .i64 g, .int .i64 p, .int .i64 d, .bool b], .slice (some ⟨k, 0, none⟩) 4 4] w fun e w' => e = .returned (.agg #[.int .i64 (nxt s g p d b).1, .int .i64 (nxt s g p d b).2.1, .int .i64 (nxt s g p d b).2.2]) ∧ Below w.heap.size w w' := by
  unfold nxt
  by_cases h : okS s g
  · by_cases h2 : okM p d
    · rw [if_pos ⟨h, h2⟩]
      by_cases q : s ≤ wst p d b
      · rw [if_pos q]; exact g17_c s g p d b k (hide h) (hide h2) (hide (decide_eq_true q)) w hr
      · rw [if_neg q]
        obtain ⟨h3, h4, h5, h6, _⟩ := id h
        have e1 := hide (wrap_in (n := s - 1) ⟨by omega, by omega⟩)
        have e2 := hide (wrap_in (n := g + 1) ⟨by omega, by omega⟩)
        by_cases q2 : g = 2
        · rw [if_pos q2]; exact g17_d s g p d b k (hide h) (hide h2) (hide (decide_eq_false q)) e1 e2 (hide (by simp [q2])) w hr
        · rw [if_neg q2]; exact g17_e s g p d b k (hide h) (hide h2) (hide (decide_eq_false q)) e1 e2 (hide (by simp only [beq_eq_false_iff_ne]; omega)) w hr
    · rw [if_neg (fun c => h2 c.2)]; exact g17_b s g p d b k (hide h) (hide h2) w hr
  · rw [if_neg (fun c => h c.1)]; exact g17_a s g p d b k (hide h) w hr
def NextA (f : Nat) : Prop := ∀ (s g p d : Int) (b : Bool) (w : World), Calls Try.prog f #[.agg #[.int .i64 s, .int .i64 g], .agg #[.int .i64 p, .int .i64 d, .bool b]] w fun e w' => e = .returned (.tuple #[.agg #[.int .i64 (nxt s g p d b).1, .int .i64 (nxt s g p d b).2.1], .int .i64 (nxt s g p d b).2.2]) ∧ Below w.heap.size w w'
structure S9 (w wr : World) (x y : Value) : Prop where
  bel : Below w.heap.size w wr
  rs : Blk wr (w.heap.size + 1 + 1) #[x, y] 27
theorem S9.keep {w wr w2 : World} {x y : Value} (h : S9 w wr x y) (hb : Below wr.heap.size wr w2) : S9 w w2 x y := ⟨below_via h.bel hb, h.rs.keep hb⟩
theorem next_any : NextA 9 := by
  intro s g p d b w
  generalize hW : (((w.alloc (.cells #[.int .i64 s, .int .i64 g] 27)).alloc (.cells #[.int .i64 p, .int .i64 d, .bool b] 31)).alloc (.cells #[.int .i64 0, .int .i64 0] 27)).alloc (.cells #[.func (.func 18) #[] #[], .func (.func 19) #[] #[], .func (.func 20) #[] #[], .func (.func 21) #[] #[]] 55) = W
  have A : Hid (S9 w W (.int .i64 0) (.int .i64 0)) := hide (by
    rw [← hW]
    refine ⟨(((below1 w _).alloc (by simp) _).alloc (by simp; omega) _).alloc (by simp; omega) _, ?_⟩
    have h := (Blk.new ((w.alloc (.cells #[.int .i64 s, .int .i64 g] 27)).alloc (.cells #[.int .i64 p, .int .i64 d, .bool b] 31)) #[.int .i64 0, .int .i64 0] 27).alloc (.cells #[.func (.func 18) #[] #[], .func (.func 19) #[] #[], .func (.func 20) #[] #[], .func (.func 21) #[] #[]] 55)
    simpa using h)
  have HK : Hid (Blk W (w.heap.size + 1 + 1 + 1) #[.func (.func 18) #[] #[], .func (.func 19) #[] #[], .func (.func 20) #[] #[], .func (.func 21) #[] #[]] 55) := hide (by
    rw [← hW]
    have h := Blk.new (((w.alloc (.cells #[.int .i64 s, .int .i64 g] 27)).alloc (.cells #[.int .i64 p, .int .i64 d, .bool b] 31)).alloc (.cells #[.int .i64 0, .int .i64 0] 27)) #[.func (.func 18) #[] #[], .func (.func 19) #[] #[], .func (.func 20) #[] #[], .func (.func 21) #[] #[]] 55
    simpa using h)
  have HF := hide (f17_any s g p d b _ W (unhide HK))
  go_enter Try.func9, Try.ntmps9
  generalize nxt s g p d b = r at *
  obtain ⟨x, y, z⟩ := r
  replace HF : Hid (Calls Try.prog 17 #[.agg #[.int .i64 s, .int .i64 g, .int .i64 p, .int .i64 d, .bool b], .slice (some ⟨w.heap.size + 1 + 1 + 1, 0, none⟩) 4 4] W fun e w' => e = .returned (.agg #[.int .i64 x, .int .i64 y, .int .i64 z]) ∧ Below W.heap.size W w') := HF
  go_wp2_with fail
  refine (unhide HF).mono ?_
  rintro e w2 ⟨rfl, hb⟩
  clear hW HF HK
  replace A := hide ((unhide A).keep hb)
  replace A := hide ((unhide A).keep (below1 _ (.cells #[.int .i64 x, .int .i64 y, .int .i64 z] 51)))
  have HT := hide (Blk.new w2 #[.int .i64 x, .int .i64 y, .int .i64 z] 51)
  clear hb
  go_wp2_with fail
  generalize w2.alloc (.cells #[.int .i64 x, .int .i64 y, .int .i64 z] 51) = V at A HT ⊢
  have t0 := (show Blk _ _ _ _ from unhide HT).at 0 (.int .i64 x) rfl
  have t1 := (show Blk _ _ _ _ from unhide HT).at 1 (.int .i64 y) rfl
  have t2 := (show Blk _ _ _ _ from unhide HT).at 2 (.int .i64 z) rfl
  have r0 := (unhide A).rs.at 0 (.int .i64 0) rfl
  have r1 := (unhide A).rs.at 1 (.int .i64 0) rfl
  have f0 := (unhide A).rs.fz 0
  have f1 := (unhide A).rs.fz 1
  have hne : ¬ w2.heap.size = w.heap.size + 1 + 1 := fun c => by
    have := (unhide A).rs
    rw [← c] at this
    have e := Option.some.inj ((show Blk _ _ _ _ from unhide HT).symm.trans this)
    simp at e
  go_region
  all_goals (try go_wp2_with fail)
  all_goals exact bodyPost_ret (v := .tuple #[.agg #[.int .i64 x, .int .i64 y], .int .i64 z]) (res_ct (cs0 := #[.int .i64 x, .int .i64 y]) rfl ((unhide A).rs.put2 _ _).drew row27 size27 rfl rfl rfl) rfl ⟨rfl, (below_put2 (unhide A).bel (by omega) _ _).drew⟩
theorem row23 : isRowB Try.prog 23 = true := by kernel_rfl
theorem size23 : (Try.prog.info? 23).map (·.size) = some 2 := by kernel_rfl
theorem blk3 (w : World) (A B C : Array Value) : Blk (((w.alloc (.cells A 23)).alloc (.cells B 25)).alloc (.cells C 23)) (w.heap.size + 1 + 1) C 23 := by
  have h := Blk.new ((w.alloc (.cells A 23)).alloc (.cells B 25)) C 23
  simpa using h
theorem bel3 (w : World) (A B C : Array Value) : Below w.heap.size w (((w.alloc (.cells A 23)).alloc (.cells B 25)).alloc (.cells C 23)) := ((below1 w _).alloc (by simp) _).alloc (by simp; omega) _
structure S10 (w wr : World) (s g : Int) (p d : Int) (b : Bool) : Prop where
  bel : Below w.heap.size w wr
  b0 : Blk wr w.heap.size #[.int .i64 s, .int .i64 g] 23
  rs : Blk wr (w.heap.size + 1 + 1) #[.int .i64 0, .int .i64 0] 23
theorem S10.keep {w wr w2 : World} {s g p d : Int} {b : Bool} (h : S10 w wr s g p d b) (hb : Below wr.heap.size wr w2) : S10 w w2 s g p d b := ⟨below_via h.bel hb, h.b0.keep hb, h.rs.keep hb⟩
theorem S10.new (w : World) (s g p d : Int) (b : Bool) : S10 w (((w.alloc (.cells #[.int .i64 s, .int .i64 g] 23)).alloc (.cells #[.int .i64 p, .int .i64 d, .bool b] 25)).alloc (.cells #[.int .i64 0, .int .i64 0] 23)) s g p d b := ⟨bel3 w _ _ _, ((Blk.new w _ _).alloc _).alloc _, blk3 w _ _ _⟩
theorem rn_0 (s g p d : Int) (b : Bool)  (q0 : decide (p < 0) = true) (w : World) : Calls Try.prog 10 #[.agg #[.int .i64 s, .int .i64 g], .agg #[.int .i64 p, .int .i64 d, .bool b]] w fun e w' => e = .returned (.tuple #[.agg #[.int .i64 0, .int .i64 0], .int .i64 2]) ∧ Below w.heap.size w w' := by
  go_enter Try.func10, Try.ntmps10
  go_wp2_with fail
  exact bodyPost_ret (v := .tuple #[.agg #[.int .i64 0, .int .i64 0], .int .i64 2]) (res_ct (cs0 := #[.int .i64 0, .int .i64 0]) rfl (blk3 w _ _ _) row23 size23 rfl rfl rfl) rfl ⟨rfl, bel3 w _ _ _⟩
theorem rn_1 (s g p d : Int) (b : Bool)  (q0 : decide (p < 0) = false) (q1 : decide (10000 < p) = true) (w : World) : Calls Try.prog 10 #[.agg #[.int .i64 s, .int .i64 g], .agg #[.int .i64 p, .int .i64 d, .bool b]] w fun e w' => e = .returned (.tuple #[.agg #[.int .i64 0, .int .i64 0], .int .i64 2]) ∧ Below w.heap.size w w' := by
  go_enter Try.func10, Try.ntmps10
  go_wp2_with fail
  exact bodyPost_ret (v := .tuple #[.agg #[.int .i64 0, .int .i64 0], .int .i64 2]) (res_ct (cs0 := #[.int .i64 0, .int .i64 0]) rfl (blk3 w _ _ _) row23 size23 rfl rfl rfl) rfl ⟨rfl, bel3 w _ _ _⟩
theorem rn_2 (s g p d : Int) (b : Bool)  (q0 : decide (p < 0) = false) (q1 : decide (10000 < p) = false) (q2 : decide (d < -100) = true) (w : World) : Calls Try.prog 10 #[.agg #[.int .i64 s, .int .i64 g], .agg #[.int .i64 p, .int .i64 d, .bool b]] w fun e w' => e = .returned (.tuple #[.agg #[.int .i64 0, .int .i64 0], .int .i64 2]) ∧ Below w.heap.size w w' := by
  go_enter Try.func10, Try.ntmps10
  go_wp2_with fail
  exact bodyPost_ret (v := .tuple #[.agg #[.int .i64 0, .int .i64 0], .int .i64 2]) (res_ct (cs0 := #[.int .i64 0, .int .i64 0]) rfl (blk3 w _ _ _) row23 size23 rfl rfl rfl) rfl ⟨rfl, bel3 w _ _ _⟩
theorem rn_3 (s g p d : Int) (b : Bool)  (q0 : decide (p < 0) = false) (q1 : decide (10000 < p) = false) (q2 : decide (d < -100) = false) (q3 : decide (100 < d) = true) (w : World) : Calls Try.prog 10 #[.agg #[.int .i64 s, .int .i64 g], .agg #[.int .i64 p, .int .i64 d, .bool b]] w fun e w' => e = .returned (.tuple #[.agg #[.int .i64 0, .int .i64 0], .int .i64 2]) ∧ Below w.heap.size w w' := by
  go_enter Try.func10, Try.ntmps10
  go_wp2_with fail
  exact bodyPost_ret (v := .tuple #[.agg #[.int .i64 0, .int .i64 0], .int .i64 2]) (res_ct (cs0 := #[.int .i64 0, .int .i64 0]) rfl (blk3 w _ _ _) row23 size23 rfl rfl rfl) rfl ⟨rfl, bel3 w _ _ _⟩
theorem rn_4 (s g p d : Int) (b : Bool)  (q0 : decide (p < 0) = false) (q1 : decide (10000 < p) = false) (q2 : decide (d < -100) = false) (q3 : decide (100 < d) = false) (q4 : decide (s < 1) = true) (w : World) : Calls Try.prog 10 #[.agg #[.int .i64 s, .int .i64 g], .agg #[.int .i64 p, .int .i64 d, .bool b]] w fun e w' => e = .returned (.tuple #[.agg #[.int .i64 0, .int .i64 0], .int .i64 2]) ∧ Below w.heap.size w w' := by
  go_enter Try.func10, Try.ntmps10
  go_wp2_with fail
  exact bodyPost_ret (v := .tuple #[.agg #[.int .i64 0, .int .i64 0], .int .i64 2]) (res_ct (cs0 := #[.int .i64 0, .int .i64 0]) rfl (blk3 w _ _ _) row23 size23 rfl rfl rfl) rfl ⟨rfl, bel3 w _ _ _⟩
theorem rn_5 (s g p d : Int) (b : Bool)  (q0 : decide (p < 0) = false) (q1 : decide (10000 < p) = false) (q2 : decide (d < -100) = false) (q3 : decide (100 < d) = false) (q4 : decide (s < 1) = false) (q5 : decide (3 < s) = true) (w : World) : Calls Try.prog 10 #[.agg #[.int .i64 s, .int .i64 g], .agg #[.int .i64 p, .int .i64 d, .bool b]] w fun e w' => e = .returned (.tuple #[.agg #[.int .i64 0, .int .i64 0], .int .i64 2]) ∧ Below w.heap.size w w' := by
  go_enter Try.func10, Try.ntmps10
  go_wp2_with fail
  exact bodyPost_ret (v := .tuple #[.agg #[.int .i64 0, .int .i64 0], .int .i64 2]) (res_ct (cs0 := #[.int .i64 0, .int .i64 0]) rfl (blk3 w _ _ _) row23 size23 rfl rfl rfl) rfl ⟨rfl, bel3 w _ _ _⟩
theorem rn_6 (s g p d : Int) (b : Bool)  (q0 : decide (p < 0) = false) (q1 : decide (10000 < p) = false) (q2 : decide (d < -100) = false) (q3 : decide (100 < d) = false) (q4 : decide (s < 1) = false) (q5 : decide (3 < s) = false) (q6 : decide (g < 0) = true) (w : World) : Calls Try.prog 10 #[.agg #[.int .i64 s, .int .i64 g], .agg #[.int .i64 p, .int .i64 d, .bool b]] w fun e w' => e = .returned (.tuple #[.agg #[.int .i64 0, .int .i64 0], .int .i64 2]) ∧ Below w.heap.size w w' := by
  go_enter Try.func10, Try.ntmps10
  go_wp2_with fail
  exact bodyPost_ret (v := .tuple #[.agg #[.int .i64 0, .int .i64 0], .int .i64 2]) (res_ct (cs0 := #[.int .i64 0, .int .i64 0]) rfl (blk3 w _ _ _) row23 size23 rfl rfl rfl) rfl ⟨rfl, bel3 w _ _ _⟩
theorem rn_7 (s g p d : Int) (b : Bool)  (q0 : decide (p < 0) = false) (q1 : decide (10000 < p) = false) (q2 : decide (d < -100) = false) (q3 : decide (100 < d) = false) (q4 : decide (s < 1) = false) (q5 : decide (3 < s) = false) (q6 : decide (g < 0) = false) (q7 : decide (2 < g) = true) (w : World) : Calls Try.prog 10 #[.agg #[.int .i64 s, .int .i64 g], .agg #[.int .i64 p, .int .i64 d, .bool b]] w fun e w' => e = .returned (.tuple #[.agg #[.int .i64 0, .int .i64 0], .int .i64 2]) ∧ Below w.heap.size w w' := by
  go_enter Try.func10, Try.ntmps10
  go_wp2_with fail
  exact bodyPost_ret (v := .tuple #[.agg #[.int .i64 0, .int .i64 0], .int .i64 2]) (res_ct (cs0 := #[.int .i64 0, .int .i64 0]) rfl (blk3 w _ _ _) row23 size23 rfl rfl rfl) rfl ⟨rfl, bel3 w _ _ _⟩
theorem rn_8 (s g p d : Int) (b : Bool)  (q0 : decide (p < 0) = false) (q1 : decide (10000 < p) = false) (q2 : decide (d < -100) = false) (q3 : decide (100 < d) = false) (q4 : decide (s < 1) = false) (q5 : decide (3 < s) = false) (q6 : decide (g < 0) = false) (q7 : decide (2 < g) = false) (q8 : (s == 1) = true) (q9 : (g != 0) = true) (w : World) : Calls Try.prog 10 #[.agg #[.int .i64 s, .int .i64 g], .agg #[.int .i64 p, .int .i64 d, .bool b]] w fun e w' => e = .returned (.tuple #[.agg #[.int .i64 0, .int .i64 0], .int .i64 2]) ∧ Below w.heap.size w w' := by
  go_enter Try.func10, Try.ntmps10
  go_wp2_with fail
  exact bodyPost_ret (v := .tuple #[.agg #[.int .i64 0, .int .i64 0], .int .i64 2]) (res_ct (cs0 := #[.int .i64 0, .int .i64 0]) rfl (blk3 w _ _ _) row23 size23 rfl rfl rfl) rfl ⟨rfl, bel3 w _ _ _⟩
theorem ra_1 (s g p d : Int) (b : Bool)  (q0 : decide (p < 0) = false) (q1 : decide (10000 < p) = false) (q2 : decide (d < -100) = false) (q3 : decide (100 < d) = false) (q4 : decide (s < 1) = false) (q5 : decide (3 < s) = false) (q6 : decide (g < 0) = false) (q7 : decide (2 < g) = false) (q8 : (s == 1) = true) (q9 : (g != 0) = false) (r : decide (s ≤ wst p d b) = true) (w : World) : Calls Try.prog 10 #[.agg #[.int .i64 s, .int .i64 g], .agg #[.int .i64 p, .int .i64 d, .bool b]] w fun e w' => e = .returned (.tuple #[.agg #[.int .i64 (wst p d b), .int .i64 0], .int .i64 0]) ∧ Below w.heap.size w w' := by
  have A := hide (S10.new w s g p d b)
  go_enter Try.func10, Try.ntmps10
  go_wp2_with fail
  generalize ((w.alloc (.cells #[.int .i64 s, .int .i64 g] 23)).alloc (.cells #[.int .i64 p, .int .i64 d, .bool b] 25)).alloc (.cells #[.int .i64 0, .int .i64 0] 23) = W at A ⊢
  refine (rworst_any p d b _).mono ?_
  rintro e w2 ⟨rfl, hb⟩
  replace A := hide ((unhide A).keep hb)
  clear hb
  have c0 := (unhide A).b0.at 0 (.int .i64 s) rfl
  have c1 := (unhide A).b0.at 1 (.int .i64 g) rfl
  go_wp2_with (refine store_blk rfl 23 _ _ rfl ((unhide A).rs) rfl rfl size23 rfl rfl rfl ?_)
  intro W1 k2 kp
  have k4 := kp.bel (by omega) (unhide A).bel
  clear kp A
  go_wp2_with fail
  exact bodyPost_ret (v := .tuple #[.agg #[.int .i64 (wst p d b), .int .i64 0], .int .i64 0]) (res_ct rfl k2 row23 size23 rfl rfl rfl) rfl ⟨rfl, k4⟩
theorem ra_2 (s g p d : Int) (b : Bool)  (q0 : decide (p < 0) = false) (q1 : decide (10000 < p) = false) (q2 : decide (d < -100) = false) (q3 : decide (100 < d) = false) (q4 : decide (s < 1) = false) (q5 : decide (3 < s) = false) (q6 : decide (g < 0) = false) (q7 : decide (2 < g) = false) (q8 : (s == 1) = false) (r : decide (s ≤ wst p d b) = true) (w : World) : Calls Try.prog 10 #[.agg #[.int .i64 s, .int .i64 g], .agg #[.int .i64 p, .int .i64 d, .bool b]] w fun e w' => e = .returned (.tuple #[.agg #[.int .i64 (wst p d b), .int .i64 0], .int .i64 0]) ∧ Below w.heap.size w w' := by
  have A := hide (S10.new w s g p d b)
  go_enter Try.func10, Try.ntmps10
  go_wp2_with fail
  generalize ((w.alloc (.cells #[.int .i64 s, .int .i64 g] 23)).alloc (.cells #[.int .i64 p, .int .i64 d, .bool b] 25)).alloc (.cells #[.int .i64 0, .int .i64 0] 23) = W at A ⊢
  refine (rworst_any p d b _).mono ?_
  rintro e w2 ⟨rfl, hb⟩
  replace A := hide ((unhide A).keep hb)
  clear hb
  have c0 := (unhide A).b0.at 0 (.int .i64 s) rfl
  have c1 := (unhide A).b0.at 1 (.int .i64 g) rfl
  go_wp2_with (refine store_blk rfl 23 _ _ rfl ((unhide A).rs) rfl rfl size23 rfl rfl rfl ?_)
  intro W1 k2 kp
  have k4 := kp.bel (by omega) (unhide A).bel
  clear kp A
  go_wp2_with fail
  exact bodyPost_ret (v := .tuple #[.agg #[.int .i64 (wst p d b), .int .i64 0], .int .i64 0]) (res_ct rfl k2 row23 size23 rfl rfl rfl) rfl ⟨rfl, k4⟩
theorem rb_2 (s g p d : Int) (b : Bool)  (q0 : decide (p < 0) = false) (q1 : decide (10000 < p) = false) (q2 : decide (d < -100) = false) (q3 : decide (100 < d) = false) (q4 : decide (s < 1) = false) (q5 : decide (3 < s) = false) (q6 : decide (g < 0) = false) (q7 : decide (2 < g) = false) (q8 : (s == 1) = false) (r : decide (s ≤ wst p d b) = false) (r2 : (g == 2) = true) (e1 : IntKind.i64.wrap (s - 1) = s - 1) (w : World) : Calls Try.prog 10 #[.agg #[.int .i64 s, .int .i64 g], .agg #[.int .i64 p, .int .i64 d, .bool b]] w fun e w' => e = .returned (.tuple #[.agg #[.int .i64 (s - 1), .int .i64 0], .int .i64 0]) ∧ Below w.heap.size w w' := by
  have A := hide (S10.new w s g p d b)
  go_enter Try.func10, Try.ntmps10
  go_wp2_with fail
  generalize ((w.alloc (.cells #[.int .i64 s, .int .i64 g] 23)).alloc (.cells #[.int .i64 p, .int .i64 d, .bool b] 25)).alloc (.cells #[.int .i64 0, .int .i64 0] 23) = W at A ⊢
  refine (rworst_any p d b _).mono ?_
  rintro e w2 ⟨rfl, hb⟩
  replace A := hide ((unhide A).keep hb)
  clear hb
  have c0 := (unhide A).b0.at 0 (.int .i64 s) rfl
  have c1 := (unhide A).b0.at 1 (.int .i64 g) rfl
  go_wp2_with (refine store_blk rfl 23 _ _ rfl ((unhide A).rs) rfl rfl size23 rfl rfl rfl ?_)
  intro W1 k2 kp
  have k4 := kp.bel (by omega) (unhide A).bel
  clear kp A
  go_wp2_with fail
  exact bodyPost_ret (v := .tuple #[.agg #[.int .i64 (s - 1), .int .i64 0], .int .i64 0]) (res_ct rfl k2 row23 size23 rfl rfl rfl) rfl ⟨rfl, k4⟩
theorem rc_2 (s g p d : Int) (b : Bool)  (q0 : decide (p < 0) = false) (q1 : decide (10000 < p) = false) (q2 : decide (d < -100) = false) (q3 : decide (100 < d) = false) (q4 : decide (s < 1) = false) (q5 : decide (3 < s) = false) (q6 : decide (g < 0) = false) (q7 : decide (2 < g) = false) (q8 : (s == 1) = false) (r : decide (s ≤ wst p d b) = false) (r2 : (g == 2) = false) (e1 : IntKind.i64.wrap (g + 1) = g + 1) (w : World) : Calls Try.prog 10 #[.agg #[.int .i64 s, .int .i64 g], .agg #[.int .i64 p, .int .i64 d, .bool b]] w fun e w' => e = .returned (.tuple #[.agg #[.int .i64 s, .int .i64 (g + 1)], .int .i64 0]) ∧ Below w.heap.size w w' := by
  have A := hide (S10.new w s g p d b)
  go_enter Try.func10, Try.ntmps10
  go_wp2_with fail
  generalize ((w.alloc (.cells #[.int .i64 s, .int .i64 g] 23)).alloc (.cells #[.int .i64 p, .int .i64 d, .bool b] 25)).alloc (.cells #[.int .i64 0, .int .i64 0] 23) = W at A ⊢
  refine (rworst_any p d b _).mono ?_
  rintro e w2 ⟨rfl, hb⟩
  replace A := hide ((unhide A).keep hb)
  clear hb
  have c0 := (unhide A).b0.at 0 (.int .i64 s) rfl
  have c1 := (unhide A).b0.at 1 (.int .i64 g) rfl
  go_wp2_with (refine store_blk rfl 23 _ _ rfl ((unhide A).rs) rfl rfl size23 rfl rfl rfl ?_)
  intro W1 k2 kp
  have k4 := kp.bel (by omega) (unhide A).bel
  clear kp A
  go_wp2_with fail
  exact bodyPost_ret (v := .tuple #[.agg #[.int .i64 s, .int .i64 (g + 1)], .int .i64 0]) (res_ct rfl k2 row23 size23 rfl rfl rfl) rfl ⟨rfl, k4⟩
theorem rnext_any : NextA 10 := by
  intro s g p d b w
  unfold nxt
  by_cases q0 : p < 0
  · rw [if_neg (by omega)]; exact rn_0 s g p d b (decide_eq_true q0) w
  by_cases q1 : 10000 < p
  · rw [if_neg (by omega)]; exact rn_1 s g p d b (decide_eq_false q0) (decide_eq_true q1) w
  by_cases q2 : d < -100
  · rw [if_neg (by omega)]; exact rn_2 s g p d b (decide_eq_false q0) (decide_eq_false q1) (decide_eq_true q2) w
  by_cases q3 : 100 < d
  · rw [if_neg (by omega)]; exact rn_3 s g p d b (decide_eq_false q0) (decide_eq_false q1) (decide_eq_false q2) (decide_eq_true q3) w
  by_cases q4 : s < 1
  · rw [if_neg (by omega)]; exact rn_4 s g p d b (decide_eq_false q0) (decide_eq_false q1) (decide_eq_false q2) (decide_eq_false q3) (decide_eq_true q4) w
  by_cases q5 : 3 < s
  · rw [if_neg (by omega)]; exact rn_5 s g p d b (decide_eq_false q0) (decide_eq_false q1) (decide_eq_false q2) (decide_eq_false q3) (decide_eq_false q4) (decide_eq_true q5) w
  by_cases q6 : g < 0
  · rw [if_neg (by omega)]; exact rn_6 s g p d b (decide_eq_false q0) (decide_eq_false q1) (decide_eq_false q2) (decide_eq_false q3) (decide_eq_false q4) (decide_eq_false q5) (decide_eq_true q6) w
  by_cases q7 : 2 < g
  · rw [if_neg (by omega)]; exact rn_7 s g p d b (decide_eq_false q0) (decide_eq_false q1) (decide_eq_false q2) (decide_eq_false q3) (decide_eq_false q4) (decide_eq_false q5) (decide_eq_false q6) (decide_eq_true q7) w
  by_cases q8 : s = 1
  · have t8 : (s == 1) = true := by simp [q8]
    by_cases q9 : g = 0
    · have h : okS s g ∧ okM p d := ⟨⟨by omega, by omega, by omega, by omega, fun _ => q9⟩, ⟨by omega, by omega, by omega, by omega⟩⟩
      have r : s ≤ wst p d b := by have := (wst_bd p d b).1; omega
      rw [if_pos h, if_pos r]; exact ra_1 s g p d b (decide_eq_false q0) (decide_eq_false q1) (decide_eq_false q2) (decide_eq_false q3) (decide_eq_false q4) (decide_eq_false q5) (decide_eq_false q6) (decide_eq_false q7) t8 (by simp [q9]) (decide_eq_true r) w
    · rw [if_neg (fun c => q9 (c.1.2.2.2.2 q8))]; exact rn_8 s g p d b (decide_eq_false q0) (decide_eq_false q1) (decide_eq_false q2) (decide_eq_false q3) (decide_eq_false q4) (decide_eq_false q5) (decide_eq_false q6) (decide_eq_false q7) t8 (by simp [q9]) w
  · have t8 : (s == 1) = false := by simp [q8]
    have h : okS s g ∧ okM p d := ⟨⟨by omega, by omega, by omega, by omega, fun c => absurd c q8⟩, ⟨by omega, by omega, by omega, by omega⟩⟩
    rw [if_pos h]
    by_cases r : s ≤ wst p d b
    · rw [if_pos r]; exact ra_2 s g p d b (decide_eq_false q0) (decide_eq_false q1) (decide_eq_false q2) (decide_eq_false q3) (decide_eq_false q4) (decide_eq_false q5) (decide_eq_false q6) (decide_eq_false q7) t8 (decide_eq_true r) w
    · rw [if_neg r]
      by_cases r2 : g = 2
      · rw [if_pos r2]; exact rb_2 s g p d b (decide_eq_false q0) (decide_eq_false q1) (decide_eq_false q2) (decide_eq_false q3) (decide_eq_false q4) (decide_eq_false q5) (decide_eq_false q6) (decide_eq_false q7) t8 (decide_eq_false r) (by simp [r2]) (wrap_in ⟨by omega, by omega⟩) w
      · rw [if_neg r2]; exact rc_2 s g p d b (decide_eq_false q0) (decide_eq_false q1) (decide_eq_false q2) (decide_eq_false q3) (decide_eq_false q4) (decide_eq_false q5) (decide_eq_false q6) (decide_eq_false q7) t8 (decide_eq_false r) (by simp [r2]) (wrap_in ⟨by omega, by omega⟩) w
end Go.Proofs.Ytifdabmdacpmgaa
