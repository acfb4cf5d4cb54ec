/- Proved here: StageCures: from any state six marks that tell nothing lead to the first stage, and not fewer than it takes. No condition. -/
import Derived.Test.YtifdabmdacpmgaaOp
namespace Go.Proofs.Ytifdabmdacpmgaa.stageCures
open Go.ChangeShapes Go.WideShapes Go.ChangeAt Go.RowKit
set_option linter.unusedVariables false
set_option linter.unusedSimpArgs false
set_option maxRecDepth 100000 in
theorem open_s0 {H : Type} {enc : TypeId × Value → H} {w : World} {b0 base : Nat} {held : Bool} {v : Value} {d : DataW H} {p : List MemPlace}
    (hv : Value.okWide Try.prog w .any b0 23 v) (h : DataW.Trod enc Try.prog w base (fun _ => true) held 23 v d p) :
    ∃ (x0 : Int) (x1 : Int), v = .agg #[.int .i64 x0, .int .i64 x1] ∧ In64 x0 ∧ In64 x1 := by
  obtain ⟨cs, rfl, hsz⟩ := okWide_struct Try.underlying23 hv
  have hsz : cs.size = 2 := hsz.trans (by kernel_rfl)
  obtain ⟨cl⟩ := cs
  simp only [List.size_toArray] at hsz
  match cl, hsz with
  | [v0, v1], _ =>
    obtain ⟨fuel, hf⟩ := h
    obtain ⟨xs, m, _, hx, _, hlen, hF⟩ := DataW.trod_struct Try.underlying23 hf
    match xs, hlen with
    | [y0, y1], _ =>
      have h0 : DataW.trod enc Try.prog w base (fun _ => true) held m 3 [v0] = some y0 := by simpa [Value.cells, show Try.prog.cellsOf 3 = 1 by kernel_rfl] using hF 0 _ rfl
      have h1 : DataW.trod enc Try.prog w base (fun _ => true) held m 3 [v1] = some y1 := by simpa [Value.cells, show Try.prog.cellsOf 3 = 1 by kernel_rfl] using hF 1 _ rfl
      obtain ⟨x0, e0, _, w0⟩ := DataW.trod_int Try.underlying3 h0
      simp at e0
      subst e0
      have b0 : In64 x0 := in64_of w0
      obtain ⟨x1, e1, _, w1⟩ := DataW.trod_int Try.underlying3 h1
      simp at e1
      subst e1
      have b1 : In64 x1 := in64_of w1
      exact ⟨x0, x1, rfl, b0, b1⟩
theorem nxt0 {s g : Int} (h : okS s g) (h1 : ¬ s = 1) : nxt s g 0 0 false = if g = 2 then (s - 1, 0, 0) else (s, g + 1, 0) := by
  have e : wst 0 0 false = 1 := rfl
  unfold nxt
  rw [if_pos ⟨h, by decide⟩, e, if_neg (by have := h.1; omega)]
theorem nxt0_no {s g : Int} (h : ¬ okS s g) : nxt s g 0 0 false = (0, 0, 2) := by
  unfold nxt
  rw [if_neg (fun c => h c.1)]
structure CV (w wr : World) (k : Nat) (s g a b : Int) : Prop where
  bel : Below w.heap.size w wr
  b0 : Blk wr w.heap.size #[.int .i64 s, .int .i64 g] 23
  bx : Blk wr k #[.int .i64 a, .int .i64 b] 27
  lt : w.heap.size < k
section
variable {w wr w2 : World} {k : Nat} {s g a b : Int}
theorem CV.keep (h : CV w wr k s g a b) (hb : Below wr.heap.size wr w2) : CV w w2 k s g a b := ⟨below_via h.bel hb, h.b0.keep hb, h.bx.keep hb, h.lt⟩
theorem CV.put {x y : Int} (h : CV w wr k s g a b) (hB : Blk w2 k #[.int .i64 x, .int .i64 y] 27) (hp : Past wr w2 k) : CV w w2 k s g x y := ⟨hp.bel (Nat.le_of_lt h.lt) h.bel, hp.blk (by have := h.lt; omega) h.b0, hB, h.lt⟩
end
theorem s_one (s g : Int) (h1 : (s != 1) = false) (h2 : (s == 1) = true) (hal : Hid Alive) (w : World) : Calls Try.prog 7 #[.agg #[.int .i64 s, .int .i64 g]] w fun e w' => e = .returned (.bool true) ∧ Below w.heap.size w w' := by
  have A := hide (Blk.new w #[.int .i64 s, .int .i64 g] 23)
  go_enter Try.func7, Try.ntmps7
  go_wp2_with fail
  refine (unhide hal _).mono ?_
  rintro e w1 ⟨rfl, hb⟩
  have c0 := (Blk.keep (unhide A) hb).at 0 (.int .i64 s) rfl
  have c1 := (Blk.keep (unhide A) hb).at 1 (.int .i64 g) rfl
  replace A : Hid (CV w (w1.alloc (.cells #[.int .i64 s, .int .i64 g] 27)) w1.heap.size s g s g) := hide ⟨below_via (below_via (below1 _ _) hb) (below1 _ _), (Blk.keep (unhide A) hb).alloc _, Blk.new _ _ _, by have := (Blk.keep (unhide A) hb).lt; omega⟩
  clear hb
  go_wp2_with fail
  clear c0 c1
  have a0 := (show CV _ _ _ _ _ _ _ from unhide A).b0.at 0 (.int .i64 s) rfl
  have x0 := (show CV _ _ _ _ _ _ _ from unhide A).bx.at 0 (.int .i64 s) rfl
  have a1 := (show CV _ _ _ _ _ _ _ from unhide A).b0.at 1 (.int .i64 g) rfl
  refine wp_loop_rounds 1 ?_
  rw [rounds_succ]
  go_wp2_with fail
  go_ret
  exact ⟨rfl, (show CV _ _ _ _ _ _ _ from unhide A).bel⟩
theorem s_no (s g : Int) (h1 : (s != 1) = true) (hN : Hid (nxt s g 0 0 false = (0, 0, 2))) (hal : Hid Alive) (w : World) : Calls Try.prog 7 #[.agg #[.int .i64 s, .int .i64 g]] w fun e w' => e = .returned (.bool true) ∧ Below w.heap.size w w' := by
  have HN := hide (next_any s g 0 0 false)
  have HM := hide (rnext_any s g 0 0 false)
  rw [unhide hN] at HN HM
  have A := hide (Blk.new w #[.int .i64 s, .int .i64 g] 23)
  go_enter Try.func7, Try.ntmps7
  go_wp2_with fail
  refine (unhide hal _).mono ?_
  rintro e w1 ⟨rfl, hb⟩
  have c0 := (Blk.keep (unhide A) hb).at 0 (.int .i64 s) rfl
  have c1 := (Blk.keep (unhide A) hb).at 1 (.int .i64 g) rfl
  replace A : Hid (CV w (w1.alloc (.cells #[.int .i64 s, .int .i64 g] 27)) w1.heap.size s g s g) := hide ⟨below_via (below_via (below1 _ _) hb) (below1 _ _), (Blk.keep (unhide A) hb).alloc _, Blk.new _ _ _, by have := (Blk.keep (unhide A) hb).lt; omega⟩
  clear hb
  go_wp2_with fail
  clear c0 c1
  have a0 := (show CV _ _ _ _ _ _ _ from unhide A).b0.at 0 (.int .i64 s) rfl
  have a1 := (show CV _ _ _ _ _ _ _ from unhide A).b0.at 1 (.int .i64 g) rfl
  have x0 := (show CV _ _ _ _ _ _ _ from unhide A).bx.at 0 (.int .i64 s) rfl
  have x1 := (show CV _ _ _ _ _ _ _ from unhide A).bx.at 1 (.int .i64 g) rfl
  refine wp_loop_rounds 1 ?_
  rw [rounds_succ]
  go_wp2_with fail
  refine (unhide HN _).mono ?_
  rintro e w2 ⟨rfl, hb⟩
  replace A := hide (((show CV _ _ _ _ _ _ _ from unhide A).keep hb).keep (below1 _ (.cells #[.int .i64 0, .int .i64 0] 27)))
  clear hb a0 a1 x0 x1
  have a0 := (show CV _ _ _ _ _ _ _ from unhide A).b0.at 0 (.int .i64 s) rfl
  have a1 := (show CV _ _ _ _ _ _ _ from unhide A).b0.at 1 (.int .i64 g) rfl
  go_wp2_with fail
  refine (unhide HM _).mono ?_
  rintro e w3 ⟨rfl, hb⟩
  replace A := hide (((show CV _ _ _ _ _ _ _ from unhide A).keep hb).keep (below1 _ (.cells #[.int .i64 0, .int .i64 0] 23)))
  clear hb a0 a1
  go_wp2_with fail
  go_ret
  exact ⟨rfl, (show CV _ _ _ _ _ _ _ from unhide A).bel⟩
theorem row27b : isRowB Try.prog 27 = true := by kernel_rfl
theorem size27b : (Try.prog.info? 27).map (·.size) = some 2 := by kernel_rfl
set_option maxRecDepth 20000 in
set_option maxHeartbeats 2000000 in
theorem s_ok (s g : Int) (h2 : 2 ≤ s) (h3 : s ≤ 3) (g0 : 0 ≤ g) (g2 : g ≤ 2) (hal : Hid Alive) (w : World) : Calls Try.prog 7 #[.agg #[.int .i64 s, .int .i64 g]] w fun e w' => e = .returned (.bool true) ∧ Below w.heap.size w w' := by
  have A := hide (Blk.new w #[.int .i64 s, .int .i64 g] 23)
  go_enter Try.func7, Try.ntmps7
  go_wp2_with fail
  refine (unhide hal _).mono ?_
  rintro e w1 ⟨rfl, hb⟩
  have c0 := (Blk.keep (unhide A) hb).at 0 (.int .i64 s) rfl
  have c1 := (Blk.keep (unhide A) hb).at 1 (.int .i64 g) rfl
  replace A : Hid (CV w (w1.alloc (.cells #[.int .i64 s, .int .i64 g] 27)) w1.heap.size s g s g) := hide ⟨below_via (below_via (below1 _ _) hb) (below1 _ _), (Blk.keep (unhide A) hb).alloc _, Blk.new _ _ _, by have := (Blk.keep (unhide A) hb).lt; omega⟩
  clear hb
  go_wp2_with fail
  clear c0 c1
  have a0 := (show CV _ _ _ _ _ _ _ from unhide A).b0.at 0 (.int .i64 s) rfl
  have d1 : (s == 1) = false := by rw [beq_eq_false_iff_ne]; omega
  generalize w1.heap.size = X at *
  generalize w1.alloc (.cells #[.int .i64 s, .int .i64 g] 27) = V at *
  clear a0
  go_loopw [4] (fun i wr => ∃ (k : Nat) (a b : Int), i = .int .i64 k ∧ (1 ≤ a ∧ a ≤ s ∧ 0 ≤ b ∧ b ≤ 2 ∧ (a = 1 → b = 0)) ∧ (k : Int) + (3 * (a - 1) - b) = 3 * (s - 1) - g ∧ Hid (CV w wr X s g a b)) (fun i _ => 7 - (intOf i).toNat)
  case atStart => exact ⟨0, s, g, rfl, ⟨by omega, by omega, g0, g2, by omega⟩, by omega, A⟩
  case round =>
    clear A
    obtain ⟨k, a, b, rfl, ⟨a1, a2, b1, b2, ab⟩, hs, A⟩ := hrel
    have x0 := (show CV _ _ _ _ _ _ _ from unhide A).bx.at 0 (.int .i64 a) rfl
    have x1 := (show CV _ _ _ _ _ _ _ from unhide A).bx.at 1 (.int .i64 b) rfl
    by_cases q : a = 1
    · have qb := ab q
      subst q qb
      have y0 := (show CV _ _ _ _ _ _ _ from unhide A).b0.at 0 (.int .i64 s) rfl
      have y1 := (show CV _ _ _ _ _ _ _ from unhide A).b0.at 1 (.int .i64 g) rfl
      have t1 : ((k : Int) == 3 * (s - 1) - g) = true := by rw [beq_iff_eq]; omega
      replace hs := hide hs
      replace ab := hide ab
      go_wp2_with fail
      go_ret
      exact ⟨rfl, (show CV _ _ _ _ _ _ _ from unhide A).bel⟩
    · have t0 : (a != 1) = true := by rw [bne_iff_ne]; exact q
      have HN := hide (next_any a b 0 0 false)
      rw [nxt0 ⟨a1, by omega, b1, b2, ab⟩ q] at HN
      have k6 : k < 6 := by omega
      have t6 : decide ((6 : Int) < (k : Int) + 1) = false := decide_eq_false (by omega)
      replace ab := hide ab
      replace hs := hide hs
      by_cases q2 : b = 2
      · subst q2
        rw [if_pos rfl] at HN
        dsimp only at HN
        go_wp2_with fail
        refine (unhide HN _).mono ?_
        rintro e w2 ⟨rfl, hb⟩
        replace A := hide (((show CV _ _ _ _ _ _ _ from unhide A).keep hb).keep (below1 _ (.cells #[.int .i64 (a - 1), .int .i64 (0)] 27)))
        clear hb x0 x1 HN
        go_wp2_with (refine store_blk rfl 27 _ _ rfl (show CV _ _ _ _ _ _ _ from unhide A).bx rfl rfl size27b rfl rfl rfl ?_)
        intro W2 hB2 hp2
        replace A := hide ((show CV _ _ _ _ _ _ _ from unhide A).put hB2 hp2)
        clear hB2 hp2
        go_wp2_with fail
        go_roundw
        case rel => exact ⟨k + 1, a - 1, 0, by go_num, ⟨by omega, by omega, by omega, by omega, fun _ => rfl⟩, by have := unhide hs; omega, A⟩
        case measure => simp [intOf]; omega
      · rw [if_neg q2] at HN
        dsimp only at HN
        go_wp2_with fail
        refine (unhide HN _).mono ?_
        rintro e w2 ⟨rfl, hb⟩
        replace A := hide (((show CV _ _ _ _ _ _ _ from unhide A).keep hb).keep (below1 _ (.cells #[.int .i64 (a), .int .i64 (b + 1)] 27)))
        clear hb x0 x1 HN
        go_wp2_with (refine store_blk rfl 27 _ _ rfl (show CV _ _ _ _ _ _ _ from unhide A).bx rfl rfl size27b rfl rfl rfl ?_)
        intro W2 hB2 hp2
        replace A := hide ((show CV _ _ _ _ _ _ _ from unhide A).put hB2 hp2)
        clear hB2 hp2
        go_wp2_with fail
        go_roundw
        case rel => exact ⟨k + 1, a, b + 1, by go_num, ⟨by omega, by omega, by omega, by omega, fun c => absurd c q⟩, by have := unhide hs; omega, A⟩
        case measure => simp [intOf]; omega
theorem walk (s g : Int) (w : World) (_ : In64 s) (_ : In64 g) : Calls Try.prog 7 #[.agg #[.int .i64 s, .int .i64 g]] w fun e w' => e = .returned (.bool true) ∧ Below w.heap.size w w' := by
  by_cases h1 : s = 1
  · exact s_one s g (by simp [h1]) (by simp [h1]) (hide alive_any) w
  · by_cases h : okS s g
    · obtain ⟨p, q, r, t, _⟩ := h
      exact s_ok s g (by omega) q r t (hide alive_any) w
    · exact s_no s g (by simp [h1]) (hide (nxt0_no h)) (hide alive_any) w
theorem own : ownKnob Try.prog.godebug = none := by kernel_rfl
theorem laidOut : laidOutB Try.prog = true := by kernel_rfl
set_option linter.unusedVariables false in
set_option maxRecDepth 100000 in
theorem lifted (os : Os) (started : os.Started) (H : Type) (enc : TypeId × Value → H) :
    ReturnsInHanded {} Try.checked os 7 .any (Rows.stageCuresSpec.pre6 enc Try.prog Try.f7 Rows.stageCuresRow.domain false) (Rows.stageCuresSpec.post enc Try.prog Try.f7 false true false false) := by
  refine returnsInHanded_of_change (C := Try.checked) own started (by kernel_rfl) Try.func7
    (ChangeSpec.witness6 (enc := enc) (C := Try.checked) false ⟨#[], #[.agg #[.int .i64 0, .int .i64 0]], []⟩ 8 (by kernel_rfl) (by kernel_rfl) (by kernel_rfl) (by kernel_rfl)) ?_
  intro W base args ds gs before hval0 hW hcnd _
  have hval : ∀ (j : Nat) t v, Try.f7.params[j]? = some t → args[j]? = some v → Value.okWide Try.prog W .any base t v := hval0
  have hW' := hW
  obtain ⟨p, q, hA0, hV, rfl, hfz, hnd⟩ := hW
  have hA : DataW.TrodAll enc Try.prog W 0 (fun _ => true) true Try.f7.params.toList args.toList ds p := hA0
  rw [Try.params7] at hA hval
  obtain ⟨v0, vs0, d0, ds0, p0, q0, hargs, rfl, rfl, h0, r0⟩ := trodAll_cons hA
  obtain ⟨rfl, rfl, rfl⟩ := trodAll_nil r0
  obtain rfl : args = #[v0] := by cases args; simp_all
  obtain ⟨rfl, rfl⟩ := trodVars_none hV
  have k0 := h0
  have lt0 : ∀ x ∈ p0, x.block < W.heap.size := by obtain ⟨m, hm⟩ := k0; exact DataW.trod_lt m _ _ _ hm
  obtain ⟨ax0, ax1, rfl, ahb0, ahb1⟩ := open_s0 (hval 0 23 v0 rfl rfl) h0
  clear hA0 hval0
  refine (walk ax0 ax1 W ahb0 ahb1).mono fun e W' ⟨he, bel⟩ => ?_
  subst he
  exact ⟨_, rfl, _, _, _, [], _, [], hW', trodAll_mk1 (shut_bool Try.underlying4 _), (trodAll_cons_mk (Below.trod laidOut (by kernel_rfl) (of_decide_eq_true (by kernel_rfl)) k0 bel lt0) trodAll_mk0), rfl, bel.frame _, fun h => by cases h⟩
theorem over : Rows.stageCuresRow.holds Try.pinned (OpenSpec.ofChange Rows.stageCuresSpec) :=
  OpenClaim.holds_of_wide 7 Try.f7 rfl rfl rfl rfl rfl rfl rfl ⟨rfl, rfl, rfl, rfl, rfl⟩ rfl rfl rfl rfl rfl (by kernel_rfl) Try.func7 (by kernel_rfl)
    (of_decide_eq_true (by kernel_rfl)) (by unfold Func.isWrapper; first | (rw [if_pos (by decide +kernel)]; kernel_rfl) | (rw [if_neg (by decide +kernel)]; exact ⟨rfl, rfl⟩))
    (fun os started H enc _ => lifted os started H enc)
theorem proved : Rows.StageCuresSaid := over
end Go.Proofs.Ytifdabmdacpmgaa.stageCures
namespace Go.Proofs.Ytifdabmdacpmgaa
theorem stageCures_holds : Rows.StageCuresSaid := stageCures.proved
end Go.Proofs.Ytifdabmdacpmgaa
