/- Proved here: AllowNets: any rows together, and whether any ties, are the document's. No condition. -/
import Derived.Test.YtkccladbcehdbaaAl
import Derived.Test.YtkccladbcehdbaaAr
import Derived.Test.YtkccladbcehdbaaNn
import Derived.Test.YtkccladbcehdbaaRn
import Derived.Test.YtkccladbcehdbaaNl
namespace Go.Proofs.Ytkccladbcehdbaa.allowNets
open Go.ChangeShapes Go.WideShapes Go.ChangeAt Go.RowKit
set_option linter.unusedVariables false
set_option linter.unusedSimpArgs false
theorem i6_of {r : Rw} (h : RwI r) : RwI6 r := ⟨fun k => by
  match k with
  | 0 => exact h.o
  | 1 => exact h.i
  | 2 => exact h.u
  | 3 => exact h.n
  | 4 => exact h.x
  | k + 5 => exact h.z⟩
theorem netV_i6 (r s t : Rw) : RwI6 (netV r s t) := by
  unfold netV
  by_cases h : okC3 r s t 6 = true
  · rw [if_pos h]
    simp only [okC3, Bool.and_eq_true, decide_eq_true_eq] at h
    obtain ⟨⟨⟨⟨⟨⟨_, a0⟩, a1⟩, a2⟩, a3⟩, a4⟩, a5⟩ := h
    refine ⟨fun k => ?_⟩
    match k with
    | 0 => exact in_of_turn a0
    | 1 => exact in_of_turn a1
    | 2 => exact in_of_turn a2
    | 3 => exact in_of_turn a3
    | 4 => exact in_of_turn a4
    | k + 5 => exact in_of_turn a5
  · rw [if_neg h]
    refine ⟨fun k => ?_⟩
    match k with
    | 0 => exact ⟨by decide, by decide⟩
    | 1 => exact ⟨by decide, by decide⟩
    | 2 => exact ⟨by decide, by decide⟩
    | 3 => exact ⟨by decide, by decide⟩
    | 4 => exact ⟨by decide, by decide⟩
    | k + 5 => exact (⟨by decide, by decide⟩ : In64 0)
set_option maxHeartbeats 8000000 in
theorem walk6 (r s t : Rw) (w : World) (hr : RwI6 r) (hs : RwI6 s) (ht : RwI6 t) : Calls Try.prog 4 #[.agg (cells18 r s t)] w fun e w' => e = .returned (.bool true) ∧ Below w.heap.size w w' := by
  have HX := hide (Blk.new w (cells18 r s t) 34)
  have HB := hide (below1 w (.cells (cells18 r s t) 34))
  have HN := hide (fun W => net14 r s t hr hs ht W)
  have HM := hide (fun W => rnet15 r s t hr hs ht W)
  have HI := hide (netV_i6 r s t)
  replace hr := hide hr
  clear hs ht
  generalize netV r s t = N at *
  generalize netE r s t = E at *
  have hE := bne_selfE E
  go_enter Try.func4, Try.ntmps4
  go_wp2_with fail
  generalize w.alloc (.cells (cells18 r s t) 34) = w0 at *
  refine (alive_any _).mono ?_
  rintro e w1 ⟨rfl, hb⟩
  replace HX := hide ((show Blk _ _ _ _ from unhide HX).keep hb)
  replace HB := hide (below_via (unhide HB) hb)
  clear hb
  have c0 := (show Blk _ _ _ _ from unhide HX).at 0 (.int .i64 r.o) rfl
  have c1 := (show Blk _ _ _ _ from unhide HX).at 1 (.int .i64 r.i) rfl
  have c2 := (show Blk _ _ _ _ from unhide HX).at 2 (.int .i64 r.u) rfl
  have c3 := (show Blk _ _ _ _ from unhide HX).at 3 (.int .i64 r.n) rfl
  have c4 := (show Blk _ _ _ _ from unhide HX).at 4 (.int .i64 r.x) rfl
  have c5 := (show Blk _ _ _ _ from unhide HX).at 5 (.int .i64 r.z) rfl
  have c6 := (show Blk _ _ _ _ from unhide HX).at 6 (.int .i64 s.o) rfl
  have c7 := (show Blk _ _ _ _ from unhide HX).at 7 (.int .i64 s.i) rfl
  have c8 := (show Blk _ _ _ _ from unhide HX).at 8 (.int .i64 s.u) rfl
  have c9 := (show Blk _ _ _ _ from unhide HX).at 9 (.int .i64 s.n) rfl
  have c10 := (show Blk _ _ _ _ from unhide HX).at 10 (.int .i64 s.x) rfl
  have c11 := (show Blk _ _ _ _ from unhide HX).at 11 (.int .i64 s.z) rfl
  have c12 := (show Blk _ _ _ _ from unhide HX).at 12 (.int .i64 t.o) rfl
  have c13 := (show Blk _ _ _ _ from unhide HX).at 13 (.int .i64 t.i) rfl
  have c14 := (show Blk _ _ _ _ from unhide HX).at 14 (.int .i64 t.u) rfl
  have c15 := (show Blk _ _ _ _ from unhide HX).at 15 (.int .i64 t.n) rfl
  have c16 := (show Blk _ _ _ _ from unhide HX).at 16 (.int .i64 t.x) rfl
  have c17 := (show Blk _ _ _ _ from unhide HX).at 17 (.int .i64 t.z) rfl
  go_wp2_with fail
  refine (unhide HN _).mono ?_
  rintro e w2 ⟨rfl, hb⟩
  replace HX := hide (((show Blk _ _ _ _ from unhide HX).keep hb).alloc (.cells (cells6 N) 26))
  have HA := hide (Blk.new w2 (cells6 N) 26)
  replace HB := hide (below_via (unhide HB) (below_via hb (below1 w2 (.cells (cells6 N) 26))))
  clear hb HN c0 c1 c2 c3 c4 c5 c6 c7 c8 c9 c10 c11 c12 c13 c14 c15 c16 c17
  go_wp2_with (first | refine load_blk rfl 34 _ rfl (show Blk _ _ _ _ from unhide HX) rfl row34 size34 rfl ?_)
  generalize w2.alloc (.cells (cells6 N) 26) = w3 at *
  generalize w2.heap.size = ba at *
  refine (unhide HM _).mono ?_
  rintro e w4 ⟨rfl, hb⟩
  replace HX := hide (((show Blk _ _ _ _ from unhide HX).keep hb).alloc (.cells (cells6 N) 33))
  replace HA := hide (((show Blk _ _ _ _ from unhide HA).keep hb).alloc (.cells (cells6 N) 33))
  have HC := hide (Blk.new w4 (cells6 N) 33)
  replace HB := hide (below_via (unhide HB) (below_via hb (below1 w4 (.cells (cells6 N) 33))))
  clear hb HM
  go_wp2_with fail
  generalize w4.alloc (.cells (cells6 N) 33) = w5 at *
  generalize w4.heap.size = bb at *
  refine lreg5 hE HA HC HX hr HI (fun w6 hb => ?_)
  replace HB := hide (below_via (unhide HB) hb)
  clear hb HX HA HC
  go_wp2_with fail
  go_ret
  exact ⟨rfl, unhide HB⟩
theorem walk (r s t : Rw) (w : World) (hr : RwI r) (hs : RwI s) (ht : RwI t) : Calls Try.prog 4 #[.agg (cells18 r s t)] w fun e w' => e = .returned (.bool true) ∧ Below w.heap.size w w' := walk6 r s t w (i6_of hr) (i6_of hs) (i6_of ht)
theorem own : ownKnob Try.prog.godebug = none := by kernel_rfl
theorem laidOut : laidOutB Try.prog = true := by kernel_rfl
set_option linter.unusedVariables false in
set_option maxRecDepth 100000 in
theorem lifted (os : Os) (started : os.Started) (H : Type) (enc : TypeId × Value → H) :
    ReturnsInHanded {} Try.checked os 4 .any (Rows.allowNetsSpec.pre6 enc Try.prog Try.f4 Rows.allowNetsRow.domain false) (Rows.allowNetsSpec.post enc Try.prog Try.f4 false true false false) := by
  refine returnsInHanded_of_change (C := Try.checked) own started (by kernel_rfl) Try.func4
    (ChangeSpec.witness6 (enc := enc) (C := Try.checked) false ⟨#[], #[.agg #[.int .i64 0, .int .i64 0, .int .i64 0, .int .i64 0, .int .i64 0, .int .i64 0, .int .i64 0, .int .i64 0, .int .i64 0, .int .i64 0, .int .i64 0, .int .i64 0, .int .i64 0, .int .i64 0, .int .i64 0, .int .i64 0, .int .i64 0, .int .i64 0]], []⟩ 8 (by kernel_rfl) (by kernel_rfl) (by kernel_rfl) (by kernel_rfl)) ?_
  intro W base args ds gs before hval0 hW hcnd _
  have hval : ∀ (j : Nat) t v, Try.f4.params[j]? = some t → args[j]? = some v → Value.okWide Try.prog W .any base t v := hval0
  have hW' := hW
  obtain ⟨p, q, hA0, hV, rfl, hfz, hnd⟩ := hW
  have hA : DataW.TrodAll enc Try.prog W 0 (fun _ => true) true Try.f4.params.toList args.toList ds p := hA0
  rw [Try.params4] at hA hval
  obtain ⟨v0, vs0, d0, ds0, p0, q0, hargs, rfl, rfl, h0, r0⟩ := trodAll_cons hA
  obtain ⟨rfl, rfl, rfl⟩ := trodAll_nil r0
  obtain rfl : args = #[v0] := by cases args; simp_all
  obtain ⟨rfl, rfl⟩ := trodVars_none hV
  have k0 := h0
  have lt0 : ∀ x ∈ p0, x.block < W.heap.size := by obtain ⟨m, hm⟩ := k0; exact DataW.trod_lt m _ _ _ hm
  obtain ⟨xr0, xs0, xt0, rfl, ir0, is0, it0⟩ := rows3_open (hval 0 34 v0 rfl rfl) h0
  clear hA0 hval0
  refine (walk xr0 xs0 xt0 W ir0 is0 it0).mono fun e W' ⟨he, bel⟩ => ?_
  subst he
  exact ⟨_, rfl, _, _, _, [], _, [], hW', trodAll_mk1 (shut_bool Try.underlying4 _), (trodAll_cons_mk (Below.trod laidOut (by kernel_rfl) (of_decide_eq_true (by kernel_rfl)) k0 bel lt0) trodAll_mk0), rfl, bel.frame _, fun h => by cases h⟩
theorem over : Rows.allowNetsRow.holds Try.pinned (OpenSpec.ofChange Rows.allowNetsSpec) :=
  OpenClaim.holds_of_wide 4 Try.f4 rfl rfl rfl rfl rfl rfl rfl ⟨rfl, rfl, rfl, rfl, rfl⟩ rfl rfl rfl rfl rfl (by kernel_rfl) Try.func4 (by kernel_rfl)
    (of_decide_eq_true (by kernel_rfl)) (by unfold Func.isWrapper; first | (rw [if_pos (by decide +kernel)]; kernel_rfl) | (rw [if_neg (by decide +kernel)]; exact ⟨rfl, rfl⟩))
    (fun os started H enc _ => lifted os started H enc)
theorem proved : Rows.AllowNetsSaid := over
end Go.Proofs.Ytkccladbcehdbaa.allowNets
namespace Go.Proofs.Ytkccladbcehdbaa
theorem allowNets_holds : Rows.AllowNetsSaid := allowNets.proved
end Go.Proofs.Ytkccladbcehdbaa
