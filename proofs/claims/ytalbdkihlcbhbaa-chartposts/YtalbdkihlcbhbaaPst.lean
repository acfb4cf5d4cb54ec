/- Proved here: ChartPosts: what any event is booked as, any name and any account are the document's. No condition. -/
import Derived.Test.YtalbdkihlcbhbaaAl
import Derived.Test.YtalbdkihlcbhbaaAr
import Derived.Test.YtalbdkihlcbhbaaSm
import Derived.Test.YtalbdkihlcbhbaaRp
import Derived.Test.YtalbdkihlcbhbaaRn
import Derived.Deep.QuietTactic
import Derived.BigQuiet
namespace Go.Proofs.Ytalbdkihlcbhbaa.chartPosts
open Go.ChangeShapes Go.WideShapes Go.ChangeAt Go.RowKit
set_option linter.unusedVariables false
set_option linter.unusedSimpArgs false
theorem below_drewN {B : Nat} {w wr : World} (h : Below B w wr) (n : Nat) : Below B w (wr.drewN n) := h.trans ⟨rfl, rfl, rfl, Nat.le_refl _, fun _ _ => rfl⟩
theorem post_len (k n : Int) : (postL k n).length ≤ 10000 := by unfold postL; split <;> simp
set_option maxHeartbeats 2000000 in
theorem walk (a b c : Int) (s : ByteArray) (w : World) (ia : In64 a) (ib : In64 b) (ic : In64 c) : Calls Try.prog 3 #[.agg #[.int .i64 a, .int .i64 b, .int .i64 c, .string s]] w fun e w' => e = .returned (.bool true) ∧ Below w.heap.size w w' := by
  have HX := hide (Blk.new w #[.int .i64 a, .int .i64 b, .int .i64 c, .string s] 23)
  have HB := hide (below1 w (.cells #[.int .i64 a, .int .i64 b, .int .i64 c, .string s] 23))
  have Hle := hide (post_len a b)
  go_enter Try.func3, Try.ntmps3
  go_wp2_with fail
  generalize w.alloc (.cells #[.int .i64 a, .int .i64 b, .int .i64 c, .string s] 23) = w1 at *
  refine (alive_any _).mono ?_
  rintro e w2 ⟨rfl, hb⟩
  replace HX := hide ((show Blk _ _ _ _ from unhide HX).keep hb)
  replace HB := hide (below_via (unhide HB) hb)
  clear hb
  go_wp2_with fail
  have m0 := (unhide HX).at 0 _ rfl
  have m1 := (unhide HX).at 1 _ rfl
  have m2 := (unhide HX).at 2 _ rfl
  have m3 := (unhide HX).at 3 _ rfl
  go_quiet (fail)
  clear m0 m1 m2 m3
  clear HX
  replace HB := hide (below_drewN (unhide HB) nq)
  generalize w2.drewN nq = w2 at *
  go_wp2_with fail
  refine (post_any a b ib _).mono ?_
  rintro e w4 ⟨l, rfl, hG⟩
  replace HB := hide (below_via (unhide HB) hG.below)
  have HL := hide hG.row
  clear hG
  go_wp2_with fail
  refine (rpost_any a b ib _).mono ?_
  rintro e w5 ⟨m, rfl, hG⟩
  replace HL := hide ((show RowG _ _ _ _ from unhide HL).keep hG.below)
  replace HB := hide (below_via (unhide HB) hG.below)
  have HM := hide hG.row
  clear hG
  go_wp2_with fail
  refine (from_any _ _ _ (unhide HL) (unhide Hle)).mono ?_
  rintro e w6 ⟨u, rfl, hG⟩
  replace HL := hide ((show RowG _ _ _ _ from unhide HL).keep hG.below)
  replace HM := hide ((show RowG _ _ _ _ from unhide HM).keep hG.below)
  replace HB := hide (below_via (unhide HB) hG.below)
  have HU := hide hG.row
  clear hG
  clear HL
  go_wp2_with fail
  refine (same_to _ _ _ _ (unhide HU) (unhide HM)).mono ?_
  rintro e w7 ⟨rfl, hb⟩
  replace HM := hide ((show RowG _ _ _ _ from unhide HM).keep hb)
  replace HU := hide ((show RowG _ _ _ _ from unhide HU).keep hb)
  replace HB := hide (below_via (unhide HB) hb)
  clear hb
  clear HU HM
  clear Hle
  go_wp2_with fail
  refine (name_any c _).mono ?_
  rintro e w8 ⟨rfl, hb⟩
  replace HB := hide (below_via (unhide HB) hb)
  clear hb
  go_wp2_with fail
  refine (rname_any c _).mono ?_
  rintro e w9 ⟨rfl, hb⟩
  replace HB := hide (below_via (unhide HB) hb)
  clear hb
  have hs := str_eq (accN c)
  go_wp2_with fail
  refine (acct_any s _).mono ?_
  rintro e w10 ⟨rfl, hb⟩
  replace HB := hide (below_via (unhide HB) hb)
  clear hb
  go_wp2_with fail
  refine (racct_any s _).mono ?_
  rintro e w11 ⟨rfl, hb⟩
  replace HB := hide (below_via (unhide HB) hb)
  clear hb
  go_wp2_with fail
  go_ret
  exact ⟨rfl, unhide HB⟩
theorem own : ownKnob Try.prog.godebug = none := by kernel_rfl
theorem laidOut : laidOutB Try.prog = true := by kernel_rfl
set_option linter.unusedVariables false in
set_option maxRecDepth 100000 in
theorem lifted (os : Os) (started : os.Started) (H : Type) (enc : TypeId × Value → H) :
    ReturnsInHanded {} Try.checked os 3 .any (Rows.chartPostsSpec.pre6 enc Try.prog Try.f3 Rows.chartPostsRow.domain false) (Rows.chartPostsSpec.post enc Try.prog Try.f3 false true false false) := by
  refine returnsInHanded_of_change (C := Try.checked) own started (by kernel_rfl) Try.func3
    (ChangeSpec.witness6 (enc := enc) (C := Try.checked) false ⟨#[], #[.agg #[.int .i64 0, .int .i64 0, .int .i64 0, .string ⟨#[]⟩]], []⟩ 8 (by kernel_rfl) (by kernel_rfl) (by kernel_rfl) (by kernel_rfl)) ?_
  intro W base args ds gs before hval0 hW hcnd _
  have hval : ∀ (j : Nat) t v, Try.f3.params[j]? = some t → args[j]? = some v → Value.okWide Try.prog W .any base t v := hval0
  have hW' := hW
  obtain ⟨p, q, hA0, hV, rfl, hfz, hnd⟩ := hW
  have hA : DataW.TrodAll enc Try.prog W 0 (fun _ => true) true Try.f3.params.toList args.toList ds p := hA0
  rw [Try.params3] at hA hval
  obtain ⟨v0, vs0, d0, ds0, p0, q0, hargs, rfl, rfl, h0, r0⟩ := trodAll_cons hA
  obtain ⟨rfl, rfl, rfl⟩ := trodAll_nil r0
  obtain rfl : args = #[v0] := by cases args; simp_all
  obtain ⟨rfl, rfl⟩ := trodVars_none hV
  have k0 := h0
  have lt0 : ∀ x ∈ p0, x.block < W.heap.size := by obtain ⟨m, hm⟩ := k0; exact DataW.trod_lt m _ _ _ hm
  obtain ⟨a0, b0, c0, s0, rfl, ia0, ib0, ic0⟩ : ∃ (a b c : Int) (s : ByteArray), v0 = .agg #[.int .i64 a, .int .i64 b, .int .i64 c, .string s] ∧ In64 a ∧ In64 b ∧ In64 c := by
    obtain ⟨c0, c1, c2, c3, y0, y1, y2, y3, m, rfl, _, _, hy0, hy1, hy2, hy3⟩ := Joins.open_agg4 Try.underlying23 (by kernel_rfl) cells23 (hval 0 23 v0 rfl rfl) h0
    obtain ⟨z0, e0, _, w0⟩ := DataW.trod_int Try.underlying3 hy0
    obtain ⟨z1, e1, _, w1⟩ := DataW.trod_int Try.underlying2 hy1
    obtain ⟨z2, e2, _, w2⟩ := DataW.trod_int Try.underlying3 hy2
    obtain ⟨z3, e3, _⟩ := DataW.trod_string Try.underlying9 hy3
    simp at e0 e1 e2 e3
    subst e0 e1 e2 e3
    exact ⟨z0, z1, z2, z3, rfl, in64_of w0, in64_of w1, in64_of w2⟩
  clear hA0 hval0
  refine (walk a0 b0 c0 s0 W ia0 ib0 ic0).mono fun e W' ⟨he, bel⟩ => ?_
  subst he
  exact ⟨_, rfl, _, _, _, [], _, [], hW', trodAll_mk1 (shut_bool Try.underlying4 _), (trodAll_cons_mk (Below.trod laidOut (by kernel_rfl) (of_decide_eq_true (by kernel_rfl)) k0 bel lt0) trodAll_mk0), rfl, bel.frame _, fun h => by cases h⟩
theorem over : Rows.chartPostsRow.holds Try.pinned (OpenSpec.ofChange Rows.chartPostsSpec) :=
  OpenClaim.holds_of_wide 3 Try.f3 rfl rfl rfl rfl rfl rfl rfl ⟨rfl, rfl, rfl, rfl, rfl⟩ rfl rfl rfl rfl rfl (by kernel_rfl) Try.func3 (by kernel_rfl)
    (of_decide_eq_true (by kernel_rfl)) (by unfold Func.isWrapper; first | (rw [if_pos (by decide +kernel)]; kernel_rfl) | (rw [if_neg (by decide +kernel)]; exact ⟨rfl, rfl⟩))
    (fun os started H enc _ => lifted os started H enc)
theorem proved : Rows.ChartPostsSaid := over
end Go.Proofs.Ytalbdkihlcbhbaa.chartPosts
namespace Go.Proofs.Ytalbdkihlcbhbaa
theorem chartPosts_holds : Rows.ChartPostsSaid := chartPosts.proved
end Go.Proofs.Ytalbdkihlcbhbaa
