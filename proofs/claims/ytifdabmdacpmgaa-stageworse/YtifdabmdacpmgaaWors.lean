/- Proved here: StageWorse: a mark that is worse leads to no better a stage; marks ahead of one that tells 3 say nothing. No condition. -/
import Derived.Test.YtifdabmdacpmgaaWorse
namespace Go.Proofs.Ytifdabmdacpmgaa.stageWorse
open Go.ChangeShapes Go.WideShapes Go.ChangeAt Go.RowKit
set_option linter.unusedVariables false
set_option linter.unusedSimpArgs false
set_option maxRecDepth 100000 in
theorem open_s0 {H : Type} {enc : TypeId × Value → H} {w : World} {b0 base : Nat} {held : Bool} {v : Value} {d : DataW H} {p : List MemPlace}
    (hv : Value.okWide Try.prog w .any b0 47 v) (h : DataW.Trod enc Try.prog w base (fun _ => true) held 47 v d p) :
    ∃ (x0 : Int) (x1 : Int) (x2 : Int) (x3 : Int) (x4 : Bool) (x5 : Int) (x6 : Int) (ad7 : Option Addr) (ln7 cp7 : Nat) (ms7 : List Mk) (ad8 : Option Addr) (ln8 cp8 : Nat) (ms8 : List Mk), v = .agg #[.int .i64 x0, .int .i64 x1, .int .i64 x2, .int .i64 x3, .bool x4, .int .u8 x5, .int .u8 x6, .slice ad7 ln7 cp7, .slice ad8 ln8 cp8] ∧ In64 x0 ∧ In64 x1 ∧ In64 x2 ∧ In64 x3 ∧ True ∧ (0 ≤ x5 ∧ x5 ≤ 255) ∧ (0 ≤ x6 ∧ x6 ≤ 255) ∧ RowG 3 w (.slice ad7 ln7 cp7) (ms7.map mkL) ∧ RowG 3 w (.slice ad8 ln8 cp8) (ms8.map mkL) := by
  obtain ⟨cs, rfl, hsz⟩ := okWide_struct Try.underlying47 hv
  have hsz : cs.size = 9 := hsz.trans (by kernel_rfl)
  obtain ⟨cl⟩ := cs
  simp only [List.size_toArray] at hsz
  match cl, hsz with
  | [v0, v1, v2, v3, v4, v5, v6, v7, v8], _ =>
    obtain ⟨fuel, hf⟩ := h
    obtain ⟨xs, m, _, hx, _, hlen, hF⟩ := DataW.trod_struct Try.underlying47 hf
    match xs, hlen with
    | [Y0, Y2, y5, y6, y7, y8], _ =>
      have H0 : DataW.trod enc Try.prog w base (fun _ => true) held m 23 [v0, v1] = some Y0 := by simpa [Value.cells, show Try.prog.cellsOf 23 = 2 by kernel_rfl, show Try.prog.cellsOf 25 = 3 by kernel_rfl, show Try.prog.cellsOf 37 = 1 by kernel_rfl, show Try.prog.cellsOf 5 = 1 by kernel_rfl] using hF 0 _ rfl
      have H2 : DataW.trod enc Try.prog w base (fun _ => true) held m 25 [v2, v3, v4] = some Y2 := by simpa [Value.cells, show Try.prog.cellsOf 23 = 2 by kernel_rfl, show Try.prog.cellsOf 25 = 3 by kernel_rfl, show Try.prog.cellsOf 37 = 1 by kernel_rfl, show Try.prog.cellsOf 5 = 1 by kernel_rfl] using hF 1 _ rfl
      have h5 : DataW.trod enc Try.prog w base (fun _ => true) held m 5 [v5] = some y5 := by simpa [Value.cells, show Try.prog.cellsOf 23 = 2 by kernel_rfl, show Try.prog.cellsOf 25 = 3 by kernel_rfl, show Try.prog.cellsOf 37 = 1 by kernel_rfl, show Try.prog.cellsOf 5 = 1 by kernel_rfl] using hF 2 _ rfl
      have h6 : DataW.trod enc Try.prog w base (fun _ => true) held m 5 [v6] = some y6 := by simpa [Value.cells, show Try.prog.cellsOf 23 = 2 by kernel_rfl, show Try.prog.cellsOf 25 = 3 by kernel_rfl, show Try.prog.cellsOf 37 = 1 by kernel_rfl, show Try.prog.cellsOf 5 = 1 by kernel_rfl] using hF 3 _ rfl
      have h7 : DataW.trod enc Try.prog w base (fun _ => true) held m 37 [v7] = some y7 := by simpa [Value.cells, show Try.prog.cellsOf 23 = 2 by kernel_rfl, show Try.prog.cellsOf 25 = 3 by kernel_rfl, show Try.prog.cellsOf 37 = 1 by kernel_rfl, show Try.prog.cellsOf 5 = 1 by kernel_rfl] using hF 4 _ rfl
      have h8 : DataW.trod enc Try.prog w base (fun _ => true) held m 37 [v8] = some y8 := by simpa [Value.cells, show Try.prog.cellsOf 23 = 2 by kernel_rfl, show Try.prog.cellsOf 25 = 3 by kernel_rfl, show Try.prog.cellsOf 37 = 1 by kernel_rfl, show Try.prog.cellsOf 5 = 1 by kernel_rfl] using hF 5 _ rfl
      obtain ⟨xs0, m0, _, hx0, _, hlen0, hF0⟩ := DataW.trod_struct Try.underlying23 H0
      match xs0, hlen0 with
      | [y0, y1], _ =>
      have h0 : DataW.trod enc Try.prog w base (fun _ => true) held m0 3 [v0] = some y0 := by simpa [Value.cells, show Try.prog.cellsOf 3 = 1 by kernel_rfl, show Try.prog.cellsOf 4 = 1 by kernel_rfl] using hF0 0 _ rfl
      have h1 : DataW.trod enc Try.prog w base (fun _ => true) held m0 3 [v1] = some y1 := by simpa [Value.cells, show Try.prog.cellsOf 3 = 1 by kernel_rfl, show Try.prog.cellsOf 4 = 1 by kernel_rfl] using hF0 1 _ rfl
      obtain ⟨xs2, m2, _, hx2, _, hlen2, hF2⟩ := DataW.trod_struct Try.underlying25 H2
      match xs2, hlen2 with
      | [y2, y3, y4], _ =>
      have h2 : DataW.trod enc Try.prog w base (fun _ => true) held m2 3 [v2] = some y2 := by simpa [Value.cells, show Try.prog.cellsOf 3 = 1 by kernel_rfl, show Try.prog.cellsOf 4 = 1 by kernel_rfl] using hF2 0 _ rfl
      have h3 : DataW.trod enc Try.prog w base (fun _ => true) held m2 3 [v3] = some y3 := by simpa [Value.cells, show Try.prog.cellsOf 3 = 1 by kernel_rfl, show Try.prog.cellsOf 4 = 1 by kernel_rfl] using hF2 1 _ rfl
      have h4 : DataW.trod enc Try.prog w base (fun _ => true) held m2 4 [v4] = some y4 := by simpa [Value.cells, show Try.prog.cellsOf 3 = 1 by kernel_rfl, show Try.prog.cellsOf 4 = 1 by kernel_rfl] using hF2 2 _ rfl
      obtain ⟨x0, e0, _, w0⟩ := DataW.trod_int Try.underlying3 h0
      simp at e0
      subst e0
      have b0 : In64 x0 := in64_of w0
      obtain ⟨x1, e1, _, w1⟩ := DataW.trod_int Try.underlying3 h1
      simp at e1
      subst e1
      have b1 : In64 x1 := in64_of w1
      obtain ⟨x2, e2, _, w2⟩ := DataW.trod_int Try.underlying3 h2
      simp at e2
      subst e2
      have b2 : In64 x2 := in64_of w2
      obtain ⟨x3, e3, _, w3⟩ := DataW.trod_int Try.underlying3 h3
      simp at e3
      subst e3
      have b3 : In64 x3 := in64_of w3
      obtain ⟨x4, e4, _⟩ := DataW.trod_bool Try.underlying4 h4
      simp at e4
      subst e4
      have b4 : True := trivial
      obtain ⟨x5, e5, _, w5⟩ := DataW.trod_int Try.underlying5 h5
      simp at e5
      subst e5
      have b5 : (0 ≤ x5 ∧ x5 ≤ 255) := by
        simp [Lit.wf, IntKind.min, IntKind.max, IntKind.signed, IntKind.bits] at w5
        omega
      obtain ⟨x6, e6, _, w6⟩ := DataW.trod_int Try.underlying5 h6
      simp at e6
      subst e6
      have b6 : (0 ≤ x6 ∧ x6 ≤ 255) := by
        simp [Lit.wf, IntKind.min, IntKind.max, IntKind.signed, IntKind.bits] at w6
        omega
      obtain ⟨ad7, ln7, cp7, rfl⟩ : ∃ ad ln cp, v7 = .slice ad ln cp := by
        rcases Go.Deep.open_slice Try.underlying37 h7 with ⟨hcs, _⟩ | ⟨x, l, c, _, _, _, _, hcs, _⟩
        · simp at hcs
          exact ⟨none, 0, 0, hcs⟩
        · simp at hcs
          exact ⟨some x, l, c, hcs⟩
      obtain ⟨ms7, b7⟩ := marks_open h7
      obtain ⟨ad8, ln8, cp8, rfl⟩ : ∃ ad ln cp, v8 = .slice ad ln cp := by
        rcases Go.Deep.open_slice Try.underlying37 h8 with ⟨hcs, _⟩ | ⟨x, l, c, _, _, _, _, hcs, _⟩
        · simp at hcs
          exact ⟨none, 0, 0, hcs⟩
        · simp at hcs
          exact ⟨some x, l, c, hcs⟩
      obtain ⟨ms8, b8⟩ := marks_open h8
      exact ⟨x0, x1, x2, x3, x4, x5, x6, ad7, ln7, cp7, ms7, ad8, ln8, cp8, ms8, rfl, b0, b1, b2, b3, b4, b5, b6, b7, b8⟩
theorem walk (s g p d : Int) (b : Bool) (P D : Int) (la : Option Addr) (ll lc : Nat) (l : List Mk) (ka : Option Addr) (kl kc : Nat) (k : List Mk) (w : World) (_ : In64 s) (_ : In64 g) (_ : In64 p) (_ : In64 d) (_ : True) (hP : 0 ≤ P ∧ P ≤ 255) (hD : 0 ≤ D ∧ D ≤ 255) (hL : RowG 3 w (.slice la ll lc) (l.map mkL)) (hK : RowG 3 w (.slice ka kl kc) (k.map mkL)) : Calls Try.prog 6 #[.agg #[.int .i64 s, .int .i64 g, .int .i64 p, .int .i64 d, .bool b, .int .u8 P, .int .u8 D, .slice la ll lc, .slice ka kl kc]] w fun e w' => e = .returned (.bool true) ∧ Below w.heap.size w w' := by
  obtain ⟨P', rfl⟩ : ∃ T : Nat, P = (T : Int) := ⟨P.toNat, by omega⟩
  obtain ⟨D', rfl⟩ : ∃ T : Nat, D = (T : Int) := ⟨D.toNat, by omega⟩
  have e1 := rowG_len hL
  have e2 := rowG_len hK
  rw [List.length_map] at e1 e2
  by_cases h1 : 100 < ll
  · exact l_1 s g p d b P' D' la ll lc l ka kl kc k (decide_eq_true (by omega)) (by omega) (by omega) (hide alive_any) w (hide hL) (hide hK)
  · by_cases h2 : 100 < kl
    · exact l_2 s g p d b P' D' la ll lc l ka kl kc k (decide_eq_false (by omega)) (decide_eq_true (by omega)) (by omega) (by omega) (hide alive_any) w (hide hL) (hide hK)
    · exact w_1 s g p d b P' D' la ll lc l ka kl kc k (decide_eq_false (by omega)) (decide_eq_false (by omega)) (by omega) (by omega) (hide e1) (hide (by omega)) (hide (by omega)) (hide alive_any) w (hide hL) (hide hK)
theorem own : ownKnob Try.prog.godebug = none := by kernel_rfl
theorem laidOut : laidOutB Try.prog = true := by kernel_rfl
set_option linter.unusedVariables false in
set_option maxRecDepth 100000 in
theorem lifted (os : Os) (started : os.Started) (H : Type) (enc : TypeId × Value → H) :
    ReturnsInHanded {} Try.checked os 6 .any (Rows.stageWorseSpec.pre6 enc Try.prog Try.f6 Rows.stageWorseRow.domain false) (Rows.stageWorseSpec.post enc Try.prog Try.f6 false true false false) := by
  refine returnsInHanded_of_change (C := Try.checked) own started (by kernel_rfl) Try.func6
    (ChangeSpec.witness6 (enc := enc) (C := Try.checked) false ⟨#[], #[.agg #[.int .i64 0, .int .i64 0, .int .i64 0, .int .i64 0, .bool false, .int .u8 0, .int .u8 0, .slice none 0 0, .slice none 0 0]], []⟩ 8 (by kernel_rfl) (by kernel_rfl) (by kernel_rfl) (by kernel_rfl)) ?_
  intro W base args ds gs before hval0 hW hcnd _
  have hval : ∀ (j : Nat) t v, Try.f6.params[j]? = some t → args[j]? = some v → Value.okWide Try.prog W .any base t v := hval0
  have hW' := hW
  obtain ⟨p, q, hA0, hV, rfl, hfz, hnd⟩ := hW
  have hA : DataW.TrodAll enc Try.prog W 0 (fun _ => true) true Try.f6.params.toList args.toList ds p := hA0
  rw [Try.params6] at hA hval
  obtain ⟨v0, vs0, d0, ds0, p0, q0, hargs, rfl, rfl, h0, r0⟩ := trodAll_cons hA
  obtain ⟨rfl, rfl, rfl⟩ := trodAll_nil r0
  obtain rfl : args = #[v0] := by cases args; simp_all
  obtain ⟨rfl, rfl⟩ := trodVars_none hV
  have k0 := h0
  have lt0 : ∀ x ∈ p0, x.block < W.heap.size := by obtain ⟨m, hm⟩ := k0; exact DataW.trod_lt m _ _ _ hm
  obtain ⟨ax0, ax1, ax2, ax3, ax4, ax5, ax6, aad7, aln7, acp7, ams7, aad8, aln8, acp8, ams8, rfl, ahb0, ahb1, ahb2, ahb3, ahb4, ahb5, ahb6, ahb7, ahb8⟩ := open_s0 (hval 0 47 v0 rfl rfl) h0
  clear hA0 hval0
  refine (walk ax0 ax1 ax2 ax3 ax4 ax5 ax6 aad7 aln7 acp7 ams7 aad8 aln8 acp8 ams8 W ahb0 ahb1 ahb2 ahb3 ahb4 ahb5 ahb6 ahb7 ahb8).mono fun e W' ⟨he, bel⟩ => ?_
  subst he
  exact ⟨_, rfl, _, _, _, [], _, [], hW', trodAll_mk1 (shut_bool Try.underlying4 _), (trodAll_cons_mk (Below.trod laidOut (by kernel_rfl) (of_decide_eq_true (by kernel_rfl)) k0 bel lt0) trodAll_mk0), rfl, bel.frame _, fun h => by cases h⟩
theorem over : Rows.stageWorseRow.holds Try.pinned (OpenSpec.ofChange Rows.stageWorseSpec) :=
  OpenClaim.holds_of_wide 6 Try.f6 rfl rfl rfl rfl rfl rfl rfl ⟨rfl, rfl, rfl, rfl, rfl⟩ rfl rfl rfl rfl rfl (by kernel_rfl) Try.func6 (by kernel_rfl)
    (of_decide_eq_true (by kernel_rfl)) (by unfold Func.isWrapper; first | (rw [if_pos (by decide +kernel)]; kernel_rfl) | (rw [if_neg (by decide +kernel)]; exact ⟨rfl, rfl⟩))
    (fun os started H enc _ => lifted os started H enc)
theorem proved : Rows.StageWorseSaid := over
end Go.Proofs.Ytifdabmdacpmgaa.stageWorse
namespace Go.Proofs.Ytifdabmdacpmgaa
theorem stageWorse_holds : Rows.StageWorseSaid := stageWorse.proved
end Go.Proofs.Ytifdabmdacpmgaa
