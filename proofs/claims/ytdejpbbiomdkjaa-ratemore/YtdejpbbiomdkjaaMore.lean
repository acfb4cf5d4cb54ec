/- Proved here: RateMore: of a greater amount there is no less; at a greater rate there is no less interest, and no more left. No condition. -/
import Derived.Test.YtdejpbbiomdkjaaMoreA
import Derived.Test.YtdejpbbiomdkjaaMoreB
import Derived.Test.YtdejpbbiomdkjaaMoreC
import Derived.Test.YtdejpbbiomdkjaaMoreD
import Derived.ProofKit
import Derived.Lib.SmallJoins
import Derived.OpenShut
import Derived.ShutString
import Derived.ChangeOld
import Derived.Below
namespace Go.Proofs.Ytdejpbbiomdkjaa.rateMore
open Go.ChangeShapes Go.WideShapes Go.ChangeAt Go.RowKit
theorem qD_in {x r : Int} (hm : May r) (h1 : -1125899906842624 ≤ x) (h2 : x ≤ 1125899906842624) : In64 (qD x r) := by
  obtain ⟨m1, m2⟩ := hm
  exact ⟨near_ge (n := -9223372036854775808) (by omega) (by omega), near_le (n := 9223372036854775807) (by omega) (by omega)⟩
theorem qG_in {x r : Int} (hm : May r) (h1 : -1125899906842624 ≤ x) (h2 : x ≤ 1125899906842624) : In64 (qG x r) := by
  obtain ⟨m1, m2⟩ := hm
  have a := Int.mul_le_mul_of_nonneg_right h2 (show 0 ≤ 1000000000000 + r by omega)
  have b := Int.mul_le_mul_of_nonneg_right h1 (show 0 ≤ 1000000000000 + r by omega)
  exact ⟨near_ge (n := -9223372036854775808) (by omega) (by omega), near_le (n := 9223372036854775807) (by omega) (by omega)⟩
theorem qI_in {x r : Int} (hm : May r) (h1 : -1125899906842624 ≤ x) (h2 : x ≤ 1125899906842624) : In64 (qI x r) := by
  obtain ⟨m1, m2⟩ := hm
  have a := Int.mul_le_mul_of_nonneg_right h2 (show 0 ≤ 10000000000000 + r by omega)
  have b := Int.mul_le_mul_of_nonneg_right h1 (show 0 ≤ 10000000000000 + r by omega)
  rw [Int.mul_add x] at a b
  exact ⟨near_ge (n := -9223372036854775808) (by omega) (by omega), near_le (n := 9223372036854775807) (by omega) (by omega)⟩
theorem qD_mono {x y r : Int} (hm : May r) (h : x ≤ y) : qD x r ≤ qD y r := near_mono (by have := hm.1; omega) (by omega)
theorem qG_mono {x y r : Int} (hm : May r) (h : x ≤ y) : qG x r ≤ qG y r := near_mono (by omega) (Int.mul_le_mul_of_nonneg_right h (by have := hm.1; omega))
theorem qI_mono {x y r : Int} (hr : 0 ≤ r) (h : x ≤ y) : qI x r ≤ qI y r := near_mono (by omega) (Int.mul_le_mul_of_nonneg_right h hr)
theorem qD_anti {x r s : Int} (hm : May r) (h : r ≤ s) (hx : 0 ≤ x) : qD x s ≤ qD x r := near_anti (by have := hm.1; omega) (by omega) (by omega)
theorem qG_more {x r s : Int} (h : r ≤ s) (hx : 0 ≤ x) : qG x r ≤ qG x s := near_mono (by omega) (Int.mul_le_mul_of_nonneg_left (by omega) hx)
theorem qI_more {x r s : Int} (h : r ≤ s) (hx : 0 ≤ x) : qI x r ≤ qI x s := near_mono (by omega) (Int.mul_le_mul_of_nonneg_left h hx)
theorem walk_go (X Y R S x y r s : Int) (hx : (if Y < X then Y else X) = x) (hy : (if X < Y then Y else X) = y) (hr : (if S < R then S else R) = r) (hs : (if R < S then S else R) = s) (w : World) (hX : In64 x) (hY : In64 y) : Good X Y R S w := by
  have hxy : x ≤ y := by subst hx hy; split <;> split <;> omega
  have hrs : r ≤ s := by subst hr hs; split <;> split <;> omega
  have H := mrS X Y R S x y r s (qD x r) (qD y r) (qD x s) (qG x r) (qG y r) (qG x s) (qI x r) (qI y r) (qI x s) hx hy hr hs w
  have H01 := mr01 X Y R S x y r s (qD x r) (qD y r) (qD x s) (qG x r) (qG y r) (qG x s) (qI x r) (qI y r) (qI x s) hx hy hr hs w
  have H10 := mr10 X Y R S x y r s (qD x r) (qD y r) (qD x s) (qG x r) (qG y r) (qG x s) (qI x r) (qI y r) (qI x s) hx hy hr hs w
  have H00 := mr00 X Y R S x y r s (qD x r) (qD y r) (qD x s) (qG x r) (qG y r) (qG x s) (qI x r) (qI y r) (qI x s) hx hy hr hs w
  by_cases m1 : May r
  · have M1 : Hid (Mays r true) := hide (may_yes m1)
    by_cases m2 : May s
    · have M2 : Hid (Mays s true) := hide (may_yes m2)
      by_cases b1 : x < -1125899906842624
      · exact H (hide (Or.inr (Or.inr (Or.inl ⟨M1, M2, decide_eq_true b1⟩))))
      · by_cases b2 : 1125899906842624 < y
        · exact H (hide (Or.inr (Or.inr (Or.inr (Or.inl ⟨M1, M2, decide_eq_false b1, decide_eq_true b2⟩)))))
        · have D : ∀ z t, May t → x ≤ z → z ≤ y → Hid (Told14 z t (qD z t)) := fun z t ht h1 h2 => hide (told14 (in_ok (discount_ok ⟨by have := hX.lo; omega, by have := hY.hi; omega⟩ ht) (qD_in ht (by omega) (by omega))))
          have G : ∀ z t, May t → x ≤ z → z ≤ y → Hid (Told12 z t (qG z t)) := fun z t ht h1 h2 => hide (told12 (in_ok (grow_ok ⟨by have := hX.lo; omega, by have := hY.hi; omega⟩ ht) (qG_in ht (by omega) (by omega))))
          have I : ∀ z t, May t → x ≤ z → z ≤ y → Hid (Told10 z t (qI z t)) := fun z t ht h1 h2 => hide (told10 (in_ok (interest_ok ⟨by have := hX.lo; omega, by have := hY.hi; omega⟩ ht) (qI_in ht (by omega) (by omega))))
          have d12 := decide_eq_false (Int.not_lt.mpr (qD_mono m1 hxy))
          have g12 := decide_eq_false (Int.not_lt.mpr (qG_mono m1 hxy))
          have xx : x ≤ x := Int.le_refl _
          have yy : y ≤ y := Int.le_refl _
          by_cases r0 : 0 ≤ r
          · have i12 := decide_eq_false (Int.not_lt.mpr (qI_mono r0 hxy))
            by_cases x0 : x < 0
            · exact H01 (hide ⟨M1, M2, decide_eq_false b1, decide_eq_false b2, D x r m1 xx hxy, D y r m1 hxy yy, d12, G x r m1 xx hxy, G y r m1 hxy yy, g12, decide_eq_true r0, I x r m1 xx hxy, I y r m1 hxy yy, i12, decide_eq_true x0⟩)
            · have p : 0 ≤ x := by omega
              exact H00 (hide ⟨M1, M2, decide_eq_false b1, decide_eq_false b2, D x r m1 xx hxy, D y r m1 hxy yy, d12, G x r m1 xx hxy, G y r m1 hxy yy, g12, decide_eq_true r0, I x r m1 xx hxy, I y r m1 hxy yy, i12, decide_eq_false x0, I x s m2 xx hxy, D x s m2 xx hxy, G x s m2 xx hxy, decide_eq_true (qI_more hrs p), decide_eq_true (qD_anti m1 hrs p), decide_eq_true (qG_more hrs p)⟩)
          · by_cases x0 : x < 0
            · exact H (hide (Or.inr (Or.inr (Or.inr (Or.inr ⟨M1, M2, decide_eq_false b1, decide_eq_false b2, D x r m1 xx hxy, D y r m1 hxy yy, d12, G x r m1 xx hxy, G y r m1 hxy yy, g12, decide_eq_false r0, decide_eq_true x0⟩)))))
            · have p : 0 ≤ x := by omega
              exact H10 (hide ⟨M1, M2, decide_eq_false b1, decide_eq_false b2, D x r m1 xx hxy, D y r m1 hxy yy, d12, G x r m1 xx hxy, G y r m1 hxy yy, g12, decide_eq_false r0, decide_eq_false x0, I x r m1 xx hxy, I x s m2 xx hxy, D x s m2 xx hxy, G x s m2 xx hxy, decide_eq_true (qI_more hrs p), decide_eq_true (qD_anti m1 hrs p), decide_eq_true (qG_more hrs p)⟩)
    · exact H (hide (Or.inr (Or.inl ⟨M1, hide (may_no m2)⟩)))
  · exact H (hide (Or.inl (hide (may_no m1))))
theorem walk (X Y R S : Int) (w : World) (wx : (Lit.int .i64 X).wf = true) (wy : (Lit.int .i64 Y).wf = true) (_wr : (Lit.int .i64 R).wf = true) (_ws : (Lit.int .i64 S).wf = true) : Good X Y R S w := by
  have hX := in64_of wx
  have hY := in64_of wy
  refine walk_go X Y R S _ _ _ _ rfl rfl rfl rfl w ?_ ?_ <;> split <;> assumption
theorem cells35 : Try.prog.cellsOf 35 = 4 := by kernel_rfl
theorem one_int {H : Type} {enc : TypeId × Value → H} {P : Program} {w : World} {base : Nat} {spare : Nat → Bool} {held : Bool} {k : IntKind} {a : Int} {T : TypeId} (hu : P.underlying T = some (.int k)) (h : (Lit.int k a).wf = true) : ∃ n, DataW.trod enc P w base spare held n T [.int k a] = some (.lit (.int k a), []) := ⟨1, by simp [DataW.trod, hu, h]⟩
theorem own : ownKnob Try.prog.godebug = none := by kernel_rfl
set_option linter.unusedVariables false in
set_option maxRecDepth 100000 in
theorem lifted (os : Os) (started : os.Started) (H : Type) (enc : TypeId × Value → H) :
    ReturnsInHanded {} Try.checked os 6 .any (Rows.rateMoreSpec.pre6 enc Try.prog Try.f6 Rows.rateMoreRow.domain false) (Rows.rateMoreSpec.post enc Try.prog Try.f6 false true false false) := by
  refine returnsInHanded_of_change (C := Try.checked) own started (by kernel_rfl) Try.func6
    (ChangeSpec.witness6 (enc := enc) (C := Try.checked) false ⟨#[], #[.agg #[.int .i64 0, .int .i64 0, .int .i64 0, .int .i64 0]], []⟩ 8 (by kernel_rfl) (by kernel_rfl) (by kernel_rfl) (by kernel_rfl)) ?_
  intro W base args ds gs before hval0 hW hcnd _
  have hval : ∀ (j : Nat) t v, Try.f6.params[j]? = some t → args[j]? = some v → Value.okWide Try.prog W .any base t v := hval0
  have hW' := hW
  obtain ⟨p, q, hA0, hV, rfl, hfz, hnd⟩ := hW
  have hA : DataW.TrodAll enc Try.prog W 0 (fun _ => true) true Try.f6.params.toList args.toList ds p := hA0
  rw [Try.params6] at hA hval
  obtain ⟨v0, vs0, d0, ds0, p0, q0, hargs, rfl, rfl, h0, r0⟩ := trodAll_cons hA
  obtain ⟨rfl, rfl, rfl⟩ := trodAll_nil r0
  obtain rfl : args = #[v0] := by cases args; simp_all
  obtain ⟨rfl, rfl⟩ := trodVars_none hV
  obtain ⟨c00, c01, c02, c03, y00, y01, y02, y03, m0, rfl, rfl, rfl, hy00, hy01, hy02, hy03⟩ := Joins.open_agg4 Try.underlying35 (by kernel_rfl) cells35 (hval 0 35 v0 rfl rfl) h0
  obtain ⟨a00, e00, rfl, w00⟩ := DataW.trod_int Try.underlying2 hy00
  obtain ⟨a01, e01, rfl, w01⟩ := DataW.trod_int Try.underlying2 hy01
  obtain ⟨a02, e02, rfl, w02⟩ := DataW.trod_int Try.underlying2 hy02
  obtain ⟨a03, e03, rfl, w03⟩ := DataW.trod_int Try.underlying2 hy03
  simp at e00 e01 e02 e03
  subst e00 e01 e02 e03
  clear hA0 hval0
  simp only [List.append_nil] at hW'
  refine (walk a00 a01 a02 a03 W w00 w01 w02 w03).mono fun e W' ⟨he, bel⟩ => ?_
  subst he
  exact ⟨_, rfl, _, _, _, [], _, [], hW', trodAll_mk1 (shut_bool Try.underlying4 _), (trodAll_cons_mk (Joins.shut_agg4 (y0 := (.lit (.int .i64 a00), [])) (y1 := (.lit (.int .i64 a01), [])) (y2 := (.lit (.int .i64 a02), [])) (y3 := (.lit (.int .i64 a03), [])) Try.underlying35 (by kernel_rfl) cells35 (one_int Try.underlying2 w00) (one_int Try.underlying2 w01) (one_int Try.underlying2 w02) (one_int Try.underlying2 w03)) trodAll_mk0), rfl, bel.frame _, fun h => by cases h⟩
theorem over : Rows.rateMoreRow.holds Try.pinned (OpenSpec.ofChange Rows.rateMoreSpec) :=
  OpenClaim.holds_of_wide 6 Try.f6 rfl rfl rfl rfl rfl rfl rfl ⟨rfl, rfl, rfl, rfl, rfl⟩ rfl rfl rfl rfl rfl (by kernel_rfl) Try.func6 (by kernel_rfl)
    (of_decide_eq_true (by kernel_rfl)) (by unfold Func.isWrapper; first | (rw [if_pos (by decide +kernel)]; kernel_rfl) | (rw [if_neg (by decide +kernel)]; exact ⟨rfl, rfl⟩))
    (fun os started H enc _ => lifted os started H enc)
/-- The statement. -/
theorem proved : Rows.RateMoreSaid := over
#print axioms proved
end Go.Proofs.Ytdejpbbiomdkjaa.rateMore
namespace Go.Proofs.Ytdejpbbiomdkjaa
theorem rateMore_holds : Rows.RateMoreSaid := rateMore.proved
end Go.Proofs.Ytdejpbbiomdkjaa
