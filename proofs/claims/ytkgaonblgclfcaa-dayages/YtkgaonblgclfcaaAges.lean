/- Proved here: DayAges: 400 years on a date is 146097 days on, of the same weekday; a year has 365 or 366 days; later dates have greater numbers. No condition. -/
import Derived.Test.YtkgaonblgclfcaaAgesA
import Derived.Test.YtkgaonblgclfcaaAgesB
import Derived.Test.YtkgaonblgclfcaaAgesC
import Derived.WalkKit
import Derived.WalkSpells
import Derived.Lib.SmallJoins
import Derived.ProofKit
import Derived.OpenShut
import Derived.ShutString
import Derived.ChangeOld
import Derived.Below
namespace Go.Proofs.Ytkgaonblgclfcaa.dayAges
open Go.ChangeShapes Go.WideShapes Go.ChangeAt Go.RowKit
set_option linter.unusedSimpArgs false
theorem num_age {y m d : Int} (h : Valid y m d) (h2 : y + 400 ≤ 9999) : Valid (y + 400) m d ∧ num (y + 400) m d = num y m d + 146097 := by
  have e : leap (y + 400) = leap y := by
    unfold leap
    rw [show (y + 400) % 4 = y % 4 from by omega, show (y + 400) % 100 = y % 100 from by omega, show (y + 400) % 400 = y % 400 from by omega]
  refine ⟨⟨by have := h.y1; omega, h2, h.m1, h.m2, h.d1, by rw [e]; exact h.d2⟩, ?_⟩
  unfold num
  rw [e]
  unfold ds
  omega
theorem walk (y m d p q r : Int) (w : World) (_wy : (Lit.int .i64 y).wf = true) (_wm : (Lit.int .i64 m).wf = true) (_wd : (Lit.int .i64 d).wf = true) (_wp : (Lit.int .i64 p).wf = true) (_wq : (Lit.int .i64 q).wf = true) (_wr : (Lit.int .i64 r).wf = true) : Calls Try.prog 6 #[.agg #[.int .i64 y, .int .i64 m, .int .i64 d], .agg #[.int .i64 p, .int .i64 q, .int .i64 r]] w fun e w' => e = .returned (.bool true) ∧ Below w.heap.size w w' := by
  show Good y m d p q r w
  by_cases v1 : Valid y m d
  · by_cases v2 : Valid p q r
    · have h1 := from_ok v1
      have h2 := from_ok v2
      have rg := num_range v1
      have y1 := v1.y1
      have y2 := v1.y2
      have h5 := from_ok (y := y) (m := 1) (d := 1) ⟨y1, y2, by omega, by omega, by omega, by cases leap y <;> decide⟩
      have h6 := from_ok (y := y) (m := 12) (d := 31) ⟨y1, y2, by omega, by omega, by omega, by cases leap y <;> decide⟩
      have hL := leap_any y
      have z0 : num y 12 31 - num y 1 1 = yl (leap y) - 1 := by
        have a1 : mo (leap y) (12 : Int).toNat = yl (leap y) - 31 := by cases leap y <;> decide
        have a2 : mo (leap y) (1 : Int).toNat = 0 := by cases leap y <;> decide
        unfold num
        rw [a1, a2]
        omega
      have zb := yl_bd (leap y)
      have z3 : wrap64 (num y 12 31 - num y 1 1) = yl (leap y) - 1 := by rw [z0]; exact wrap_in ⟨by omega, by omega⟩
      have z1 : (wrap64 (num y 12 31 - num y 1 1) == 365) = leap y := by rw [z3]; cases leap y <;> decide
      have z2 : (wrap64 (num y 12 31 - num y 1 1) == 364) = !leap y := by rw [z3]; cases leap y <;> decide
      have hw := weekday_any (num y m d)
      have ha : ∀ P : Prop, (decide (y + 400 ≤ 9999) = true → Froms (y + 400) m d (num y m d + 146097) 0 → Q 13 #[.int .i64 (num y m d + 146097)] (.int .i64 ((num y m d - 1) % 7)) → P) → (decide (y + 400 ≤ 9999) = false → P) → P := by
        intro P p1 p2
        by_cases c : y + 400 ≤ 9999
        · have ha := num_age v1 c
          have h3 := from_ok ha.1
          rw [ha.2] at h3
          have hw2 := weekday_any (num y m d + 146097)
          rw [show (num y m d + 146097 - 1) % 7 = (num y m d - 1) % 7 from by omega] at hw2
          exact p1 (decide_eq_true c) h3 hw2
        · exact p2 (decide_eq_false c)
      have hq : ∀ w, (binOp .eql 23 (.agg #[.int .i64 y, .int .i64 m, .int .i64 d]) (.agg #[.int .i64 p, .int .i64 q, .int .i64 r])).run Try.prog w = .ok (.bool (y == p && (m == q && d == r))) w := fun w => by rw [eql23]
      have hs : (num p q r == num y m d) = (y == p && (m == q && d == r)) := by
        by_cases c : y = p ∧ m = q ∧ d = r
        · rw [c.1, c.2.1, c.2.2]; simp
        · have n1 : num p q r ≠ num y m d := fun e => c (num_inj v1 v2 e.symm)
          rw [beq_false_of_ne n1]
          by_cases c1 : y = p
          · by_cases c2 : m = q
            · have c3 : d ≠ r := fun e => c ⟨c1, c2, e⟩
              simp [c3]
            · simp [c2]
          · simp [c1]
      generalize (y == p && (m == q && d == r)) = B at hq hs
      generalize (num y m d - 1) % 7 = a at hw ha
      generalize num y 1 1 = F at *
      generalize num y 12 31 = Z at *
      by_cases c1 : y < p
      · have s1 := decide_eq_true (num_lt v1 v2 (Or.inl c1))
        exact ha _ (fun ag h3 hw2 => go_1y y m d p q r _ _ F Z a B _ w (decide_eq_true c1) (hide h1) (hide h2) hq s1 hs y1 y2 rg.1 rg.2 (hide h5) (hide h6) (hide hL) z1 z2 ag (hide h3) (hide hw) (hide hw2)) (fun ag => go_1n y m d p q r _ _ F Z B _ w (decide_eq_true c1) (hide h1) (hide h2) hq s1 hs y1 y2 rg.1 rg.2 (hide h5) (hide h6) (hide hL) z1 z2 ag)
      by_cases c2 : p = y
      · by_cases c3 : m < q
        · have s1 := decide_eq_true (num_lt v1 v2 (Or.inr ⟨c2.symm, Or.inl c3⟩))
          exact ha _ (fun ag h3 hw2 => go_3y y m d p q r _ _ F Z a B _ w (decide_eq_false c1) (by rw [c2]; simp) (decide_eq_true c3) (hide h1) (hide h2) hq s1 hs y1 y2 rg.1 rg.2 (hide h5) (hide h6) (hide hL) z1 z2 ag (hide h3) (hide hw) (hide hw2)) (fun ag => go_3n y m d p q r _ _ F Z B _ w (decide_eq_false c1) (by rw [c2]; simp) (decide_eq_true c3) (hide h1) (hide h2) hq s1 hs y1 y2 rg.1 rg.2 (hide h5) (hide h6) (hide hL) z1 z2 ag)
        by_cases c4 : q = m
        · by_cases c5 : d < r
          · have s1 := decide_eq_true (num_lt v1 v2 (Or.inr ⟨c2.symm, Or.inr ⟨c4.symm, c5⟩⟩))
            exact ha _ (fun ag h3 hw2 => go_5y y m d p q r _ _ F Z a B _ w (decide_eq_false c1) (by rw [c2]; simp) (decide_eq_false c3) (by rw [c4]; simp) (decide_eq_true c5) (hide h1) (hide h2) hq s1 hs y1 y2 rg.1 rg.2 (hide h5) (hide h6) (hide hL) z1 z2 ag (hide h3) (hide hw) (hide hw2)) (fun ag => go_5n y m d p q r _ _ F Z B _ w (decide_eq_false c1) (by rw [c2]; simp) (decide_eq_false c3) (by rw [c4]; simp) (decide_eq_true c5) (hide h1) (hide h2) hq s1 hs y1 y2 rg.1 rg.2 (hide h5) (hide h6) (hide hL) z1 z2 ag)
          · have s1 : decide (num y m d < num p q r) = false := decide_eq_false (by
              by_cases c6 : d = r
              · rw [c2, c4, c6]; omega
              · have := num_lt v2 v1 (Or.inr ⟨c2, Or.inr ⟨c4, by omega⟩⟩); omega)
            exact ha _ (fun ag h3 hw2 => go_6y y m d p q r _ _ F Z a B _ w (decide_eq_false c1) (by rw [c2]; simp) (decide_eq_false c3) (by rw [c4]; simp) (decide_eq_false c5) (hide h1) (hide h2) hq s1 hs y1 y2 rg.1 rg.2 (hide h5) (hide h6) (hide hL) z1 z2 ag (hide h3) (hide hw) (hide hw2)) (fun ag => go_6n y m d p q r _ _ F Z B _ w (decide_eq_false c1) (by rw [c2]; simp) (decide_eq_false c3) (by rw [c4]; simp) (decide_eq_false c5) (hide h1) (hide h2) hq s1 hs y1 y2 rg.1 rg.2 (hide h5) (hide h6) (hide hL) z1 z2 ag)
        · have s1 : decide (num y m d < num p q r) = false := decide_eq_false (by have := num_lt v2 v1 (Or.inr ⟨c2, Or.inl (by omega)⟩); omega)
          exact ha _ (fun ag h3 hw2 => go_4y y m d p q r _ _ F Z a B _ w (decide_eq_false c1) (by rw [c2]; simp) (decide_eq_false c3) (beq_false_of_ne c4) (hide h1) (hide h2) hq s1 hs y1 y2 rg.1 rg.2 (hide h5) (hide h6) (hide hL) z1 z2 ag (hide h3) (hide hw) (hide hw2)) (fun ag => go_4n y m d p q r _ _ F Z B _ w (decide_eq_false c1) (by rw [c2]; simp) (decide_eq_false c3) (beq_false_of_ne c4) (hide h1) (hide h2) hq s1 hs y1 y2 rg.1 rg.2 (hide h5) (hide h6) (hide hL) z1 z2 ag)
      · have s1 : decide (num y m d < num p q r) = false := decide_eq_false (by have := num_lt v2 v1 (Or.inl (by omega)); omega)
        exact ha _ (fun ag h3 hw2 => go_2y y m d p q r _ _ F Z a B _ w (decide_eq_false c1) (beq_false_of_ne c2) (hide h1) (hide h2) hq s1 hs y1 y2 rg.1 rg.2 (hide h5) (hide h6) (hide hL) z1 z2 ag (hide h3) (hide hw) (hide hw2)) (fun ag => go_2n y m d p q r _ _ F Z B _ w (decide_eq_false c1) (beq_false_of_ne c2) (hide h1) (hide h2) hq s1 hs y1 y2 rg.1 rg.2 (hide h5) (hide h6) (hide hL) z1 z2 ag)
    · exact go_n2 y m d p q r w _ (hide (from_ok v1)) (hide (from_no v2))
  · by_cases v2 : Valid p q r
    · exact go_n1 y m d p q r w _ _ (hide (from_no v1)) (hide (from_ok v2))
    · exact go_n1 y m d p q r w _ _ (hide (from_no v1)) (hide (from_no v2))
theorem cells23 : Try.prog.cellsOf 23 = 3 := by kernel_rfl
theorem one_int {H : Type} {enc : TypeId × Value → H} {P : Program} {w : World} {base : Nat} {spare : Nat → Bool} {held : Bool} {k : IntKind} {a : Int} {T : TypeId} (hu : P.underlying T = some (.int k)) (h : (Lit.int k a).wf = true) : ∃ n, DataW.trod enc P w base spare held n T [.int k a] = some (.lit (.int k a), []) := ⟨1, by simp [DataW.trod, hu, h]⟩
theorem own : ownKnob Try.prog.godebug = none := by kernel_rfl
set_option linter.unusedVariables false in
set_option maxRecDepth 100000 in
theorem lifted (os : Os) (started : os.Started) (H : Type) (enc : TypeId × Value → H) :
    ReturnsInHanded {} Try.checked os 6 .any (Rows.dayAgesSpec.pre6 enc Try.prog Try.f6 Rows.dayAgesRow.domain false) (Rows.dayAgesSpec.post enc Try.prog Try.f6 false true false false) := by
  refine returnsInHanded_of_change (C := Try.checked) own started (by kernel_rfl) Try.func6
    (ChangeSpec.witness6 (enc := enc) (C := Try.checked) false ⟨#[], #[.agg #[.int .i64 0, .int .i64 0, .int .i64 0], .agg #[.int .i64 0, .int .i64 0, .int .i64 0]], []⟩ 8 (by kernel_rfl) (by kernel_rfl) (by kernel_rfl) (by kernel_rfl)) ?_
  intro W base args ds gs before hval0 hW hcnd _
  have hval : ∀ (j : Nat) t v, Try.f6.params[j]? = some t → args[j]? = some v → Value.okWide Try.prog W .any base t v := hval0
  have hW' := hW
  obtain ⟨p, q, hA0, hV, rfl, hfz, hnd⟩ := hW
  have hA : DataW.TrodAll enc Try.prog W 0 (fun _ => true) true Try.f6.params.toList args.toList ds p := hA0
  rw [Try.params6] at hA hval
  obtain ⟨v0, vs0, d0, ds0, p0, q0, hargs, rfl, rfl, h0, r0⟩ := trodAll_cons hA
  obtain ⟨v1, vs1, d1, ds1, p1, q1, rfl, rfl, rfl, h1, r1⟩ := trodAll_cons r0
  obtain ⟨rfl, rfl, rfl⟩ := trodAll_nil r1
  obtain rfl : args = #[v0, v1] := by cases args; simp_all
  obtain ⟨rfl, rfl⟩ := trodVars_none hV
  obtain ⟨c00, c01, c02, y00, y01, y02, m0, rfl, rfl, rfl, hy00, hy01, hy02⟩ := Joins.open_agg3 Try.underlying23 (by kernel_rfl) cells23 (hval 0 23 v0 rfl rfl) h0
  obtain ⟨a00, e00, rfl, w00⟩ := DataW.trod_int Try.underlying3 hy00
  obtain ⟨a01, e01, rfl, w01⟩ := DataW.trod_int Try.underlying3 hy01
  obtain ⟨a02, e02, rfl, w02⟩ := DataW.trod_int Try.underlying3 hy02
  simp at e00 e01 e02
  subst e00 e01 e02
  obtain ⟨c10, c11, c12, y10, y11, y12, m1, rfl, rfl, rfl, hy10, hy11, hy12⟩ := Joins.open_agg3 Try.underlying23 (by kernel_rfl) cells23 (hval 1 23 v1 rfl rfl) h1
  obtain ⟨a10, e10, rfl, w10⟩ := DataW.trod_int Try.underlying3 hy10
  obtain ⟨a11, e11, rfl, w11⟩ := DataW.trod_int Try.underlying3 hy11
  obtain ⟨a12, e12, rfl, w12⟩ := DataW.trod_int Try.underlying3 hy12
  simp at e10 e11 e12
  subst e10 e11 e12
  clear hA0 hval0
  simp only [List.append_nil] at hW'
  refine (walk a00 a01 a02 a10 a11 a12 W w00 w01 w02 w10 w11 w12).mono fun e W' ⟨he, bel⟩ => ?_
  subst he
  exact ⟨_, rfl, _, _, _, [], _, [], hW', trodAll_mk1 (shut_bool Try.underlying4 _), (trodAll_cons_mk (Joins.shut_agg3 (y0 := (.lit (.int .i64 a00), [])) (y1 := (.lit (.int .i64 a01), [])) (y2 := (.lit (.int .i64 a02), [])) Try.underlying23 (by kernel_rfl) cells23 (one_int Try.underlying3 w00) (one_int Try.underlying3 w01) (one_int Try.underlying3 w02)) (trodAll_cons_mk (Joins.shut_agg3 (y0 := (.lit (.int .i64 a10), [])) (y1 := (.lit (.int .i64 a11), [])) (y2 := (.lit (.int .i64 a12), [])) Try.underlying23 (by kernel_rfl) cells23 (one_int Try.underlying3 w10) (one_int Try.underlying3 w11) (one_int Try.underlying3 w12)) trodAll_mk0)), rfl, bel.frame _, fun h => by cases h⟩
theorem over : Rows.dayAgesRow.holds Try.pinned (OpenSpec.ofChange Rows.dayAgesSpec) :=
  OpenClaim.holds_of_wide 6 Try.f6 rfl rfl rfl rfl rfl rfl rfl ⟨rfl, rfl, rfl, rfl, rfl⟩ rfl rfl rfl rfl rfl (by kernel_rfl) Try.func6 (by kernel_rfl)
    (of_decide_eq_true (by kernel_rfl)) (by unfold Func.isWrapper; first | (rw [if_pos (by decide +kernel)]; kernel_rfl) | (rw [if_neg (by decide +kernel)]; exact ⟨rfl, rfl⟩))
    (fun os started H enc _ => lifted os started H enc)
/-- The statement. -/
theorem proved : Rows.DayAgesSaid := over
#print axioms proved
end Go.Proofs.Ytkgaonblgclfcaa.dayAges
namespace Go.Proofs.Ytkgaonblgclfcaa
theorem dayAges_holds : Rows.DayAgesSaid := dayAges.proved
end Go.Proofs.Ytkgaonblgclfcaa
