/- Proved here: CountYears: from a date to the same one of the next year there are 360 days of Thirty, and 365 or 366 others; from a month to the next one 30. No condition. -/
import Derived.Test.YthlakemoiicdfaaAlive
import Derived.WalkKit
import Derived.WalkSpells
import Derived.Lib.SmallJoins
import Derived.ProofKit
import Derived.OpenShut
import Derived.ShutString
import Derived.ChangeOld
import Derived.Below
namespace Go.Proofs.Ythlakemoiicdfaa.countYears
open Go.ChangeShapes Go.WideShapes Go.ChangeAt Go.RowKit
open Dy (Froms R3 Valid build3 ds ds_step from_no from_ok leap len_pos mo num num_range year)
set_option linter.unusedSimpArgs false
def Good (y m d : Int) (w : World) : Prop := Calls Try.prog 5 #[.agg #[.int .i64 y, .int .i64 m, .int .i64 d]] w fun e w' => e = .returned (.bool true) ∧ Below w.heap.size w w'
theorem from_some (y m d : Int) (w : World) : Calls Try.prog 15 #[.agg #[.int .i64 y, .int .i64 m, .int .i64 d]] w fun z w' => ∃ v e : Int, z = .returned (.tuple #[.int .i64 v, .int .i64 e]) ∧ Below w.heap.size w w' := by
  by_cases h : Valid y m d
  · exact (from_ok h w).mono fun z w' hz => ⟨_, _, hz⟩
  · exact (from_no h w).mono fun z w' hz => ⟨_, _, hz⟩
theorem mo_diff : ∀ k : Fin 14, mo true k.val - mo false k.val = 0 ∨ mo true k.val - mo false k.val = 1 := by decide +kernel
theorem year_next {y m d : Int} (h : Valid y m d) : num (y + 1) m d - num y m d = 365 ∨ num (y + 1) m d - num y m d = 366 := by
  obtain ⟨y1, y2, m1, m2, d1, d2⟩ := h
  unfold num
  rw [show y + 1 - 1 = y from by omega, ds_step y]
  have e := mo_diff ⟨m.toNat, by omega⟩
  simp only at e
  cases leap y <;> cases leap (y + 1)
  · exact Or.inl (by show _ + (365 : Int) + _ + _ - _ = _; omega)
  · show _ + (365 : Int) + _ + _ - _ = _ ∨ _ + (365 : Int) + _ + _ - _ = _
    omega
  · show _ + (366 : Int) + _ + _ - _ = _ ∨ _ + (366 : Int) + _ + _ - _ = _
    omega
  · exact Or.inr (by show _ + (366 : Int) + _ + _ - _ = _; omega)
set_option maxRecDepth 20000 in
set_option maxHeartbeats 4000000 in
theorem go_a (y m d : Int) (w : World) (h1 : Hid (Froms y m d 0 5)) : Good y m d w := by
  unfold Good
  have hal := hide alive_any
  have hR := hide (R3.new w y m d)
  have hB := hide ((Below.refl w.heap.size w).alloc (Nat.le_refl _) (.cells #[.int .i64 y, .int .i64 m, .int .i64 d] 34))
  go_enter Try.func5, Try.ntmps5
  go_wp2_with fail
  generalize w.alloc (.cells #[.int .i64 y, .int .i64 m, .int .i64 d] 34) = W at hR hB ⊢
  refine (unhide hal _).mono ?_
  rintro e w1 ⟨rfl, hb⟩
  replace hR := hide ((unhide hR).keep hb (unhide hR).lt)
  replace hB := hide (below_via (unhide hB) hb)
  clear hb hal
  have c0 := (unhide hR).c0
  have c1 := (unhide hR).c1
  have c2 := (unhide hR).c2
  go_wp2_with (simp only [build3])
  clear c0 c1 c2
  refine (unhide h1 _).mono ?_
  rintro e w2 ⟨rfl, hb⟩
  replace hR := hide ((unhide hR).keep hb (unhide hR).lt)
  replace hB := hide (below_via (unhide hB) hb)
  clear hb
  have c0 := (unhide hR).c0
  have c1 := (unhide hR).c1
  have c2 := (unhide hR).c2
  go_wp2_with (simp only [build3])
  clear c0 c1 c2
  refine (from_some _ _ _ _).mono ?_
  rintro e w3 ⟨v, e', rfl, hb⟩
  replace hR := hide ((unhide hR).keep hb (unhide hR).lt)
  replace hB := hide (below_via (unhide hB) hb)
  clear hb
  go_wp2_with fail
  go_ret
  exact ⟨rfl, unhide hB⟩
set_option maxRecDepth 20000 in
set_option maxHeartbeats 4000000 in
theorem go_b (y m d a : Int) (w : World) (y1 : 1 ≤ y) (y2 : y ≤ 9999) (h1 : Hid (Froms y m d a 0)) (h2 : Hid (Froms (y + 1) m d 0 5)) : Good y m d w := by
  unfold Good
  have hal := hide alive_any
  have hR := hide (R3.new w y m d)
  have hB := hide ((Below.refl w.heap.size w).alloc (Nat.le_refl _) (.cells #[.int .i64 y, .int .i64 m, .int .i64 d] 34))
  go_enter Try.func5, Try.ntmps5
  go_wp2_with fail
  generalize w.alloc (.cells #[.int .i64 y, .int .i64 m, .int .i64 d] 34) = W at hR hB ⊢
  refine (unhide hal _).mono ?_
  rintro e w1 ⟨rfl, hb⟩
  replace hR := hide ((unhide hR).keep hb (unhide hR).lt)
  replace hB := hide (below_via (unhide hB) hb)
  clear hb hal
  have c0 := (unhide hR).c0
  have c1 := (unhide hR).c1
  have c2 := (unhide hR).c2
  go_wp2_with (simp only [build3])
  clear c0 c1 c2
  refine (unhide h1 _).mono ?_
  rintro e w2 ⟨rfl, hb⟩
  replace hR := hide ((unhide hR).keep hb (unhide hR).lt)
  replace hB := hide (below_via (unhide hB) hb)
  clear hb
  have c0 := (unhide hR).c0
  have c1 := (unhide hR).c1
  have c2 := (unhide hR).c2
  go_wp2_with (simp only [build3])
  clear c0 c1 c2
  refine (unhide h2 _).mono ?_
  rintro e w3 ⟨rfl, hb⟩
  replace hR := hide ((unhide hR).keep hb (unhide hR).lt)
  replace hB := hide (below_via (unhide hB) hb)
  clear hb
  go_wp2_with fail
  go_ret
  exact ⟨rfl, unhide hB⟩
set_option maxRecDepth 20000 in
set_option maxHeartbeats 4000000 in
theorem go_c (y m d a b f n : Int) (w : World) (y1 : 1 ≤ y) (y2 : y ≤ 9999) (m1 : 1 ≤ m) (m2 : m ≤ 12) (h1 : Hid (Froms y m d a 0)) (h2 : Hid (Froms (y + 1) m d b 0)) (h3 : Hid (DaysA a b 1 360 0)) (h4 : Hid (DaysA a b 3 365 0)) (h5 : Hid (DaysA a b 2 365 0)) (h6 : Hid (Froms y m 1 f 0)) (h7 : Hid (Froms (y + m / 12) (m % 12 + 1) 1 n 0)) (h8 : Hid (DaysA f n 1 30 0)) : Good y m d w := by
  unfold Good
  have hal := hide alive_any
  have hR := hide (R3.new w y m d)
  have hB := hide ((Below.refl w.heap.size w).alloc (Nat.le_refl _) (.cells #[.int .i64 y, .int .i64 m, .int .i64 d] 34))
  go_enter Try.func5, Try.ntmps5
  go_wp2_with fail
  generalize w.alloc (.cells #[.int .i64 y, .int .i64 m, .int .i64 d] 34) = W at hR hB ⊢
  refine (unhide hal _).mono ?_
  rintro e w1 ⟨rfl, hb⟩
  replace hR := hide ((unhide hR).keep hb (unhide hR).lt)
  replace hB := hide (below_via (unhide hB) hb)
  clear hb hal
  have c0 := (unhide hR).c0
  have c1 := (unhide hR).c1
  have c2 := (unhide hR).c2
  go_wp2_with (simp only [build3])
  clear c0 c1 c2
  refine (unhide h1 _).mono ?_
  rintro e w2 ⟨rfl, hb⟩
  replace hR := hide ((unhide hR).keep hb (unhide hR).lt)
  replace hB := hide (below_via (unhide hB) hb)
  clear hb
  have c0 := (unhide hR).c0
  have c1 := (unhide hR).c1
  have c2 := (unhide hR).c2
  go_wp2_with (simp only [build3])
  clear c0 c1 c2
  refine (unhide h2 _).mono ?_
  rintro e w3 ⟨rfl, hb⟩
  replace hR := hide ((unhide hR).keep hb (unhide hR).lt)
  replace hB := hide (below_via (unhide hB) hb)
  clear hb
  go_wp2_with (simp only [build3])
  refine (unhide h3 _).mono ?_
  rintro e w4 ⟨rfl, hb⟩
  replace hR := hide ((unhide hR).keep hb (unhide hR).lt)
  replace hB := hide (below_via (unhide hB) hb)
  clear hb
  go_wp2_with (simp only [build3])
  refine (unhide h4 _).mono ?_
  rintro e w5 ⟨rfl, hb⟩
  replace hR := hide ((unhide hR).keep hb (unhide hR).lt)
  replace hB := hide (below_via (unhide hB) hb)
  clear hb
  go_wp2_with (simp only [build3])
  refine (unhide h5 _).mono ?_
  rintro e w6 ⟨rfl, hb⟩
  replace hR := hide ((unhide hR).keep hb (unhide hR).lt)
  replace hB := hide (below_via (unhide hB) hb)
  clear hb
  have c0 := (unhide hR).c0
  have c1 := (unhide hR).c1
  have c2 := (unhide hR).c2
  go_wp2_with (simp only [build3])
  clear c0 c1 c2
  refine (unhide h6 _).mono ?_
  rintro e w7 ⟨rfl, hb⟩
  replace hR := hide ((unhide hR).keep hb (unhide hR).lt)
  replace hB := hide (below_via (unhide hB) hb)
  clear hb
  have c0 := (unhide hR).c0
  have c1 := (unhide hR).c1
  have c2 := (unhide hR).c2
  go_wp2_with (simp only [build3])
  clear c0 c1 c2
  refine (unhide h7 _).mono ?_
  rintro e w8 ⟨rfl, hb⟩
  replace hR := hide ((unhide hR).keep hb (unhide hR).lt)
  replace hB := hide (below_via (unhide hB) hb)
  clear hb
  go_wp2_with (simp only [build3])
  refine (unhide h8 _).mono ?_
  rintro e w9 ⟨rfl, hb⟩
  replace hR := hide ((unhide hR).keep hb (unhide hR).lt)
  replace hB := hide (below_via (unhide hB) hb)
  clear hb
  go_wp2_with fail
  go_ret
  exact ⟨rfl, unhide hB⟩
set_option maxRecDepth 20000 in
set_option maxHeartbeats 4000000 in
theorem go_d (y m d a b f n : Int) (w : World) (y1 : 1 ≤ y) (y2 : y ≤ 9999) (m1 : 1 ≤ m) (m2 : m ≤ 12) (h1 : Hid (Froms y m d a 0)) (h2 : Hid (Froms (y + 1) m d b 0)) (h3 : Hid (DaysA a b 1 360 0)) (h4 : Hid (DaysA a b 3 366 0)) (h5 : Hid (DaysA a b 2 366 0)) (h6 : Hid (Froms y m 1 f 0)) (h7 : Hid (Froms (y + m / 12) (m % 12 + 1) 1 n 0)) (h8 : Hid (DaysA f n 1 30 0)) : Good y m d w := by
  unfold Good
  have hal := hide alive_any
  have hR := hide (R3.new w y m d)
  have hB := hide ((Below.refl w.heap.size w).alloc (Nat.le_refl _) (.cells #[.int .i64 y, .int .i64 m, .int .i64 d] 34))
  go_enter Try.func5, Try.ntmps5
  go_wp2_with fail
  generalize w.alloc (.cells #[.int .i64 y, .int .i64 m, .int .i64 d] 34) = W at hR hB ⊢
  refine (unhide hal _).mono ?_
  rintro e w1 ⟨rfl, hb⟩
  replace hR := hide ((unhide hR).keep hb (unhide hR).lt)
  replace hB := hide (below_via (unhide hB) hb)
  clear hb hal
  have c0 := (unhide hR).c0
  have c1 := (unhide hR).c1
  have c2 := (unhide hR).c2
  go_wp2_with (simp only [build3])
  clear c0 c1 c2
  refine (unhide h1 _).mono ?_
  rintro e w2 ⟨rfl, hb⟩
  replace hR := hide ((unhide hR).keep hb (unhide hR).lt)
  replace hB := hide (below_via (unhide hB) hb)
  clear hb
  have c0 := (unhide hR).c0
  have c1 := (unhide hR).c1
  have c2 := (unhide hR).c2
  go_wp2_with (simp only [build3])
  clear c0 c1 c2
  refine (unhide h2 _).mono ?_
  rintro e w3 ⟨rfl, hb⟩
  replace hR := hide ((unhide hR).keep hb (unhide hR).lt)
  replace hB := hide (below_via (unhide hB) hb)
  clear hb
  go_wp2_with (simp only [build3])
  refine (unhide h3 _).mono ?_
  rintro e w4 ⟨rfl, hb⟩
  replace hR := hide ((unhide hR).keep hb (unhide hR).lt)
  replace hB := hide (below_via (unhide hB) hb)
  clear hb
  go_wp2_with (simp only [build3])
  refine (unhide h4 _).mono ?_
  rintro e w5 ⟨rfl, hb⟩
  replace hR := hide ((unhide hR).keep hb (unhide hR).lt)
  replace hB := hide (below_via (unhide hB) hb)
  clear hb
  go_wp2_with (simp only [build3])
  refine (unhide h5 _).mono ?_
  rintro e w6 ⟨rfl, hb⟩
  replace hR := hide ((unhide hR).keep hb (unhide hR).lt)
  replace hB := hide (below_via (unhide hB) hb)
  clear hb
  have c0 := (unhide hR).c0
  have c1 := (unhide hR).c1
  have c2 := (unhide hR).c2
  go_wp2_with (simp only [build3])
  clear c0 c1 c2
  refine (unhide h6 _).mono ?_
  rintro e w7 ⟨rfl, hb⟩
  replace hR := hide ((unhide hR).keep hb (unhide hR).lt)
  replace hB := hide (below_via (unhide hB) hb)
  clear hb
  have c0 := (unhide hR).c0
  have c1 := (unhide hR).c1
  have c2 := (unhide hR).c2
  go_wp2_with (simp only [build3])
  clear c0 c1 c2
  refine (unhide h7 _).mono ?_
  rintro e w8 ⟨rfl, hb⟩
  replace hR := hide ((unhide hR).keep hb (unhide hR).lt)
  replace hB := hide (below_via (unhide hB) hb)
  clear hb
  go_wp2_with (simp only [build3])
  refine (unhide h8 _).mono ?_
  rintro e w9 ⟨rfl, hb⟩
  replace hR := hide ((unhide hR).keep hb (unhide hR).lt)
  replace hB := hide (below_via (unhide hB) hb)
  clear hb
  go_wp2_with fail
  go_ret
  exact ⟨rfl, unhide hB⟩
theorem one_valid {y m : Int} (h1 : 1 ≤ y) (h2 : y ≤ 9999) (h3 : 1 ≤ m) (h4 : m ≤ 12) : Valid y m 1 := ⟨h1, h2, h3, h4, by omega, by have := len_pos (leap y) h3 h4; omega⟩
theorem walk (y m d : Int) (w : World) (_wy : (Lit.int .i64 y).wf = true) (_wm : (Lit.int .i64 m).wf = true) (_wd : (Lit.int .i64 d).wf = true) : Calls Try.prog 5 #[.agg #[.int .i64 y, .int .i64 m, .int .i64 d]] w fun e w' => e = .returned (.bool true) ∧ Below w.heap.size w w' := by
  by_cases hv : Valid y m d
  · by_cases hn : Valid (y + 1) m d
    · have h1 := flat_ok hv
      have h2 := flat_ok hn
      have b1 := fp_bd hv
      have b2 := fp_bd hn
      have r1 := num_range hv
      have r2 := num_range hn
      have hD : DaysA (num y m d) (num (y + 1) m d) 1 360 0 := by
        have h := days_1 _ _ _ _ (by omega) (by omega) (by omega) (by omega) (hide h1) (hide h2)
        rwa [show fp (y + 1) m d - fp y m d = 360 from by unfold fp; omega] at h
      have h3 := days_3 _ _ _ _ (by omega) (by omega) (by omega) (by omega) (hide (real_ok _ r1.1 r1.2)) (hide (real_ok _ r2.1 r2.2))
      have h4 := days_2 _ _ _ _ (by omega) (by omega) (by omega) (by omega) (hide (real_ok _ r1.1 r1.2)) (hide (real_ok _ r2.1 r2.2))
      have v1 := one_valid hv.y1 hv.y2 hv.m1 hv.m2
      have m1 := hv.m1
      have m2 := hv.m2
      have y1 := hv.y1
      have y2 := hn.y2
      have v2 : Valid (y + m / 12) (m % 12 + 1) 1 := one_valid (by omega) (by omega) (by omega) (by omega)
      have b3 := fp_bd v1
      have b4 := fp_bd v2
      have hM : DaysA (num y m 1) (num (y + m / 12) (m % 12 + 1) 1) 1 30 0 := by
        have h := days_1 _ _ _ _ (by omega) (by omega) (by omega) (by omega) (hide (flat_ok v1)) (hide (flat_ok v2))
        rwa [show fp (y + m / 12) (m % 12 + 1) 1 - fp y m 1 = 30 from by unfold fp; rw [if_neg (by omega)]; omega] at h
      rcases year_next hv with e | e
      · rw [e] at h3 h4
        exact go_c y m d _ _ _ _ w hv.y1 hv.y2 hv.m1 hv.m2 (hide (from_ok hv)) (hide (from_ok hn)) (hide hD) (hide h3) (hide h4) (hide (from_ok v1)) (hide (from_ok v2)) (hide hM)
      · rw [e] at h3 h4
        exact go_d y m d _ _ _ _ w hv.y1 hv.y2 hv.m1 hv.m2 (hide (from_ok hv)) (hide (from_ok hn)) (hide hD) (hide h3) (hide h4) (hide (from_ok v1)) (hide (from_ok v2)) (hide hM)
    · exact go_b y m d _ w hv.y1 hv.y2 (hide (from_ok hv)) (hide (from_no hn))
  · exact go_a y m d w (hide (from_no hv))
theorem cells34 : Try.prog.cellsOf 34 = 3 := by kernel_rfl
theorem one_int {H : Type} {enc : TypeId × Value → H} {P : Program} {w : World} {base : Nat} {spare : Nat → Bool} {held : Bool} {k : IntKind} {a : Int} {T : TypeId} (hu : P.underlying T = some (.int k)) (h : (Lit.int k a).wf = true) : ∃ n, DataW.trod enc P w base spare held n T [.int k a] = some (.lit (.int k a), []) := ⟨1, by simp [DataW.trod, hu, h]⟩
theorem own : ownKnob Try.prog.godebug = none := by kernel_rfl
set_option linter.unusedVariables false in
set_option maxRecDepth 100000 in
theorem lifted (os : Os) (started : os.Started) (H : Type) (enc : TypeId × Value → H) :
    ReturnsInHanded {} Try.checked os 5 .any (Rows.countYearsSpec.pre6 enc Try.prog Try.f5 Rows.countYearsRow.domain false) (Rows.countYearsSpec.post enc Try.prog Try.f5 false true false false) := by
  refine returnsInHanded_of_change (C := Try.checked) own started (by kernel_rfl) Try.func5
    (ChangeSpec.witness6 (enc := enc) (C := Try.checked) false ⟨#[], #[.agg #[.int .i64 0, .int .i64 0, .int .i64 0]], []⟩ 8 (by kernel_rfl) (by kernel_rfl) (by kernel_rfl) (by kernel_rfl)) ?_
  intro W base args ds gs before hval0 hW hcnd _
  have hval : ∀ (j : Nat) t v, Try.f5.params[j]? = some t → args[j]? = some v → Value.okWide Try.prog W .any base t v := hval0
  have hW' := hW
  obtain ⟨p, q, hA0, hV, rfl, hfz, hnd⟩ := hW
  have hA : DataW.TrodAll enc Try.prog W 0 (fun _ => true) true Try.f5.params.toList args.toList ds p := hA0
  rw [Try.params5] at hA hval
  obtain ⟨v0, vs0, d0, ds0, p0, q0, hargs, rfl, rfl, h0, r0⟩ := trodAll_cons hA
  obtain ⟨rfl, rfl, rfl⟩ := trodAll_nil r0
  obtain rfl : args = #[v0] := by cases args; simp_all
  obtain ⟨rfl, rfl⟩ := trodVars_none hV
  obtain ⟨c00, c01, c02, y00, y01, y02, m0, rfl, rfl, rfl, hy00, hy01, hy02⟩ := Joins.open_agg3 Try.underlying34 (by kernel_rfl) cells34 (hval 0 34 v0 rfl rfl) h0
  obtain ⟨a00, e00, rfl, w00⟩ := DataW.trod_int Try.underlying3 hy00
  obtain ⟨a01, e01, rfl, w01⟩ := DataW.trod_int Try.underlying3 hy01
  obtain ⟨a02, e02, rfl, w02⟩ := DataW.trod_int Try.underlying3 hy02
  simp at e00 e01 e02
  subst e00 e01 e02
  clear hA0 hval0
  simp only [List.append_nil] at hW'
  refine (walk a00 a01 a02 W w00 w01 w02).mono fun e W' ⟨he, bel⟩ => ?_
  subst he
  exact ⟨_, rfl, _, _, _, [], _, [], hW', trodAll_mk1 (shut_bool Try.underlying4 _), (trodAll_cons_mk (Joins.shut_agg3 (y0 := (.lit (.int .i64 a00), [])) (y1 := (.lit (.int .i64 a01), [])) (y2 := (.lit (.int .i64 a02), [])) Try.underlying34 (by kernel_rfl) cells34 (one_int Try.underlying3 w00) (one_int Try.underlying3 w01) (one_int Try.underlying3 w02)) trodAll_mk0), rfl, bel.frame _, fun h => by cases h⟩
theorem over : Rows.countYearsRow.holds Try.pinned (OpenSpec.ofChange Rows.countYearsSpec) :=
  OpenClaim.holds_of_wide 5 Try.f5 rfl rfl rfl rfl rfl rfl rfl ⟨rfl, rfl, rfl, rfl, rfl⟩ rfl rfl rfl rfl rfl (by kernel_rfl) Try.func5 (by kernel_rfl)
    (of_decide_eq_true (by kernel_rfl)) (by unfold Func.isWrapper; first | (rw [if_pos (by decide +kernel)]; kernel_rfl) | (rw [if_neg (by decide +kernel)]; exact ⟨rfl, rfl⟩))
    (fun os started H enc _ => lifted os started H enc)
/-- The statement. -/
theorem proved : Rows.CountYearsSaid := over
#print axioms proved
end Go.Proofs.Ythlakemoiicdfaa.countYears
namespace Go.Proofs.Ythlakemoiicdfaa
theorem countYears_holds : Rows.CountYearsSaid := countYears.proved
end Go.Proofs.Ythlakemoiicdfaa
