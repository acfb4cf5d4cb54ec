/- Proved here: CountMonths: whole months are thirty days each of Thirty, if the day is not beyond the 28th. No condition. -/
import Derived.Test.YthlakemoiicdfaaAlive
import Derived.WalkKit
import Derived.WalkSpells
import Derived.Lib.SmallJoins
import Derived.ProofKit
import Derived.OpenShut
import Derived.ShutString
import Derived.ChangeOld
import Derived.Below
namespace Go.Proofs.Ythlakemoiicdfaa.countMonths
open Go.ChangeShapes Go.WideShapes Go.ChangeAt Go.RowKit
open Dy (Froms R3 Valid build3 ds from_no from_ok num)
set_option linter.unusedSimpArgs false
def Good (y m d : Int) (K : Nat) (w : World) : Prop := Calls Try.prog 7 #[.agg #[.int .i64 y, .int .i64 m, .int .i64 d], .int .u8 (K : Int)] w fun e w' => e = .returned (.bool true) ∧ Below w.heap.size w w'
theorem from_some (y m d : Int) (w : World) : Calls Try.prog 15 #[.agg #[.int .i64 y, .int .i64 m, .int .i64 d]] w fun z w' => ∃ v e : Int, z = .returned (.tuple #[.int .i64 v, .int .i64 e]) ∧ Below w.heap.size w w' := by
  by_cases h : Valid y m d
  · exact (from_ok h w).mono fun z w' hz => ⟨_, _, hz⟩
  · exact (from_no h w).mono fun z w' hz => ⟨_, _, hz⟩
set_option maxRecDepth 20000 in
set_option maxHeartbeats 4000000 in
theorem go_a (y m d : Int) (K : Nat) (w : World) (hK : (K : Int) ≤ 255) (h1 : Hid (Froms y m d 0 5)) : Good y m d K w := by
  unfold Good
  have hal := hide alive_any
  have hR := hide (R3.new w y m d)
  have hB := hide ((Below.refl w.heap.size w).alloc (Nat.le_refl _) (.cells #[.int .i64 y, .int .i64 m, .int .i64 d] 34))
  go_enter Try.func7, Try.ntmps7
  go_wp2_with fail
  generalize w.alloc (.cells #[.int .i64 y, .int .i64 m, .int .i64 d] 34) = W at hR hB ⊢
  refine (unhide hal _).mono ?_
  rintro e w1 ⟨rfl, hb⟩
  replace hR := hide ((unhide hR).keep hb (unhide hR).lt)
  replace hB := hide (below_via (unhide hB) hb)
  clear hb hal
  have c0 := (unhide hR).c0
  have c1 := (unhide hR).c1
  have c2 := (unhide hR).c2
  go_wp2_with (simp only [build3])
  clear c0 c1 c2
  refine (unhide h1 _).mono ?_
  rintro e w2 ⟨rfl, hb⟩
  replace hR := hide ((unhide hR).keep hb (unhide hR).lt)
  replace hB := hide (below_via (unhide hB) hb)
  clear hb
  have c0 := (unhide hR).c0
  have c1 := (unhide hR).c1
  have c2 := (unhide hR).c2
  go_wp2_with fail
  go_quiet (fail)
  clear c0 c1 c2
  replace hR : Hid (R3 _ _ _ _ _) := hide (show R3 (w2.drewN nq) _ _ _ _ from unhide hR)
  replace hB := hide (below_drewN (unhide hB) nq)
  generalize w2.drewN nq = wd at hR hB ⊢
  have c0 := (unhide hR).c0
  have c1 := (unhide hR).c1
  have c2 := (unhide hR).c2
  go_wp2_with (simp only [build3])
  clear c0 c1 c2
  refine (from_some _ _ _ _).mono ?_
  rintro e w3 ⟨v, e', rfl, hb⟩
  replace hR := hide ((unhide hR).keep hb (unhide hR).lt)
  replace hB := hide (below_via (unhide hB) hb)
  clear hb
  go_wp2_with fail
  go_ret
  exact ⟨rfl, unhide hB⟩
set_option maxRecDepth 20000 in
set_option maxHeartbeats 4000000 in
theorem go_b (y m d a : Int) (K : Nat) (w : World) (hK : (K : Int) ≤ 255) (y1 : 1 ≤ y) (y2 : y ≤ 9999) (m1 : 1 ≤ m) (m2 : m ≤ 12) (h1 : Hid (Froms y m d a 0)) (h2 : Hid (Froms (y + (m - 1 + K) / 12) ((m - 1 + K) % 12 + 1) d 0 5)) : Good y m d K w := by
  unfold Good
  have hal := hide alive_any
  have hR := hide (R3.new w y m d)
  have hB := hide ((Below.refl w.heap.size w).alloc (Nat.le_refl _) (.cells #[.int .i64 y, .int .i64 m, .int .i64 d] 34))
  go_enter Try.func7, Try.ntmps7
  go_wp2_with fail
  generalize w.alloc (.cells #[.int .i64 y, .int .i64 m, .int .i64 d] 34) = W at hR hB ⊢
  refine (unhide hal _).mono ?_
  rintro e w1 ⟨rfl, hb⟩
  replace hR := hide ((unhide hR).keep hb (unhide hR).lt)
  replace hB := hide (below_via (unhide hB) hb)
  clear hb hal
  have c0 := (unhide hR).c0
  have c1 := (unhide hR).c1
  have c2 := (unhide hR).c2
  go_wp2_with (simp only [build3])
  clear c0 c1 c2
  refine (unhide h1 _).mono ?_
  rintro e w2 ⟨rfl, hb⟩
  replace hR := hide ((unhide hR).keep hb (unhide hR).lt)
  replace hB := hide (below_via (unhide hB) hb)
  clear hb
  have c0 := (unhide hR).c0
  have c1 := (unhide hR).c1
  have c2 := (unhide hR).c2
  go_wp2_with fail
  go_quiet (fail)
  clear c0 c1 c2
  replace hR : Hid (R3 _ _ _ _ _) := hide (show R3 (w2.drewN nq) _ _ _ _ from unhide hR)
  replace hB := hide (below_drewN (unhide hB) nq)
  generalize w2.drewN nq = wd at hR hB ⊢
  have c0 := (unhide hR).c0
  have c1 := (unhide hR).c1
  have c2 := (unhide hR).c2
  go_wp2_with (simp only [build3])
  clear c0 c1 c2
  refine (unhide h2 _).mono ?_
  rintro e w3 ⟨rfl, hb⟩
  replace hR := hide ((unhide hR).keep hb (unhide hR).lt)
  replace hB := hide (below_via (unhide hB) hb)
  clear hb
  go_wp2_with fail
  go_ret
  exact ⟨rfl, unhide hB⟩
set_option maxRecDepth 20000 in
set_option maxHeartbeats 4000000 in
theorem go_c (y m d a b : Int) (K : Nat) (w : World) (hK : (K : Int) ≤ 255) (y1 : 1 ≤ y) (y2 : y ≤ 9999) (m1 : 1 ≤ m) (m2 : m ≤ 12) (t1 : decide (28 < d) = true) (h1 : Hid (Froms y m d a 0)) (h2 : Hid (Froms (y + (m - 1 + K) / 12) ((m - 1 + K) % 12 + 1) d b 0)) : Good y m d K w := by
  unfold Good
  have hal := hide alive_any
  have hR := hide (R3.new w y m d)
  have hB := hide ((Below.refl w.heap.size w).alloc (Nat.le_refl _) (.cells #[.int .i64 y, .int .i64 m, .int .i64 d] 34))
  go_enter Try.func7, Try.ntmps7
  go_wp2_with fail
  generalize w.alloc (.cells #[.int .i64 y, .int .i64 m, .int .i64 d] 34) = W at hR hB ⊢
  refine (unhide hal _).mono ?_
  rintro e w1 ⟨rfl, hb⟩
  replace hR := hide ((unhide hR).keep hb (unhide hR).lt)
  replace hB := hide (below_via (unhide hB) hb)
  clear hb hal
  have c0 := (unhide hR).c0
  have c1 := (unhide hR).c1
  have c2 := (unhide hR).c2
  go_wp2_with (simp only [build3])
  clear c0 c1 c2
  refine (unhide h1 _).mono ?_
  rintro e w2 ⟨rfl, hb⟩
  replace hR := hide ((unhide hR).keep hb (unhide hR).lt)
  replace hB := hide (below_via (unhide hB) hb)
  clear hb
  have c0 := (unhide hR).c0
  have c1 := (unhide hR).c1
  have c2 := (unhide hR).c2
  go_wp2_with fail
  go_quiet (fail)
  clear c0 c1 c2
  replace hR : Hid (R3 _ _ _ _ _) := hide (show R3 (w2.drewN nq) _ _ _ _ from unhide hR)
  replace hB := hide (below_drewN (unhide hB) nq)
  generalize w2.drewN nq = wd at hR hB ⊢
  have c0 := (unhide hR).c0
  have c1 := (unhide hR).c1
  have c2 := (unhide hR).c2
  go_wp2_with (simp only [build3])
  clear c0 c1 c2
  refine (unhide h2 _).mono ?_
  rintro e w3 ⟨rfl, hb⟩
  replace hR := hide ((unhide hR).keep hb (unhide hR).lt)
  replace hB := hide (below_via (unhide hB) hb)
  clear hb
  have c0 := (unhide hR).c0
  have c1 := (unhide hR).c1
  have c2 := (unhide hR).c2
  go_wp2_with fail
  go_ret
  exact ⟨rfl, unhide hB⟩
set_option maxRecDepth 20000 in
set_option maxHeartbeats 4000000 in
theorem go_d (y m d a b : Int) (K : Nat) (w : World) (hK : (K : Int) ≤ 255) (y1 : 1 ≤ y) (y2 : y ≤ 9999) (m1 : 1 ≤ m) (m2 : m ≤ 12) (t1 : decide (28 < d) = false) (h1 : Hid (Froms y m d a 0)) (h2 : Hid (Froms (y + (m - 1 + K) / 12) ((m - 1 + K) % 12 + 1) d b 0)) (h3 : Hid (DaysA a b 1 (30 * K) 0)) : Good y m d K w := by
  unfold Good
  have hal := hide alive_any
  have hR := hide (R3.new w y m d)
  have hB := hide ((Below.refl w.heap.size w).alloc (Nat.le_refl _) (.cells #[.int .i64 y, .int .i64 m, .int .i64 d] 34))
  go_enter Try.func7, Try.ntmps7
  go_wp2_with fail
  generalize w.alloc (.cells #[.int .i64 y, .int .i64 m, .int .i64 d] 34) = W at hR hB ⊢
  refine (unhide hal _).mono ?_
  rintro e w1 ⟨rfl, hb⟩
  replace hR := hide ((unhide hR).keep hb (unhide hR).lt)
  replace hB := hide (below_via (unhide hB) hb)
  clear hb hal
  have c0 := (unhide hR).c0
  have c1 := (unhide hR).c1
  have c2 := (unhide hR).c2
  go_wp2_with (simp only [build3])
  clear c0 c1 c2
  refine (unhide h1 _).mono ?_
  rintro e w2 ⟨rfl, hb⟩
  replace hR := hide ((unhide hR).keep hb (unhide hR).lt)
  replace hB := hide (below_via (unhide hB) hb)
  clear hb
  have c0 := (unhide hR).c0
  have c1 := (unhide hR).c1
  have c2 := (unhide hR).c2
  go_wp2_with fail
  go_quiet (fail)
  clear c0 c1 c2
  replace hR : Hid (R3 _ _ _ _ _) := hide (show R3 (w2.drewN nq) _ _ _ _ from unhide hR)
  replace hB := hide (below_drewN (unhide hB) nq)
  generalize w2.drewN nq = wd at hR hB ⊢
  have c0 := (unhide hR).c0
  have c1 := (unhide hR).c1
  have c2 := (unhide hR).c2
  go_wp2_with (simp only [build3])
  clear c0 c1 c2
  refine (unhide h2 _).mono ?_
  rintro e w3 ⟨rfl, hb⟩
  replace hR := hide ((unhide hR).keep hb (unhide hR).lt)
  replace hB := hide (below_via (unhide hB) hb)
  clear hb
  have c0 := (unhide hR).c0
  have c1 := (unhide hR).c1
  have c2 := (unhide hR).c2
  go_wp2_with (simp only [build3])
  refine (unhide h3 _).mono ?_
  rintro e w4 ⟨rfl, hb⟩
  replace hR := hide ((unhide hR).keep hb (unhide hR).lt)
  replace hB := hide (below_via (unhide hB) hb)
  clear hb
  go_wp2_with fail
  go_ret
  exact ⟨rfl, unhide hB⟩
theorem bounds_u8 {a : Int} (h : (Lit.int .u8 a).wf = true) : 0 ≤ a ∧ a ≤ 255 := by
  simp only [Lit.wf, IntKind.min, IntKind.max, IntKind.signed, IntKind.bits, Bool.and_eq_true, decide_eq_true_eq] at h
  exact ⟨by have := h.1; simp at this; omega, by have := h.2; simp at this; omega⟩
theorem walk (y m d k : Int) (w : World) (_wy : (Lit.int .i64 y).wf = true) (_wm : (Lit.int .i64 m).wf = true) (_wd : (Lit.int .i64 d).wf = true) (wk : (Lit.int .u8 k).wf = true) : Calls Try.prog 7 #[.agg #[.int .i64 y, .int .i64 m, .int .i64 d], .int .u8 k] w fun e w' => e = .returned (.bool true) ∧ Below w.heap.size w w' := by
  have hk := bounds_u8 wk
  obtain ⟨K, rfl⟩ : ∃ K : Nat, k = (K : Int) := ⟨k.toNat, by omega⟩
  have hK := hk.2
  by_cases hv : Valid y m d
  · by_cases hn : Valid (y + (m - 1 + K) / 12) ((m - 1 + K) % 12 + 1) d
    · by_cases hd : 28 < d
      · exact go_c y m d _ _ K w hK hv.y1 hv.y2 hv.m1 hv.m2 (decide_eq_true hd) (hide (from_ok hv)) (hide (from_ok hn))
      · have b1 := fp_bd hv
        have b2 := fp_bd hn
        have m1 := hv.m1
        have m2 := hv.m2
        have hD : DaysA (num y m d) (num (y + (m - 1 + K) / 12) ((m - 1 + K) % 12 + 1) d) 1 (30 * K) 0 := by
          have h := days_1 _ _ _ _ (by omega) (by omega) (by omega) (by omega) (hide (flat_ok hv)) (hide (flat_ok hn))
          rwa [show fp (y + (m - 1 + K) / 12) ((m - 1 + K) % 12 + 1) d - fp y m d = 30 * K from by unfold fp; rw [if_neg (by omega)]; omega] at h
        exact go_d y m d _ _ K w hK hv.y1 hv.y2 hv.m1 hv.m2 (decide_eq_false hd) (hide (from_ok hv)) (hide (from_ok hn)) (hide hD)
    · exact go_b y m d _ K w hK hv.y1 hv.y2 hv.m1 hv.m2 (hide (from_ok hv)) (hide (from_no hn))
  · exact go_a y m d K w hK (hide (from_no hv))
theorem cells34 : Try.prog.cellsOf 34 = 3 := by kernel_rfl
theorem one_int {H : Type} {enc : TypeId × Value → H} {P : Program} {w : World} {base : Nat} {spare : Nat → Bool} {held : Bool} {k : IntKind} {a : Int} {T : TypeId} (hu : P.underlying T = some (.int k)) (h : (Lit.int k a).wf = true) : ∃ n, DataW.trod enc P w base spare held n T [.int k a] = some (.lit (.int k a), []) := ⟨1, by simp [DataW.trod, hu, h]⟩
theorem own : ownKnob Try.prog.godebug = none := by kernel_rfl
set_option linter.unusedVariables false in
set_option maxRecDepth 100000 in
theorem lifted (os : Os) (started : os.Started) (H : Type) (enc : TypeId × Value → H) :
    ReturnsInHanded {} Try.checked os 7 .any (Rows.countMonthsSpec.pre6 enc Try.prog Try.f7 Rows.countMonthsRow.domain false) (Rows.countMonthsSpec.post enc Try.prog Try.f7 false true false false) := by
  refine returnsInHanded_of_change (C := Try.checked) own started (by kernel_rfl) Try.func7
    (ChangeSpec.witness6 (enc := enc) (C := Try.checked) false ⟨#[], #[.agg #[.int .i64 0, .int .i64 0, .int .i64 0], .int .u8 0], []⟩ 8 (by kernel_rfl) (by kernel_rfl) (by kernel_rfl) (by kernel_rfl)) ?_
  intro W base args ds gs before hval0 hW hcnd _
  have hval : ∀ (j : Nat) t v, Try.f7.params[j]? = some t → args[j]? = some v → Value.okWide Try.prog W .any base t v := hval0
  have hW' := hW
  obtain ⟨p, q, hA0, hV, rfl, hfz, hnd⟩ := hW
  have hA : DataW.TrodAll enc Try.prog W 0 (fun _ => true) true Try.f7.params.toList args.toList ds p := hA0
  rw [Try.params7] at hA hval
  obtain ⟨v0, vs0, d0, ds0, p0, q0, hargs, rfl, rfl, h0, r0⟩ := trodAll_cons hA
  obtain ⟨v1, vs1, d1, ds1, p1, q1, rfl, rfl, rfl, h1, r1⟩ := trodAll_cons r0
  obtain ⟨rfl, rfl, rfl⟩ := trodAll_nil r1
  obtain rfl : args = #[v0, v1] := by cases args; simp_all
  obtain ⟨rfl, rfl⟩ := trodVars_none hV
  obtain ⟨c00, c01, c02, y00, y01, y02, m0, rfl, rfl, rfl, hy00, hy01, hy02⟩ := Joins.open_agg3 Try.underlying34 (by kernel_rfl) cells34 (hval 0 34 v0 rfl rfl) h0
  obtain ⟨a00, e00, rfl, w00⟩ := DataW.trod_int Try.underlying3 hy00
  obtain ⟨a01, e01, rfl, w01⟩ := DataW.trod_int Try.underlying3 hy01
  obtain ⟨a02, e02, rfl, w02⟩ := DataW.trod_int Try.underlying3 hy02
  simp at e00 e01 e02
  subst e00 e01 e02
  obtain ⟨a1, rfl, rfl, rfl, w1⟩ := open_int Try.underlying5 (hval 1 5 v1 rfl rfl) h1
  clear hA0 hval0
  simp only [List.append_nil] at hW'
  refine (walk a00 a01 a02 a1 W w00 w01 w02 w1).mono fun e W' ⟨he, bel⟩ => ?_
  subst he
  exact ⟨_, rfl, _, _, _, [], _, [], hW', trodAll_mk1 (shut_bool Try.underlying4 _), (trodAll_cons_mk (Joins.shut_agg3 (y0 := (.lit (.int .i64 a00), [])) (y1 := (.lit (.int .i64 a01), [])) (y2 := (.lit (.int .i64 a02), [])) Try.underlying34 (by kernel_rfl) cells34 (one_int Try.underlying3 w00) (one_int Try.underlying3 w01) (one_int Try.underlying3 w02)) (trodAll_cons_mk (shut_int Try.underlying5 w1) trodAll_mk0)), rfl, bel.frame _, fun h => by cases h⟩
theorem over : Rows.countMonthsRow.holds Try.pinned (OpenSpec.ofChange Rows.countMonthsSpec) :=
  OpenClaim.holds_of_wide 7 Try.f7 rfl rfl rfl rfl rfl rfl rfl ⟨rfl, rfl, rfl, rfl, rfl⟩ rfl rfl rfl rfl rfl (by kernel_rfl) Try.func7 (by kernel_rfl)
    (of_decide_eq_true (by kernel_rfl)) (by unfold Func.isWrapper; first | (rw [if_pos (by decide +kernel)]; kernel_rfl) | (rw [if_neg (by decide +kernel)]; exact ⟨rfl, rfl⟩))
    (fun os started H enc _ => lifted os started H enc)
/-- The statement. -/
theorem proved : Rows.CountMonthsSaid := over
#print axioms proved
end Go.Proofs.Ythlakemoiicdfaa.countMonths
namespace Go.Proofs.Ythlakemoiicdfaa
theorem countMonths_holds : Rows.CountMonthsSaid := countMonths.proved
end Go.Proofs.Ythlakemoiicdfaa
