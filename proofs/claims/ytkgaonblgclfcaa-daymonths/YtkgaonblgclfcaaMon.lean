/- Proved here: DayMonths: a year's months have its days, together; each month's first is the day behind the last one's last. No condition. -/
import Derived.Test.YtkgaonblgclfcaaAlive
import Derived.WalkKit
import Derived.WalkSpells
import Derived.Lib.SmallJoins
import Derived.ProofKit
import Derived.OpenShut
import Derived.ShutString
import Derived.ChangeOld
import Derived.Below
namespace Go.Proofs.Ytkgaonblgclfcaa.dayMonths
open Go.ChangeShapes Go.WideShapes Go.ChangeAt Go.RowKit
set_option linter.unusedSimpArgs false
def Good (a : Nat) (w : World) : Prop := Calls Try.prog 7 #[.int .u16 a] w fun e w' => e = .returned (.bool true) ∧ Below w.heap.size w w'
set_option maxHeartbeats 2000000 in
theorem go (a : Nat) (ha : (a : Int) ≤ 65535) (r D e : Int) (L : Bool) (w : World) (hr : (a : Int) % 9999 = r) (_hr1 : 0 ≤ r) (_hr2 : r ≤ 9998) (hD1 : 0 ≤ D) (hD2 : D ≤ 3652059) (hP : Hid (Froms r 12 31 D e))
    (hF : Hid (∀ k : Nat, 1 ≤ k → k ≤ 12 → Froms (r + 1) k 1 (D + mo L k + 1) 0)) (hL : Hid (∀ k : Nat, Q 17 #[.int .i64 (r + 1), .int .i64 k] (.int .i64 (len L k)))) (hl : Hid (Q 15 #[.int .i64 (r + 1)] (.bool L))) : Good a w := by
  unfold Good
  have hal := hide alive_any
  go_enter Try.func7, Try.ntmps7
  go_wp2_with fail
  refine (unhide hal _).mono ?_
  rintro e w1 ⟨rfl, hb1⟩
  replace hb1 := hide hb1
  clear hal
  go_wp2_with (rw [build3])
  refine (unhide hP _).mono ?_
  rintro e w2 ⟨rfl, hb2⟩
  replace hb2 := hide (below_via (unhide hb1) hb2)
  clear hb1
  go_wp2_with fail
  go_loopw [4, 5, 7] (fun s l i wr => ∃ (k : Nat), 1 ≤ k ∧ k ≤ 13 ∧ s = .int .i64 (mo L k) ∧ l = .int .i64 (D + mo L k) ∧ i = .int .i64 k ∧ Hid (Below w.heap.size w wr)) (fun _ _ i _ => 13 - (intOf i).toNat)
  case atStart => exact ⟨1, by omega, by omega, by rw [mo_one], by rw [mo_one, Int.add_zero], rfl, hb2⟩
  case round =>
    obtain ⟨k, hk1, hk2, rfl, rfl, rfl, HB⟩ := hrel
    by_cases hlt : k ≤ 12
    · have hlt' : decide ((k : Int) ≤ 12) = true := decide_eq_true (by omega)
      have hf := hide (unhide hF k hk1 hlt)
      have hln := hide (unhide hL k)
      have b1 := mo_nonneg L (k := k) (by omega)
      have b2 := mo_lt L (k := k) (j := 13) (by omega) (by omega)
      rw [mo_end] at b2
      have b3 := yl_bd L
      have b4 := len_bd L k
      have s1 : wrap64 (mo L k + len L k) = mo L k + len L k := wrap_in ⟨by omega, by omega⟩
      have s2 : wrap64 (D + mo L k + 1) = D + mo L k + 1 := wrap_in ⟨by omega, by omega⟩
      have s3 : wrap64 (D + mo L k + 1 + len L k) = D + mo L k + 1 + len L k := wrap_in ⟨by omega, by omega⟩
      have s4 : wrap64 (D + mo L k + 1 + len L k - 1) = D + (mo L k + len L k) := by rw [wrap_in ⟨by omega, by omega⟩]; omega
      have hs : Hid (mo L (k + 1) = mo L k + len L k) := hide (mo_step L k)
      clear b1 b2 b3 b4 hF hL
      generalize mo L k = S at *
      generalize len L k = l at *
      go_wp2_with (rw [build3])
      refine (unhide hf _).mono ?_
      rintro e w3 ⟨rfl, hb3⟩
      replace hb3 := hide (below_via (unhide HB) hb3)
      clear HB
      go_wp2_with fail
      refine (unhide hln _).mono ?_
      rintro e w4 ⟨rfl, rfl⟩
      go_wp2_with fail
      go_roundw
      case rel => exact ⟨k + 1, by omega, by omega, by rw [s1, unhide hs], by rw [s4, unhide hs], by go_num, hb3⟩
      case measure => simp [intOf]; omega
    · have hk : k = 13 := by omega
      have hlt' : decide ((k : Int) ≤ 12) = false := decide_eq_false (by omega)
      rw [hk] at hlt'
      subst hk
      rw [mo_end]
      clear hF hL hP
      cases L
      · rw [show yl false = 365 from rfl]
        go_wp2_with fail
        refine (unhide hl _).mono ?_
        rintro e w3 ⟨rfl, rfl⟩
        go_wp2_with fail
        go_ret
        exact ⟨rfl, unhide HB⟩
      · rw [show yl true = 366 from rfl]
        go_wp2_with fail
        refine (unhide hl _).mono ?_
        rintro e w3 ⟨rfl, rfl⟩
        go_wp2_with fail
        go_ret
        exact ⟨rfl, unhide HB⟩
theorem walk (a : Int) (w : World) (wa : (Lit.int .u16 a).wf = true) : Calls Try.prog 7 #[.int .u16 a] w fun e w' => e = .returned (.bool true) ∧ Below w.heap.size w w' := by
  have hb := bounds_u16 wa
  obtain ⟨n, rfl⟩ : ∃ n : Nat, a = (n : Int) := ⟨a.toNat, by omega⟩
  obtain ⟨Y, hY⟩ : ∃ Y, Y = (n : Int) % 9999 + 1 := ⟨_, rfl⟩
  have y1 : 1 ≤ Y := by omega
  have y2 : Y ≤ 9999 := by omega
  have d1 := ds_mono (y := 0) (z := Y - 1) (by omega)
  have d2 := ds_mono (y := Y - 1) (z := 9999) (by omega)
  rw [ds_zero] at d1
  rw [show ds 9999 = 3652059 from by decide] at d2
  have hL : ∀ k : Nat, Q 17 #[.int .i64 Y, .int .i64 k] (.int .i64 (len (leap Y) k)) := fun k => by
    have := last_any Y k
    rwa [last_in y1 y2] at this
  have hF : ∀ k : Nat, 1 ≤ k → k ≤ 12 → Froms Y k 1 (ds (Y - 1) + mo (leap Y) k + 1) 0 := fun k h1 h2 => by
    have h3 := len_pos (leap Y) (m := (k : Int)) (by omega) (by omega)
    have h := from_ok (y := Y) (m := k) (d := 1) ⟨y1, y2, by omega, by omega, by omega, by omega⟩
    unfold num at h
    rwa [Int.toNat_natCast] at h
  have hP : ∃ e, Froms (Y - 1) 12 31 (ds (Y - 1)) e := by
    by_cases c : Y = 1
    · refine ⟨5, ?_⟩
      rw [c]
      exact from_no (fun h => absurd h.y1 (by omega))
    · refine ⟨0, ?_⟩
      have h := from_ok (y := Y - 1) (m := 12) (d := 31) ⟨by omega, by omega, by omega, by omega, by omega, by cases leap (Y - 1) <;> decide⟩
      have e2 : num (Y - 1) 12 31 = ds (Y - 1) := by
        rw [ds_step (Y - 1)]
        unfold num
        generalize leap (Y - 1) = L
        cases L <;> (rw [show mo _ (12 : Int).toNat = _ from rfl]; simp [mo, len, yl]; omega)
      rwa [e2] at h
  obtain ⟨f, hP⟩ := hP
  rw [show Y - 1 = (n : Int) % 9999 from by omega] at hP hF d1 d2
  rw [hY] at hF hL
  have hl := leap_any Y
  rw [hY] at hl
  exact go n (by omega) _ _ f _ w rfl (by omega) (by omega) d1 d2 (hide hP) (hide hF) (hide hL) (hide hl)
theorem own : ownKnob Try.prog.godebug = none := by kernel_rfl
set_option linter.unusedVariables false in
set_option maxRecDepth 100000 in
theorem lifted (os : Os) (started : os.Started) (H : Type) (enc : TypeId × Value → H) :
    ReturnsInHanded {} Try.checked os 7 .any (Rows.dayMonthsSpec.pre6 enc Try.prog Try.f7 Rows.dayMonthsRow.domain false) (Rows.dayMonthsSpec.post enc Try.prog Try.f7 false true false false) := by
  refine returnsInHanded_of_change (C := Try.checked) own started (by kernel_rfl) Try.func7
    (ChangeSpec.witness6 (enc := enc) (C := Try.checked) false ⟨#[], #[.int .u16 0], []⟩ 8 (by kernel_rfl) (by kernel_rfl) (by kernel_rfl) (by kernel_rfl)) ?_
  intro W base args ds gs before hval0 hW hcnd _
  have hval : ∀ (j : Nat) t v, Try.f7.params[j]? = some t → args[j]? = some v → Value.okWide Try.prog W .any base t v := hval0
  have hW' := hW
  obtain ⟨p, q, hA0, hV, rfl, hfz, hnd⟩ := hW
  have hA : DataW.TrodAll enc Try.prog W 0 (fun _ => true) true Try.f7.params.toList args.toList ds p := hA0
  rw [Try.params7] at hA hval
  obtain ⟨v0, vs0, d0, ds0, p0, q0, hargs, rfl, rfl, h0, r0⟩ := trodAll_cons hA
  obtain ⟨rfl, rfl, rfl⟩ := trodAll_nil r0
  obtain rfl : args = #[v0] := by cases args; simp_all
  obtain ⟨rfl, rfl⟩ := trodVars_none hV
  obtain ⟨a0, rfl, rfl, rfl, w0⟩ := open_int Try.underlying39 (hval 0 39 v0 rfl rfl) h0
  clear hA0 hval0
  simp only [List.append_nil] at hW'
  refine (walk a0 W w0).mono fun e W' ⟨he, bel⟩ => ?_
  subst he
  exact ⟨_, rfl, _, _, _, [], _, [], hW', trodAll_mk1 (shut_bool Try.underlying4 _), (trodAll_cons_mk (shut_int Try.underlying39 w0) trodAll_mk0), rfl, bel.frame _, fun h => by cases h⟩
theorem over : Rows.dayMonthsRow.holds Try.pinned (OpenSpec.ofChange Rows.dayMonthsSpec) :=
  OpenClaim.holds_of_wide 7 Try.f7 rfl rfl rfl rfl rfl rfl rfl ⟨rfl, rfl, rfl, rfl, rfl⟩ rfl rfl rfl rfl rfl (by kernel_rfl) Try.func7 (by kernel_rfl)
    (of_decide_eq_true (by kernel_rfl)) (by unfold Func.isWrapper; first | (rw [if_pos (by decide +kernel)]; kernel_rfl) | (rw [if_neg (by decide +kernel)]; exact ⟨rfl, rfl⟩))
    (fun os started H enc _ => lifted os started H enc)
/-- The statement. -/
theorem proved : Rows.DayMonthsSaid := over
#print axioms proved
end Go.Proofs.Ytkgaonblgclfcaa.dayMonths
namespace Go.Proofs.Ytkgaonblgclfcaa
theorem dayMonths_holds : Rows.DayMonthsSaid := dayMonths.proved
end Go.Proofs.Ytkgaonblgclfcaa
