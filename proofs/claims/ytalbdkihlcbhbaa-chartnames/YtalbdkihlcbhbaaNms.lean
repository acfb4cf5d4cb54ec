/- Proved here: ChartNames: each account has a name, that is its own; no other number has one. No condition. -/
import Derived.Test.YtalbdkihlcbhbaaAl
import Derived.Test.YtalbdkihlcbhbaaAr
import Derived.Deep.QuietTactic
import Derived.BigQuiet
namespace Go.Proofs.Ytalbdkihlcbhbaa.chartNames
open Go.ChangeShapes Go.WideShapes Go.ChangeAt Go.RowKit
set_option linter.unusedVariables false
set_option linter.unusedSimpArgs false
theorem str_some {s : ByteArray} (h : ¬ s = ⟨#[]⟩) : ¬ s.toList = [] := by
  rw [ByteArray.toList_eq]
  intro e
  exact h (by cases s; simp at e; rw [e])
theorem name_empty (n : Int) : accB n = false → accN n = ⟨#[]⟩ := fun h => by unfold accN; rw [h]; rfl
theorem name_there {k : Nat} (h : k < 7) : ¬ nmB k = ⟨#[]⟩ ∧ accI (nmB k) = (k : Int) + 1 := by
  refine ⟨?_, accI_yes h⟩
  match k, h with
  | 0, _ => decide
  | 1, _ => decide
  | 2, _ => decide
  | 3, _ => decide
  | 4, _ => decide
  | 5, _ => decide
  | 6, _ => decide
theorem accN_at {k : Nat} (h : k < 7) : accN ((k : Int) + 1) = nmB k := by unfold accN; rw [accB_yes h, show ((k : Int) + 1 - 1).toNat = k by omega]; rfl
theorem accI_or (z : ByteArray) : accI z = 0 ∨ ∃ k : Nat, k < 7 ∧ z = nmB k ∧ accI z = (k : Int) + 1 := by
  by_cases h : ∃ k : Nat, k < 7 ∧ z = nmB k
  · obtain ⟨k, hk, rfl⟩ := h
    exact .inr ⟨k, hk, rfl, accI_yes hk⟩
  · exact .inl (accI_no (fun j hj e => h ⟨j, hj, e.symm⟩))
/-- The second half: a name that has an account is that account's name. -/
theorem back_name (z : ByteArray) : accA (accI z) = 0 ∨ accN (accA (accI z)) = z := by
  rcases accI_or z with h | ⟨k, hk, rfl, h⟩
  · left; rw [h]; rfl
  · right
    rw [h, accA, if_pos (accB_yes hk), accN_at hk]
set_option maxHeartbeats 2000000 in
theorem walk (a : Int) (z : ByteArray) (w : World) (ia : In64 a) : Calls Try.prog 7 #[.int .i64 a, .string z] w fun e w' => e = .returned (.bool true) ∧ Below w.heap.size w w' := by
  have HA := hide (alive_any w)
  have HN := hide (fun n W => name_any n W)
  have HT := hide (fun s W => acct_any s W)
  have i1 := ia.lo
  have i2 := ia.hi
  have HZ := hide (back_name z)
  have HF : Hid (accB a = false ∨ ∃ k : Nat, k < 7 ∧ a = (k : Int) + 1) := hide (by
    cases h : accB a with
    | false => exact .inl rfl
    | true => unfold accB at h; simp at h; exact .inr ⟨(a - 1).toNat, by omega, by omega⟩)
  have e0 : (({ data := #[] } : ByteArray).toList == ({ data := #[] } : ByteArray).toList) = true := str_eq _
  go_enter Try.func7, Try.ntmps7
  go_wp2_with fail
  refine (unhide HA).mono ?_
  rintro e w1 ⟨rfl, hb⟩
  have HB := hide hb
  clear hb HA
  go_wp2_with fail
  refine (unhide HN _ _).mono ?_
  rintro e w2 ⟨rfl, hb⟩
  replace HB := hide (below_via (unhide HB) hb)
  clear hb
  rcases unhide HF with hB | ⟨k, hk, rfl⟩
  · rw [name_empty a hB]
    have hB' := hB
    unfold accB at hB'
    simp only [Bool.and_eq_false_iff, decide_eq_false_iff_not] at hB'
    clear hB HF
    by_cases h1 : a < 1
    · have d1 : decide (1 ≤ a) = false := decide_eq_false (by omega)
      clear hB'
      go_wp2_with fail
      refine (unhide HT _ _).mono ?_
      rintro e w4 ⟨rfl, hb⟩
      replace HB := hide (below_via (unhide HB) hb)
      clear hb HT
      generalize accA (accI z) = A at *
      by_cases h0 : A = 0
      · subst h0
        clear HZ HN
        go_wp2_with fail
        go_ret
        exact ⟨rfl, unhide HB⟩
      · have hz : Hid (accN A = z) := hide ((unhide HZ).resolve_left h0)
        have d0 : (A == 0) = false := by simpa using h0
        clear HZ
        go_wp2_with fail
        refine (unhide HN _ _).mono ?_
        rw [unhide hz]
        rintro e w5 ⟨rfl, hb⟩
        replace HB := hide (below_via (unhide HB) hb)
        clear hb HN hz
        have dz := str_eq z
        go_wp2_with fail
        go_ret
        exact ⟨rfl, unhide HB⟩
    · have d1 : decide (1 ≤ a) = true := decide_eq_true (by omega)
      have d2 : decide (a ≤ 7) = false := decide_eq_false (by omega)
      clear hB'
      go_wp2_with fail
      refine (unhide HT _ _).mono ?_
      rintro e w4 ⟨rfl, hb⟩
      replace HB := hide (below_via (unhide HB) hb)
      clear hb HT
      generalize accA (accI z) = A at *
      by_cases h0 : A = 0
      · subst h0
        clear HZ HN
        go_wp2_with fail
        go_ret
        exact ⟨rfl, unhide HB⟩
      · have hz : Hid (accN A = z) := hide ((unhide HZ).resolve_left h0)
        have d0 : (A == 0) = false := by simpa using h0
        clear HZ
        go_wp2_with fail
        refine (unhide HN _ _).mono ?_
        rw [unhide hz]
        rintro e w5 ⟨rfl, hb⟩
        replace HB := hide (below_via (unhide HB) hb)
        clear hb HN hz
        have dz := str_eq z
        go_wp2_with fail
        go_ret
        exact ⟨rfl, unhide HB⟩
  · rw [accN_at hk]
    obtain ⟨hs, hI⟩ := name_there hk
    have hA : Hid (accA (accI (nmB k)) = (k : Int) + 1) := hide (by rw [hI, accA, if_pos (accB_yes hk)])
    have d1 : decide (1 ≤ (k : Int) + 1) = true := decide_eq_true (by omega)
    have d2 : decide ((k : Int) + 1 ≤ 7) = true := decide_eq_true (by omega)
    have ds := str_some hs
    have de : (nmB k).toList.isEmpty = false := by simpa using ds
    have db : ∀ x : Int, (x != x) = false := fun x => by simp
    clear HF hs hI hk
    generalize nmB k = s at *
    generalize (k : Int) + 1 = a at *
    go_wp2_with fail
    refine (unhide HT _ _).mono ?_
    rw [unhide hA]
    rintro e w3 ⟨rfl, hb⟩
    replace HB := hide (below_via (unhide HB) hb)
    clear hb hA
    go_wp2_with fail
    refine (unhide HT _ _).mono ?_
    rintro e w4 ⟨rfl, hb⟩
    replace HB := hide (below_via (unhide HB) hb)
    clear hb HT
    generalize accA (accI z) = A at *
    by_cases h0 : A = 0
    · subst h0
      clear HZ HN
      go_wp2_with fail
      go_ret
      exact ⟨rfl, unhide HB⟩
    · have hz : Hid (accN A = z) := hide ((unhide HZ).resolve_left h0)
      have d0 : (A == 0) = false := by simpa using h0
      clear HZ
      go_wp2_with fail
      refine (unhide HN _ _).mono ?_
      rw [unhide hz]
      rintro e w5 ⟨rfl, hb⟩
      replace HB := hide (below_via (unhide HB) hb)
      clear hb HN hz
      have dz := str_eq z
      go_wp2_with fail
      go_ret
      exact ⟨rfl, unhide HB⟩
theorem own : ownKnob Try.prog.godebug = none := by kernel_rfl
theorem laidOut : laidOutB Try.prog = true := by kernel_rfl
set_option linter.unusedVariables false in
set_option maxRecDepth 100000 in
theorem lifted (os : Os) (started : os.Started) (H : Type) (enc : TypeId × Value → H) :
    ReturnsInHanded {} Try.checked os 7 .any (Rows.chartNamesSpec.pre6 enc Try.prog Try.f7 Rows.chartNamesRow.domain false) (Rows.chartNamesSpec.post enc Try.prog Try.f7 false true false false) := by
  refine returnsInHanded_of_change (C := Try.checked) own started (by kernel_rfl) Try.func7
    (ChangeSpec.witness6 (enc := enc) (C := Try.checked) false ⟨#[], #[.int .i64 0, .string ⟨#[]⟩], []⟩ 8 (by kernel_rfl) (by kernel_rfl) (by kernel_rfl) (by kernel_rfl)) ?_
  intro W base args ds gs before hval0 hW hcnd _
  have hval : ∀ (j : Nat) t v, Try.f7.params[j]? = some t → args[j]? = some v → Value.okWide Try.prog W .any base t v := hval0
  have hW' := hW
  obtain ⟨p, q, hA0, hV, rfl, hfz, hnd⟩ := hW
  have hA : DataW.TrodAll enc Try.prog W 0 (fun _ => true) true Try.f7.params.toList args.toList ds p := hA0
  rw [Try.params7] at hA hval
  obtain ⟨v0, vs0, d0, ds0, p0, q0, hargs, rfl, rfl, h0, r0⟩ := trodAll_cons hA
  obtain ⟨v1, vs1, d1, ds1, p1, q1, rfl, rfl, rfl, h1, r1⟩ := trodAll_cons r0
  obtain ⟨rfl, rfl, rfl⟩ := trodAll_nil r1
  obtain rfl : args = #[v0, v1] := by cases args; simp_all
  obtain ⟨rfl, rfl⟩ := trodVars_none hV
  have k0 := h0
  have lt0 : ∀ x ∈ p0, x.block < W.heap.size := by obtain ⟨m, hm⟩ := k0; exact DataW.trod_lt m _ _ _ hm
  obtain ⟨n0, rfl, i0⟩ : ∃ n : Int, v0 = .int .i64 n ∧ In64 n := by
    obtain ⟨n, rfl⟩ := okWide_int Try.underlying3 (hval 0 3 v0 rfl rfl)
    obtain ⟨m, hm⟩ := h0
    obtain ⟨z, e, _, w⟩ := DataW.trod_int Try.underlying3 (by simpa [Value.cells] using hm)
    simp at e
    subst e
    exact ⟨_, rfl, in64_of w⟩
  have k1 := h1
  have lt1 : ∀ x ∈ p1, x.block < W.heap.size := by obtain ⟨m, hm⟩ := k1; exact DataW.trod_lt m _ _ _ hm
  obtain ⟨s1, rfl⟩ : ∃ s : ByteArray, v1 = .string s := by
    obtain ⟨s, e, _⟩ := Go.ChangeMaps.open_string Try.underlying9 (hval 1 9 v1 rfl rfl) h1
    exact ⟨s, e⟩
  clear hA0 hval0
  refine (walk n0 s1 W i0).mono fun e W' ⟨he, bel⟩ => ?_
  subst he
  exact ⟨_, rfl, _, _, _, [], _, [], hW', trodAll_mk1 (shut_bool Try.underlying4 _), (trodAll_cons_mk (Below.trod laidOut (by kernel_rfl) (of_decide_eq_true (by kernel_rfl)) k0 bel lt0) (trodAll_cons_mk (Below.trod laidOut (by kernel_rfl) (of_decide_eq_true (by kernel_rfl)) k1 bel lt1) trodAll_mk0)), rfl, bel.frame _, fun h => by cases h⟩
theorem over : Rows.chartNamesRow.holds Try.pinned (OpenSpec.ofChange Rows.chartNamesSpec) :=
  OpenClaim.holds_of_wide 7 Try.f7 rfl rfl rfl rfl rfl rfl rfl ⟨rfl, rfl, rfl, rfl, rfl⟩ rfl rfl rfl rfl rfl (by kernel_rfl) Try.func7 (by kernel_rfl)
    (of_decide_eq_true (by kernel_rfl)) (by unfold Func.isWrapper; first | (rw [if_pos (by decide +kernel)]; kernel_rfl) | (rw [if_neg (by decide +kernel)]; exact ⟨rfl, rfl⟩))
    (fun os started H enc _ => lifted os started H enc)
theorem proved : Rows.ChartNamesSaid := over
end Go.Proofs.Ytalbdkihlcbhbaa.chartNames
namespace Go.Proofs.Ytalbdkihlcbhbaa
theorem chartNames_holds : Rows.ChartNamesSaid := chartNames.proved
end Go.Proofs.Ytalbdkihlcbhbaa
