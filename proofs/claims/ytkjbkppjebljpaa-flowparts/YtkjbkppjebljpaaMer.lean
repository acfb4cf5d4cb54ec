/- What the program's Merge answers. -/
import Derived.Test.YtkjbkppjebljpaaMrg
import Derived.Test.YtkjbkppjebljpaaRMrg
namespace Go.Proofs.Ytkjbkppjebljpaa
open Go.RowKit
set_option linter.unusedSimpArgs false
set_option maxRecDepth 20000 in
set_option maxHeartbeats 1000000 in
theorem merge_core (v u : Value) (a b : List (Int × Int)) (w : World) (ha : RowF w v a) (hb : RowF w u b) (T : Two a b) (hca : Hid (ChkOk 18 v a)) (hcb : Hid (ChkOk 18 u b)) :
    Calls Try.prog 10 #[v, u] w fun e w' => MAns w a b e w' := by
  have HA := hide ha
  have HB := hide hb
  have HT := hide T
  have HL : Hid ((mrg a b).length ≤ 10000) := hide (by have := mrg_len a b; have := T.la; have := T.lb; omega)
  have HL2 : Hid ((both a b).length ≤ 10000) := hide (by have := nz_len (mrg a b); have := unhide HL; unfold both; omega)
  have HC1 : Hid (noOver (both a b) = false → MRes a b 3 []) := hide (fun h => Or.inl ⟨h, rfl, rfl⟩)
  have HC2 : Hid (noOver (both a b) = true → 600 < (both a b).length → MRes a b 10 []) := hide (fun h h2 => Or.inr (Or.inl ⟨h, h2, rfl, rfl⟩))
  have HC3 : Hid (noOver (both a b) = true → ¬ 600 < (both a b).length → MRes a b 0 (both a b)) := hide (fun h h2 => Or.inr (Or.inr ⟨h, by omega, rfl, rfl⟩))
  clear ha hb T
  go_enter Try.func10, Try.ntmps10
  go_wp2_with fail
  refine (unhide hca _ (unhide HA)).mono ?_
  rintro e w1 ⟨rfl, hb1⟩
  replace HA := hide ((unhide HA).keep hb1)
  replace HB := hide ((unhide HB).keep hb1)
  replace hb1 := hide hb1
  go_wp2_with fail
  refine (unhide hcb _ (unhide HB)).mono ?_
  rintro e w2 ⟨rfl, hb2⟩
  replace HA := hide ((unhide HA).keep hb2)
  replace HB := hide ((unhide HB).keep hb2)
  replace hb1 := hide (below_via (unhide hb1) hb2)
  clear hb2
  go_wp2_with fail
  refine (merge_any v u a b w2 (unhide HA) (unhide HB) (by have := (unhide HT).la; have := (unhide HT).lb; omega) (fun f hf => ((unhide HT).ma f hf).2) (fun f hf => ((unhide HT).mb f hf).2)).mono ?_
  rintro e w3 ⟨x1, rfl, g1⟩
  replace g1 := hide g1
  clear HA HB HT hca hcb
  go_wp2_with fail
  refine (del_any x1 (mrg a b) w2 w3 (unhide g1) (unhide HL)).mono ?_
  rintro e w4 ⟨x2, rfl, g2⟩
  replace g2 : Hid (GrowF 39 w2 w4 x2 (both a b)) := hide g2
  clear g1 HL
  obtain ⟨xa, xc, ex⟩ := rowF_slice (unhide g2).row
  subst ex
  cases hn : noOver (both a b) with
  | false =>
    have HF : Hid (∀ w : World, RowF w (.slice xa (both a b).length xc) (both a b) → Calls Try.prog 29 #[.slice xa (both a b).length xc, .func (.func 30) #[] #[]] w fun e w' => e = .returned (.bool true) ∧ Below w.heap.size w w') := hide (fun w h => by have := contains_any _ _ w h (unhide HL2); rwa [hn] at this)
    replace HC1 := hide (unhide HC1 hn)
    clear hn HC2 HC3
    go_wp2_with fail
    refine (unhide HF _ (unhide g2).row).mono ?_
    rintro e w5 ⟨rfl, hb5⟩
    replace hb1 := hide (below_via (below_via (unhide hb1) (unhide g2).below) hb5)
    clear hb5 HF
    go_wp2_with fail
    go_ret2
    exact mans_no (unhide HC1) (unhide hb1)
  | true =>
    have HF : Hid (∀ w : World, RowF w (.slice xa (both a b).length xc) (both a b) → Calls Try.prog 29 #[.slice xa (both a b).length xc, .func (.func 30) #[] #[]] w fun e w' => e = .returned (.bool false) ∧ Below w.heap.size w w') := hide (fun w h => by have := contains_any _ _ w h (unhide HL2); rwa [hn] at this)
    replace HC2 := hide (unhide HC2 hn)
    replace HC3 := hide (unhide HC3 hn)
    clear hn HC1
    go_wp2_with fail
    refine (unhide HF _ (unhide g2).row).mono ?_
    rintro e w5 ⟨rfl, hb5⟩
    have HR := hide ((unhide g2).row.keep hb5)
    replace hb1 := hide (below_via (below_via (unhide hb1) (unhide g2).below) hb5)
    clear hb5 HF
    by_cases q : 600 < (both a b).length
    · replace HC2 := hide (unhide HC2 q)
      have q1 : decide (600 < ((both a b).length : Int)) = true := decide_eq_true (by omega)
      go_wp2_with fail
      go_ret2
      exact mans_no (unhide HC2) (unhide hb1)
    · replace HC3 := hide (unhide HC3 q)
      have q1 : decide (600 < ((both a b).length : Int)) = false := decide_eq_false (by omega)
      go_wp2_with fail
      go_ret2
      exact ⟨_, _, _, rfl, unhide HR, unhide HC3, unhide hb1⟩
theorem merge_a (v u : Value) (c : Int) (w : World) (hc : (c != 0) = true) (hca : Hid (Calls Try.prog 18 #[v] w fun e w' => e = .returned (.int .i64 c) ∧ Below w.heap.size w w')) : Calls Try.prog 10 #[v, u] w fun e w' => e = .returned (.tuple #[.slice none 0 0, .int .i64 c]) ∧ Below w.heap.size w w' := by
  go_enter Try.func10, Try.ntmps10
  go_wp2_with fail
  refine (unhide hca).mono ?_
  rintro e w1 ⟨rfl, hb1⟩
  replace hb1 := hide hb1
  go_wp2_with fail
  go_ret2
  exact ⟨rfl, unhide hb1⟩
theorem merge_b (v u : Value) (c : Int) (w : World) (hc : (c != 0) = true) (hca : Hid (Calls Try.prog 18 #[v] w fun e w' => e = .returned (.int .i64 0) ∧ Below w.heap.size w w')) (hcb : Hid (∀ w' : World, Below w.heap.size w w' → Calls Try.prog 18 #[u] w' fun e w'' => e = .returned (.int .i64 c) ∧ Below w'.heap.size w' w'')) : Calls Try.prog 10 #[v, u] w fun e w' => e = .returned (.tuple #[.slice none 0 0, .int .i64 c]) ∧ Below w.heap.size w w' := by
  go_enter Try.func10, Try.ntmps10
  go_wp2_with fail
  refine (unhide hca).mono ?_
  rintro e w1 ⟨rfl, hb1⟩
  have hcb2 := hide (unhide hcb w1 hb1)
  replace hb1 := hide hb1
  clear hcb
  go_wp2_with fail
  refine (unhide hcb2).mono ?_
  rintro e w2 ⟨rfl, hb2⟩
  replace hb1 := hide (below_via (unhide hb1) hb2)
  clear hb2
  go_wp2_with fail
  go_ret2
  exact ⟨rfl, unhide hb1⟩
theorem merge_all (v u : Value) (a b : List (Int × Int)) (w : World) (ha : RowF w v a) (hb : RowF w u b) : MergeA 10 v u a b w := by
  by_cases h1 : chkE a = 0
  · by_cases h2 : chkE b = 0
    · refine (merge_core v u a b w ha hb (two_of h1 h2) (hide fun w h => by have := check_any v a w h; rwa [h1] at this) (hide fun w h => by have := check_any u b w h; rwa [h2] at this)).mono ?_
      rintro e w' ⟨x, en, l, rfl, hr, hm, hbl⟩
      obtain ⟨rfl, rfl⟩ := hm.same h1 h2
      exact ⟨x, rfl, hr, hbl⟩
    · refine (merge_b v u (chkE b) w (by simpa using h2) (hide (by have := check_any v a w ha; rwa [h1] at this)) (hide fun w' hbl => check_any u b w' (hb.keep hbl))).mono ?_
      rintro e w' ⟨rfl, hbl⟩
      rw [(mE_b h1 h2).1, (mE_b h1 h2).2]
      exact ⟨_, rfl, rowF_nil w', hbl⟩
  · refine (merge_a v u (chkE a) w (by simpa using h1) (hide (check_any v a w ha))).mono ?_
    rintro e w' ⟨rfl, hbl⟩
    rw [(mE_a h1).1, (mE_a h1).2]
    exact ⟨_, rfl, rowF_nil w', hbl⟩
end Go.Proofs.Ytkjbkppjebljpaa
