/- Proved here: MoneySplits: at any amount and any row of weights money's parts, or its error, are the document's. No condition. -/
import Derived.Test.YtcimppdeajhfmaaRSplit2
namespace Go.Proofs.Ytcimppdeajhfmaa.moneySplits
open Go.ChangeShapes Go.WideShapes Go.ChangeAt Go.RowKit
set_option maxHeartbeats 1000000 in
theorem walk_long (n : Int) (a : Option Addr) (len cap : Nat) (h : 1000 < len) (w : World) :
    Calls Try.prog 5 #[.int .i64 n, .slice a len cap] w fun e w' => e = .returned (.bool true) ∧ Below w.heap.size w w' := by
  have h2 : (1000 : Int) < (len : Int) := by omega
  clear h
  go_enter Try.func5, Try.ntmps5
  go_wp2_with fail
  refine (alive_any _).mono ?_
  rintro e w1 ⟨rfl, hbel⟩
  have HB := hide hbel
  clear hbel
  go_wp2_with fail
  go_ret
  exact ⟨rfl, unhide HB⟩
set_option maxHeartbeats 1000000 in
/-- Both refuse. -/
theorem walk_no (n : Int) (a : Option Addr) (len cap : Nat) (w : World) (hlen : len ≤ 1000)
    (hs : ∀ w1, Below w.heap.size w w1 → Calls Try.prog 23 #[.int .i64 n, .slice a len cap] w1 fun e w' => e = .returned (.tuple #[.slice none 0 0, .int .i64 2]) ∧ w1 = w')
    (hr : ∀ w1, Below w.heap.size w w1 → Calls Try.prog 24 #[.int .i64 n, .slice a len cap] w1 fun e w' => e = .returned (.tuple #[.slice none 0 0, .int .i64 2]) ∧ w1 = w') :
    Calls Try.prog 5 #[.int .i64 n, .slice a len cap] w fun e w' => e = .returned (.bool true) ∧ Below w.heap.size w w' := by
  have HS := hide hs
  have HR := hide hr
  have h2 : (len : Int) ≤ 1000 := by omega
  clear hs hr hlen
  go_enter Try.func5, Try.ntmps5
  go_wp2_with fail
  refine (alive_any _).mono ?_
  rintro e w1 ⟨rfl, hbel⟩
  have HB := hide hbel
  clear hbel
  go_wp2_with fail
  refine (unhide HS _ (unhide HB)).mono ?_
  rintro e w' ⟨rfl, rfl⟩
  go_wp2_with fail
  refine (unhide HR _ (unhide HB)).mono ?_
  rintro e w' ⟨rfl, rfl⟩
  go_wp2_with fail
  refine (same_yes _ _ [] _ (Or.inl ⟨none, 0, rfl, rfl⟩) (Or.inl ⟨none, 0, rfl, rfl⟩)).mono ?_
  rintro e w' ⟨rfl, m, rfl⟩
  go_wp2_with fail
  go_ret
  exact ⟨rfl, below_drewN (unhide HB) m⟩
set_option maxHeartbeats 1000000 in
/-- Both split. -/
theorem walk_yes (n : Int) (a : Option Addr) (len cap : Nat) (zs : List Int) (w : World) (hlen : len ≤ 1000)
    (hs : ∀ w1, Below w.heap.size w w1 → Calls Try.prog 23 #[.int .i64 n, .slice a len cap] w1 fun e w' => ∃ u, e = .returned (.tuple #[u, .int .i64 0]) ∧ Row w' u zs ∧ Below w1.heap.size w1 w')
    (hr : ∀ w1, Below w.heap.size w w1 → Calls Try.prog 24 #[.int .i64 n, .slice a len cap] w1 fun e w' => ∃ u, e = .returned (.tuple #[u, .int .i64 0]) ∧ Row w' u zs ∧ Below w1.heap.size w1 w') :
    Calls Try.prog 5 #[.int .i64 n, .slice a len cap] w fun e w' => e = .returned (.bool true) ∧ Below w.heap.size w w' := by
  have HS := hide hs
  have HR := hide hr
  have h2 : (len : Int) ≤ 1000 := by omega
  clear hs hr hlen
  go_enter Try.func5, Try.ntmps5
  go_wp2_with fail
  refine (alive_any _).mono ?_
  rintro e w1 ⟨rfl, hbel⟩
  have HB := hide hbel
  clear hbel
  go_wp2_with fail
  refine (unhide HS _ (unhide HB)).mono ?_
  rintro e w2 ⟨u, rfl, hu, hb2⟩
  have HU := hide hu
  have HB2 : Hid (Below w.heap.size w w2) := hide ((unhide HB).trans (hb2.mono (unhide HB).size))
  clear hu hb2
  go_wp2_with fail
  refine (unhide HR _ (unhide HB2)).mono ?_
  rintro e w3 ⟨v, rfl, hv, hb3⟩
  have HV := hide hv
  have HU3 := hide ((unhide HU).below hb3 (Nat.le_refl _))
  have HB3 : Hid (Below w.heap.size w w3) := hide ((unhide HB2).trans (hb3.mono (unhide HB2).size))
  clear hv hb3
  go_wp2_with fail
  refine (same_yes u v zs _ (unhide HU3) (unhide HV)).mono ?_
  rintro e w' ⟨rfl, m, rfl⟩
  go_wp2_with fail
  go_ret
  exact ⟨rfl, below_drewN (unhide HB3) m⟩
theorem walk (n : Int) (v : Value) (ws : List Int) (w : World) (_wn : (Lit.int .i64 n).wf = true) (h : Row w v ws) :
    Calls Try.prog 5 #[.int .i64 n, v] w fun e w' => e = .returned (.bool true) ∧ Below w.heap.size w w' := by
  by_cases hlen : ws.length ≤ 1000
  · have hrow : ∀ w1, Below w.heap.size w w1 → Row w1 v ws := fun w1 hb => h.below hb (Nat.le_refl _)
    obtain ⟨a, cap, hv⟩ := row_slice h
    cases hok : (weighB ws && may n) with
    | false =>
      subst hv
      refine walk_no n a ws.length cap w hlen (fun w1 hb => split_no n _ ws w1 (hrow w1 hb) hok) (fun w1 hb => ?_)
      rcases hrow w1 hb with ⟨a', cap', hv', rfl⟩ | ⟨b, off, cap', hv', h0, hm, hc, hin⟩
      · exact rsplit_empty n a cap w1
      · rw [hv']
        by_cases h6 : ws.length ≤ 600
        · exact rsplit_no n b off cap' ws w1 h0 h6 hok hc
        · exact rsplit_long n (ws.getD 0 0) b off ws.length cap' w1 (by omega) (hc 0 h0)
    | true =>
      have h1 : weighB ws = true ∧ may n = true := by simpa using hok
      have hg : good ws = true := by
        cases hg : good ws with
        | true => rfl
        | false => rw [weighB_no hg] at h1; exact absurd h1.1 (by decide)
      have ht : total ws ≠ 0 := by
        have := h1.1
        rw [weighB_yes hg] at this
        simpa using this
      subst hv
      refine walk_yes n a ws.length cap (partL n ws) w hlen (fun w1 hb => split_yes n _ ws w1 (hrow w1 hb) hg ht h1.2 (fun j _ => div_ok hg ht h1.2 j)) (fun w1 hb => ?_)
      rcases hrow w1 hb with ⟨a', cap', hv', rfl⟩ | ⟨b, off, cap', hv', h0, hm, hc, hin⟩
      · exact absurd rfl ht
      · rw [hv']
        exact rsplit_yes n b off cap' ws w1 hg ht h1.2 hc
  · obtain ⟨a, cap, rfl⟩ := row_slice h
    exact walk_long n a ws.length cap (by omega) w
theorem own : ownKnob Try.prog.godebug = none := by kernel_rfl
theorem laidOut : laidOutB Try.prog = true := by kernel_rfl
set_option linter.unusedVariables false in
set_option maxRecDepth 100000 in
theorem lifted (os : Os) (started : os.Started) (H : Type) (enc : TypeId × Value → H) :
    ReturnsInHanded {} Try.checked os 5 .any (Rows.moneySplitsSpec.pre6 enc Try.prog Try.f5 Rows.moneySplitsRow.domain false) (Rows.moneySplitsSpec.post enc Try.prog Try.f5 false true false false) := by
  refine returnsInHanded_of_change (C := Try.checked) own started (by kernel_rfl) Try.func5
    (ChangeSpec.witness6 (enc := enc) (C := Try.checked) false ⟨#[], #[.int .i64 0, .slice none 0 0], []⟩ 8 (by kernel_rfl) (by kernel_rfl) (by kernel_rfl) (by kernel_rfl)) ?_
  intro W base args ds gs before hval0 hW hcnd _
  have hval : ∀ (j : Nat) t v, Try.f5.params[j]? = some t → args[j]? = some v → Value.okWide Try.prog W .any base t v := hval0
  have hW' := hW
  obtain ⟨p, q, hA0, hV, rfl, hfz, hnd⟩ := hW
  have hA : DataW.TrodAll enc Try.prog W 0 (fun _ => true) true Try.f5.params.toList args.toList ds p := hA0
  rw [Try.params5] at hA hval
  obtain ⟨v0, vs0, d0, ds0, p0, q0, hargs, rfl, rfl, h0, r0⟩ := trodAll_cons hA
  obtain ⟨v1, vs1, d1, ds1, p1, q1, rfl, rfl, rfl, h1, r1⟩ := trodAll_cons r0
  obtain ⟨rfl, rfl, rfl⟩ := trodAll_nil r1
  obtain rfl : args = #[v0, v1] := by cases args; simp_all
  obtain ⟨rfl, rfl⟩ := trodVars_none hV
  obtain ⟨a0, rfl, rfl, rfl, w0⟩ := open_int Try.underlying2 (hval 0 2 v0 rfl rfl) h0
  obtain ⟨a1, len1, cap1, rfl⟩ := okWide_slice Try.underlying29 (hval 1 29 v1 rfl rfl)
  have k1 := h1
  have lt1 : ∀ x ∈ p1, x.block < W.heap.size := by obtain ⟨m, hm⟩ := k1; exact DataW.trod_lt m _ _ _ hm
  obtain ⟨z1, w1⟩ : ∃ zs : List Int, Row W (.slice a1 len1 cap1) zs := by
    obtain ⟨fuel, hf⟩ := h1
    rcases open_ints Try.underlying29 Try.underlying2 (by kernel_rfl) hf with ⟨hcs, _⟩ | ⟨x, l, c, zs, hcs, _, hl, hm, hz, _, hcell, hwz⟩
    · simp [Value.cells] at hcs
      obtain ⟨rfl, rfl, rfl⟩ := hcs
      exact ⟨[], .inl ⟨_, _, rfl, rfl⟩⟩
    · simp [Value.cells] at hcs
      obtain ⟨rfl, rfl, rfl⟩ := hcs
      exact row_open hl hm (by simpa using hz) hcell hwz
  clear hA0 hval0
  refine (walk a0 _ z1 W w0 w1).mono fun e W' ⟨he, bel⟩ => ?_
  subst he
  exact ⟨_, rfl, _, _, _, [], _, [], hW', trodAll_mk1 (shut_bool Try.underlying4 _), (trodAll_cons_mk (shut_int Try.underlying2 w0) (trodAll_cons_mk (Below.trod laidOut (by kernel_rfl) (of_decide_eq_true (by kernel_rfl)) k1 bel lt1) trodAll_mk0)), rfl, bel.frame _, fun h => by cases h⟩
theorem over : Rows.moneySplitsRow.holds Try.pinned (OpenSpec.ofChange Rows.moneySplitsSpec) :=
  OpenClaim.holds_of_wide 5 Try.f5 rfl rfl rfl rfl rfl rfl rfl ⟨rfl, rfl, rfl, rfl, rfl⟩ rfl rfl rfl rfl rfl (by kernel_rfl) Try.func5 (by kernel_rfl)
    (of_decide_eq_true (by kernel_rfl)) (by unfold Func.isWrapper; first | (rw [if_pos (by decide +kernel)]; kernel_rfl) | (rw [if_neg (by decide +kernel)]; exact ⟨rfl, rfl⟩))
    (fun os started H enc _ => lifted os started H enc)
/-- The statement. -/
theorem proved : Rows.MoneySplitsSaid := over
#print axioms proved
end Go.Proofs.Ytcimppdeajhfmaa.moneySplits
namespace Go.Proofs.Ytcimppdeajhfmaa
theorem moneySplits_holds : Rows.MoneySplitsSaid := moneySplits.proved
end Go.Proofs.Ytcimppdeajhfmaa
