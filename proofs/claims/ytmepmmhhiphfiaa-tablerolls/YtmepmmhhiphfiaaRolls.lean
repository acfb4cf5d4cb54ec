/- Proved here: TableRolls: any outlay's way to its end, at any rate, or the error, is the document's. No condition. -/
import Derived.Test.YtmepmmhhiphfiaaTFacts
import Derived.Test.YtmepmmhhiphfiaaRRoll
import Derived.Below
namespace Go.Proofs.Ytmepmmhhiphfiaa.Mn.tableRolls
open Go.ChangeShapes Go.WideShapes Go.ChangeAt Go.RowKit
set_option linter.unusedSimpArgs false
theorem s_long (o : Int) (a0 : Option Addr) (l0 c0 : Nat) (r : Int) (d1 : decide ((700 : Int) < (l0 : Int)) = true) (hal : Hid Alive) (w : World) : Calls Try.prog 3 #[.int .i64 o, .slice a0 l0 c0, .int .i64 r] w fun e w' => e = .returned (.bool true) ∧ Below w.heap.size w w' := by
  go_enter Try.func3, Try.ntmps3
  go_wp2_with fail
  refine (unhide hal _).mono ?_
  rintro e w1 ⟨rfl, hb⟩
  replace hb := hide hb
  go_wp2_with fail
  go_ret
  exact ⟨rfl, unhide hb⟩
set_option maxHeartbeats 1000000 in
theorem s_ok (o : Int) (a0 : Option Addr) (l0 c0 : Nat) (l : List Int) (r : Int) (rows : List (List Int)) (E : Int) (d1 : decide ((700 : Int) < (l0 : Int)) = false) (hal : Hid Alive) (w : World) (hR : Hid (Row w (.slice a0 l0 c0) l)) (hres : Res o l r rows E) : Calls Try.prog 3 #[.int .i64 o, .slice a0 l0 c0, .int .i64 r] w fun e w' => e = .returned (.bool true) ∧ Below w.heap.size w w' := by
  have HA : Hid (∀ w', Row w' (.slice a0 l0 c0) l → RollA 8 w' o (.slice a0 l0 c0) r rows E) := hide (fun w' h => roll_any h hres)
  have HA2 : Hid (∀ w', Row w' (.slice a0 l0 c0) l → RollA 9 w' o (.slice a0 l0 c0) r rows E) := hide (fun w' h => rroll_any h hres)
  have HLn : Hid (rows.length ≤ 1000) := hide (Nat.le_trans hres.len (by decide))
  unfold RollA at HA HA2
  have e1 : (E == E) = true := by simp
  clear hres
  go_enter Try.func3, Try.ntmps3
  go_wp2_with fail
  refine (unhide hal _).mono ?_
  rintro e w1 ⟨rfl, hb⟩
  replace hR := hide ((unhide hR).below hb (Nat.le_refl _))
  have HB := hide hb
  clear hb
  go_wp2_with fail
  refine (unhide HA _ (unhide hR)).mono ?_
  rintro e w2 ⟨u, rfl, hu, hb⟩
  replace HB := hide (below_via (unhide HB) hb)
  replace hR := hide ((unhide hR).below hb (Nat.le_refl _))
  have HU := hide hu
  clear hb hu HA
  go_wp2_with fail
  refine (unhide HA2 _ (unhide hR)).mono ?_
  rintro e w3 ⟨v, rfl, hv, hb⟩
  replace HB := hide (below_via (unhide HB) hb)
  replace HU := hide ((unhide HU).keep hb)
  have HV := hide hv
  have HF := hide (from_any _ _ _ (unhide HU) (unhide HLn))
  clear hb hv HA2
  go_wp2_with fail
  refine (unhide HF).mono ?_
  rintro e w4 ⟨u3, rfl, hg⟩
  replace HB := hide (below_via (unhide HB) hg.below)
  have HSm := hide (same_any u3 v _ _ (unhide HLn) hg.row ((unhide HV).keep hg.below))
  clear hg
  go_wp2_with fail
  refine (unhide HSm).mono ?_
  rintro e w5 ⟨rfl, m, rfl⟩
  replace HB := hide (below_drewN (unhide HB) m)
  go_wp2_with fail
  go_ret
  exact ⟨rfl, unhide HB⟩
theorem walk (o : Int) (a0 : Option Addr) (l0 c0 : Nat) (l : List Int) (r : Int) (w : World) (_wo : (Lit.int .i64 o).wf = true) (hR : Row w (.slice a0 l0 c0) l) (_hc : l0 ≤ c0) (_wr : (Lit.int .i64 r).wf = true) : Calls Try.prog 3 #[.int .i64 o, .slice a0 l0 c0, .int .i64 r] w fun e w' => e = .returned (.bool true) ∧ Below w.heap.size w w' := by
  by_cases h1 : 700 < l0
  · exact s_long o a0 l0 c0 r (decide_eq_true (by omega)) (hide alive_any) w
  · obtain ⟨rows, e, hr⟩ := res_ex o l r
    exact s_ok o a0 l0 c0 l r rows e (decide_eq_false (by omega)) (hide alive_any) w (hide hR) hr
theorem own : ownKnob Try.prog.godebug = none := by kernel_rfl
theorem laidOut : laidOutB Try.prog = true := by kernel_rfl
set_option linter.unusedVariables false in
set_option maxRecDepth 100000 in
theorem lifted (os : Os) (started : os.Started) (H : Type) (enc : TypeId × Value → H) :
    ReturnsInHanded {} Try.checked os 3 .any (Rows.tableRollsSpec.pre6 enc Try.prog Try.f3 Rows.tableRollsRow.domain false) (Rows.tableRollsSpec.post enc Try.prog Try.f3 false true false false) := by
  refine returnsInHanded_of_change (C := Try.checked) own started (by kernel_rfl) Try.func3
    (ChangeSpec.witness6 (enc := enc) (C := Try.checked) false ⟨#[], #[.int .i64 0, .slice none 0 0, .int .i64 0], []⟩ 8 (by kernel_rfl) (by kernel_rfl) (by kernel_rfl) (by kernel_rfl)) ?_
  intro W base args ds gs before hval0 hW hcnd _
  have hval : ∀ (j : Nat) t v, Try.f3.params[j]? = some t → args[j]? = some v → Value.okWide Try.prog W .any base t v := hval0
  have hW' := hW
  obtain ⟨p, q, hA0, hV, rfl, hfz, hnd⟩ := hW
  have hA : DataW.TrodAll enc Try.prog W 0 (fun _ => true) true Try.f3.params.toList args.toList ds p := hA0
  rw [Try.params3] at hA hval
  obtain ⟨v0, vs0, d0, ds0, p0, q0, hargs, rfl, rfl, h0, r0⟩ := trodAll_cons hA
  obtain ⟨v1, vs1, d1, ds1, p1, q1, rfl, rfl, rfl, h1, r1⟩ := trodAll_cons r0
  obtain ⟨v2, vs2, d2, ds2, p2, q2, rfl, rfl, rfl, h2, r2⟩ := trodAll_cons r1
  obtain ⟨rfl, rfl, rfl⟩ := trodAll_nil r2
  obtain rfl : args = #[v0, v1, v2] := by cases args; simp_all
  obtain ⟨rfl, rfl⟩ := trodVars_none hV
  obtain ⟨a0, rfl, rfl, rfl, w0⟩ := open_int Try.underlying2 (hval 0 2 v0 rfl rfl) h0
  obtain ⟨a1, len1, cap1, rfl⟩ := okWide_slice Try.underlying22 (hval 1 22 v1 rfl rfl)
  have k1 := h1
  have lt1 : ∀ x ∈ p1, x.block < W.heap.size := by obtain ⟨m, hm⟩ := k1; exact DataW.trod_lt m _ _ _ hm
  obtain ⟨z1, w1, cc1⟩ : ∃ zs : List Int, Row W (.slice a1 len1 cap1) zs ∧ len1 ≤ cap1 := by
    obtain ⟨fuel, hf⟩ := h1
    rcases open_ints Try.underlying22 Try.underlying2 (by kernel_rfl) hf with ⟨hcs, _⟩ | ⟨x, l, c, zs, hcs, _, hl, hm, hz, _, hcell, hwz⟩
    · simp [Value.cells] at hcs
      obtain ⟨rfl, rfl, rfl⟩ := hcs
      exact ⟨[], .inl ⟨_, _, rfl, rfl⟩, Nat.le_refl _⟩
    · simp [Value.cells] at hcs
      obtain ⟨rfl, rfl, rfl⟩ := hcs
      obtain ⟨ys, hy⟩ := row_open hl hm (by simpa using hz) hcell hwz
      exact ⟨ys, hy, hl⟩
  obtain ⟨a2, rfl, rfl, rfl, w2⟩ := open_int Try.underlying2 (hval 2 2 v2 rfl rfl) h2
  clear hA0 hval0
  refine (walk a0 a1 len1 cap1 z1 a2 W w0 w1 cc1 w2).mono fun e W' ⟨he, bel⟩ => ?_
  subst he
  exact ⟨_, rfl, _, _, _, [], _, [], hW', trodAll_mk1 (shut_bool Try.underlying4 _), (trodAll_cons_mk (shut_int Try.underlying2 w0) (trodAll_cons_mk (Below.trod laidOut (by kernel_rfl) (of_decide_eq_true (by kernel_rfl)) k1 bel lt1) (trodAll_cons_mk (shut_int Try.underlying2 w2) trodAll_mk0))), rfl, bel.frame _, fun h => by cases h⟩
theorem over : Rows.tableRollsRow.holds Try.pinned (OpenSpec.ofChange Rows.tableRollsSpec) :=
  OpenClaim.holds_of_wide 3 Try.f3 rfl rfl rfl rfl rfl rfl rfl ⟨rfl, rfl, rfl, rfl, rfl⟩ rfl rfl rfl rfl rfl (by kernel_rfl) Try.func3 (by kernel_rfl)
    (of_decide_eq_true (by kernel_rfl)) (by unfold Func.isWrapper; first | (rw [if_pos (by decide +kernel)]; kernel_rfl) | (rw [if_neg (by decide +kernel)]; exact ⟨rfl, rfl⟩))
    (fun os started H enc _ => lifted os started H enc)
/-- The statement. -/
theorem proved : Rows.TableRollsSaid := over
#print axioms proved
end Go.Proofs.Ytmepmmhhiphfiaa.Mn.tableRolls
namespace Go.Proofs.Ytmepmmhhiphfiaa
theorem tableRolls_holds : Rows.TableRollsSaid := Mn.tableRolls.proved
end Go.Proofs.Ytmepmmhhiphfiaa
