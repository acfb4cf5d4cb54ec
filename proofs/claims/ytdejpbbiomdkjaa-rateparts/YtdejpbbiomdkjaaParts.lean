/- Proved here: RateParts: two parts of a rate that are the whole are the rate, but for one. No condition. -/
import Derived.Test.YtdejpbbiomdkjaaAlive
import Derived.ProofKit
import Derived.OpenShut
import Derived.ShutString
import Derived.ChangeOld
import Derived.Below
namespace Go.Proofs.Ytdejpbbiomdkjaa.rateParts
open Go.ChangeShapes Go.WideShapes Go.ChangeAt Go.RowKit
set_option linter.unusedSimpArgs false
theorem below_to_drew {W w2 w0 : World} (h : Below w0.heap.size w0 W) (h2 : W.drew = w2) : Below w0.heap.size w0 w2 := by rw [← h2]; exact below_drew h
def Good (r : Int) (o l : Nat) (w : World) : Prop := Calls Try.prog 8 #[.int .i64 r, .int .u32 o, .int .u32 l] w fun e w' => e = .returned (.bool true) ∧ Below w.heap.size w w'
set_option maxHeartbeats 1600000 in
theorem go_no (r : Int) (o l : Nat) (ho : o ≤ 4294967295) (hl : l ≤ 4294967295) (h : ¬ May r) (w : World) : Good r o l w := by
  unfold Good
  have hal := hide alive_any
  have hm := hide (may_no h)
  have hz : (((l : Int) + 2) == 0) = false := by rw [beq_eq_false_iff_ne]; omega
  go_enter Try.func8, Try.ntmps8
  go_wp2_with fail
  refine (unhide hal _).mono ?_
  rintro e w1 ⟨rfl, hb1⟩
  replace hb1 := hide hb1
  go_wp2_with fail
  go_region
  generalize hwd : w1.drew = wd
  replace hb1 := hide (below_to_drew (unhide hb1) hwd)
  clear hwd

  go_wp2_with fail
  refine (unhide hm _).mono ?_
  rintro e wq ⟨rfl, rfl⟩
  go_wp2_with fail
  go_ret
  exact ⟨rfl, unhide hb1⟩
set_option maxHeartbeats 1600000 in
theorem go_yes (r : Int) (o l : Nat) (a b d M K : Int) (ho : o ≤ 4294967295) (hl : l ≤ 4294967295) (h : May r) (hM : (o : Int) % ((l : Int) + 2) = M) (hK : wrap64 ((l : Int) + 1 - M) = K)
    (hs : wrap64 (wrap64 (a + b) - r) = d) (hlo : decide (-1 ≤ d) = true) (hup : decide (d ≤ 1) = true) (w : World)
    (h1 : Hid (Parts r M ((l : Int) + 1) a 0)) (h2 : Hid (Parts r K ((l : Int) + 1) b 0)) (h3 : Hid (Parts r ((l : Int) + 1) ((l : Int) + 1) r 0)) (h4 : Hid (Parts r 0 ((l : Int) + 1) 0 0)) : Good r o l w := by
  unfold Good
  have hal := hide alive_any
  have hm := hide (may_yes h)
  have hz : (((l : Int) + 2) == 0) = false := by rw [beq_eq_false_iff_ne]; omega
  go_enter Try.func8, Try.ntmps8
  go_wp2_with fail
  refine (unhide hal _).mono ?_
  rintro e w1 ⟨rfl, hb1⟩
  replace hb1 := hide hb1
  go_wp2_with fail
  go_region
  generalize hwd : w1.drew = wd
  replace hb1 := hide (below_to_drew (unhide hb1) hwd)
  clear hwd

  rw [hM]
  go_wp2_with fail
  refine (unhide hm _).mono ?_
  rintro e wq ⟨rfl, rfl⟩
  go_wp2_with fail
  refine (unhide h1 _).mono ?_
  rintro e w2 ⟨rfl, hb2⟩
  replace hb2 := hide (below_via (unhide hb1) hb2)
  clear hb1
  go_wp2_with fail
  refine (unhide h2 _).mono ?_
  rintro e w3 ⟨rfl, hb3⟩
  replace hb3 := hide (below_via (unhide hb2) hb3)
  clear hb2
  go_wp2_with fail
  refine (unhide h3 _).mono ?_
  rintro e w4 ⟨rfl, hb4⟩
  replace hb4 := hide (below_via (unhide hb3) hb4)
  clear hb3
  go_wp2_with fail
  refine (unhide h4 _).mono ?_
  rintro e w5 ⟨rfl, hb5⟩
  replace hb5 := hide (below_via (unhide hb4) hb5)
  clear hb4
  go_wp2_with fail
  go_ret
  exact ⟨rfl, unhide hb5⟩
theorem part_in {r o n : Int} (hm : May r) (h0 : 0 ≤ o) (h1 : o ≤ n) (hn : 0 < n) : -9223372036854775808 ≤ near (r * o) n ∧ near (r * o) n ≤ 9223372036854775807 := by
  obtain ⟨m1, m2⟩ := hm
  have a := Int.mul_le_mul_of_nonneg_right m2 h0
  have b := Int.mul_le_mul_of_nonneg_right m1 h0
  exact ⟨near_ge hn (by omega), near_le hn (by omega)⟩
theorem two_bd {r o n : Int} (hn : 0 < n) : -1 ≤ near (r * o) n + near (r * (n - o)) n - r ∧ near (r * o) n + near (r * (n - o)) n - r ≤ 1 := by
  have h1 := near_bd (x := r * o) hn
  have h2 := near_bd (x := r * (n - o)) hn
  rw [Int.mul_sub r n o] at h2 ⊢
  generalize near (r * o) n = a at *
  generalize near (r * n - r * o) n = b at *
  have e : (a + b - r) * n = a * n + b * n - r * n := by rw [Int.sub_mul, Int.add_mul]
  constructor
  · refine Int.le_of_mul_le_mul_right (a := n) ?_ hn
    omega
  · refine Int.le_of_mul_le_mul_right (a := n) ?_ hn
    omega
theorem part_ok {r o n : Int} (hm : May r) (h0 : 0 ≤ o) (h1 : o ≤ n) (hn : 0 < n) (hn2 : n ≤ 4294967296) : Parts r o n (near (r * o) n) 0 := by
  have h := part_yes r o n (may64 hm) ⟨by omega, by omega⟩ ⟨by omega, by omega⟩ h0 hn
  obtain ⟨b1, b2⟩ := part_in hm h0 h1 hn
  rwa [okN_in (turn_in ⟨b1, b2⟩), okE_in (turn_in ⟨b1, b2⟩)] at h
theorem walk_go (r : Int) (o l : Nat) (ho : o ≤ 4294967295) (hl : l ≤ 4294967295) (w : World) : Good r o l w := by
  by_cases hm : May r
  · have m0 := Int.emod_nonneg (o : Int) (show (l : Int) + 2 ≠ 0 by omega)
    have m1 := Int.emod_lt_of_pos (o : Int) (show 0 < (l : Int) + 2 by omega)
    generalize hM : (o : Int) % ((l : Int) + 2) = M at *
    have hb := two_bd (r := r) (o := M) (n := (l : Int) + 1) (by omega)
    have p1 := part_ok (o := M) (n := (l : Int) + 1) hm m0 (by omega) (by omega) (by omega)
    have p2 := part_ok (o := (l : Int) + 1 - M) (n := (l : Int) + 1) hm (by omega) (by omega) (by omega) (by omega)
    have p3 := part_ok (o := (l : Int) + 1) (n := (l : Int) + 1) hm (by omega) (by omega) (by omega) (by omega)
    have p4 := part_ok (o := 0) (n := (l : Int) + 1) hm (by omega) (by omega) (by omega) (by omega)
    rw [near_mul (by omega)] at p3
    rw [Int.mul_zero, near_zero (by omega)] at p4
    refine go_yes r o l _ _ _ M _ ho hl hm hM (wrap_in ⟨by omega, by omega⟩) ?_ (decide_eq_true hb.1) (decide_eq_true hb.2) w (hide p1) (hide p2) (hide p3) (hide p4)
    generalize near (r * M) ((l : Int) + 1) = a at *
    generalize near (r * ((l : Int) + 1 - M)) ((l : Int) + 1) = b at *
    unfold wrap64
    omega
  · exact go_no r o l ho hl hm w
theorem walk (r o l : Int) (w : World) (_wr : (Lit.int .i64 r).wf = true) (wo : (Lit.int .u32 o).wf = true) (wl : (Lit.int .u32 l).wf = true) : Calls Try.prog 8 #[.int .i64 r, .int .u32 o, .int .u32 l] w fun e w' => e = .returned (.bool true) ∧ Below w.heap.size w w' := by
  have hb := bounds_u32 wo
  have hb' := bounds_u32 wl
  obtain ⟨m, rfl⟩ : ∃ m : Nat, o = (m : Int) := ⟨o.toNat, by omega⟩
  obtain ⟨n, rfl⟩ : ∃ m : Nat, l = (m : Int) := ⟨l.toNat, by omega⟩
  exact walk_go r m n (by omega) (by omega) w
theorem own : ownKnob Try.prog.godebug = none := by kernel_rfl
set_option linter.unusedVariables false in
set_option maxRecDepth 100000 in
theorem lifted (os : Os) (started : os.Started) (H : Type) (enc : TypeId × Value → H) :
    ReturnsInHanded {} Try.checked os 8 .any (Rows.ratePartsSpec.pre6 enc Try.prog Try.f8 Rows.ratePartsRow.domain false) (Rows.ratePartsSpec.post enc Try.prog Try.f8 false true false false) := by
  refine returnsInHanded_of_change (C := Try.checked) own started (by kernel_rfl) Try.func8
    (ChangeSpec.witness6 (enc := enc) (C := Try.checked) false ⟨#[], #[.int .i64 0, .int .u32 0, .int .u32 0], []⟩ 8 (by kernel_rfl) (by kernel_rfl) (by kernel_rfl) (by kernel_rfl)) ?_
  intro W base args ds gs before hval0 hW hcnd _
  have hval : ∀ (j : Nat) t v, Try.f8.params[j]? = some t → args[j]? = some v → Value.okWide Try.prog W .any base t v := hval0
  have hW' := hW
  obtain ⟨p, q, hA0, hV, rfl, hfz, hnd⟩ := hW
  have hA : DataW.TrodAll enc Try.prog W 0 (fun _ => true) true Try.f8.params.toList args.toList ds p := hA0
  rw [Try.params8] at hA hval
  obtain ⟨v0, vs0, d0, ds0, p0, q0, hargs, rfl, rfl, h0, r0⟩ := trodAll_cons hA
  obtain ⟨v1, vs1, d1, ds1, p1, q1, rfl, rfl, rfl, h1, r1⟩ := trodAll_cons r0
  obtain ⟨v2, vs2, d2, ds2, p2, q2, rfl, rfl, rfl, h2, r2⟩ := trodAll_cons r1
  obtain ⟨rfl, rfl, rfl⟩ := trodAll_nil r2
  obtain rfl : args = #[v0, v1, v2] := by cases args; simp_all
  obtain ⟨rfl, rfl⟩ := trodVars_none hV
  obtain ⟨a0, rfl, rfl, rfl, w0⟩ := open_int Try.underlying2 (hval 0 2 v0 rfl rfl) h0
  obtain ⟨a1, rfl, rfl, rfl, w1⟩ := open_int Try.underlying39 (hval 1 39 v1 rfl rfl) h1
  obtain ⟨a2, rfl, rfl, rfl, w2⟩ := open_int Try.underlying39 (hval 2 39 v2 rfl rfl) h2
  clear hA0 hval0
  simp only [List.append_nil] at hW'
  refine (walk a0 a1 a2 W w0 w1 w2).mono fun e W' ⟨he, bel⟩ => ?_
  subst he
  exact ⟨_, rfl, _, _, _, [], _, [], hW', trodAll_mk1 (shut_bool Try.underlying4 _), (trodAll_cons_mk (shut_int Try.underlying2 w0) (trodAll_cons_mk (shut_int Try.underlying39 w1) (trodAll_cons_mk (shut_int Try.underlying39 w2) trodAll_mk0))), rfl, bel.frame _, fun h => by cases h⟩
theorem over : Rows.ratePartsRow.holds Try.pinned (OpenSpec.ofChange Rows.ratePartsSpec) :=
  OpenClaim.holds_of_wide 8 Try.f8 rfl rfl rfl rfl rfl rfl rfl ⟨rfl, rfl, rfl, rfl, rfl⟩ rfl rfl rfl rfl rfl (by kernel_rfl) Try.func8 (by kernel_rfl)
    (of_decide_eq_true (by kernel_rfl)) (by unfold Func.isWrapper; first | (rw [if_pos (by decide +kernel)]; kernel_rfl) | (rw [if_neg (by decide +kernel)]; exact ⟨rfl, rfl⟩))
    (fun os started H enc _ => lifted os started H enc)
/-- The statement. -/
theorem proved : Rows.RatePartsSaid := over
#print axioms proved
end Go.Proofs.Ytdejpbbiomdkjaa.rateParts
namespace Go.Proofs.Ytdejpbbiomdkjaa
theorem rateParts_holds : Rows.RatePartsSaid := rateParts.proved
end Go.Proofs.Ytdejpbbiomdkjaa
