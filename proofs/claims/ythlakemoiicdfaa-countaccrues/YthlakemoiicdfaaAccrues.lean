/- Proved here: CountAccrues: days between any days, in any way, what they bring of any amount, and how many days a year of that way has, or the error, are the document's. No condition. -/
import Derived.Test.YthlakemoiicdfaaAlive
import Derived.Test.YthlakemoiicdfaaAsked
import Derived.Test.YthlakemoiicdfaaRAcc
import Derived.WalkKit
import Derived.WalkSpells
import Derived.Lib.SmallJoins
import Derived.Deep.RegionHeld3
import Derived.ProofKit
import Derived.OpenShut
import Derived.ShutString
import Derived.ChangeOld
import Derived.Below
namespace Go.Proofs.Ythlakemoiicdfaa.countAccrues
open Go.ChangeShapes Go.WideShapes Go.ChangeAt Go.RowKit
open Dy (RTos date_of ds rto_no rto_ok year)
set_option linter.unusedSimpArgs false
/-- Both answer the same days. -/
structure Same (a b way v e : Int) : Prop where
  one : DaysA a b way v e
  two : RDaysA a b way v e
  lo : -4000000 ≤ v
  hi : v ≤ 4000000
  er : e = 0 ∨ (v = 0 ∧ (e = 2 ∨ e = 5))
theorem ne_beq {p q : Int} (h : ¬ p = q) : (p == q) = false := beq_false_of_ne h
theorem same_none (a b way : Int) (h1 : ¬ way = 1) (h2 : ¬ way = 2) (h3 : ¬ way = 3) : Same a b way 0 2 :=
  ⟨days_0 a b way (ne_beq (fun c => h1 c.symm)) (ne_beq (fun c => h2 c.symm)) (ne_beq (fun c => h3 c.symm)), rdays_0 a b way (hide (rbasis_0 way (ne_beq h1) (ne_beq h2) (ne_beq h3))), by omega, by omega, Or.inr ⟨rfl, Or.inl rfl⟩⟩
theorem rto_some (n : Int) : ∃ y m d e, RTos n y m d e := by
  by_cases h : 1 ≤ n ∧ n ≤ 3652059
  · obtain ⟨y, m, d, hv, rfl⟩ := date_of n h.1 h.2
    exact ⟨y, m, d, 0, rto_ok y m d hv⟩
  · exact ⟨0, 0, 0, 5, rto_no n (by omega)⟩
theorem same_1 (a b : Int) : ∃ v e, Same a b 1 v e := by
  by_cases ha : 1 ≤ a ∧ a ≤ 3652059
  · obtain ⟨y, m, d, hv, ea⟩ := date_of a ha.1 ha.2
    by_cases hb : 1 ≤ b ∧ b ≤ 3652059
    · obtain ⟨y', m', d', hv', eb⟩ := date_of b hb.1 hb.2
      have b1 := fp_bd hv
      have b2 := fp_bd hv'
      refine ⟨fp y' m' d' - fp y m d, 0, ?_, ?_, by omega, by omega, Or.inl rfl⟩
      · have h := days_1 _ _ _ _ (by omega) (by omega) (by omega) (by omega) (hide (flat_ok hv)) (hide (flat_ok hv'))
        rwa [ea, eb] at h
      · have h := rdays_flat hv hv'
        rwa [ea, eb] at h
    · refine ⟨0, 5, ?_, ?_, by omega, by omega, Or.inr ⟨rfl, Or.inr rfl⟩⟩
      · have h := flat_ok hv
        rw [ea] at h
        exact days_1b a b _ (hide h) (hide (flat_no b (by omega)))
      · have h1 := rto_ok y m d hv
        rw [ea] at h1
        exact rdays_b a b 1 360 _ _ _ _ _ _ rfl (hide rbasis_1) (hide h1) (hide (rto_no b (by omega)))
  · obtain ⟨y', m', d', e', hT⟩ := rto_some b
    exact ⟨0, 5, days_1a a b (hide (flat_no a (by omega))), rdays_a a b 1 360 _ _ _ _ _ _ _ rfl (hide rbasis_1) (hide (rto_no a (by omega))) (hide hT), by omega, by omega, Or.inr ⟨rfl, Or.inr rfl⟩⟩
theorem same_2 (a b : Int) : ∃ v e, Same a b 2 v e := by
  by_cases ha : 1 ≤ a ∧ a ≤ 3652059
  · obtain ⟨y, m, d, hv, ea⟩ := date_of a ha.1 ha.2
    by_cases hb : 1 ≤ b ∧ b ≤ 3652059
    · obtain ⟨y', m', d', hv', eb⟩ := date_of b hb.1 hb.2
      refine ⟨b - a, 0, days_2 _ _ _ _ (by omega) (by omega) (by omega) (by omega) (hide (real_ok a ha.1 ha.2)) (hide (real_ok b hb.1 hb.2)), ?_, by omega, by omega, Or.inl rfl⟩
      have h1 := rto_ok y m d hv
      have h2 := rto_ok y' m' d' hv'
      rw [ea] at h1
      rw [eb] at h2
      exact rdays_act a b 2 360 _ _ _ _ _ _ rfl ha.1 ha.2 hb.1 hb.2 rfl (hide rbasis_2) (hide h1) (hide h2)
    · refine ⟨0, 5, days_2b a b _ (hide (real_ok a ha.1 ha.2)) (hide (real_no b (by omega))), ?_, by omega, by omega, Or.inr ⟨rfl, Or.inr rfl⟩⟩
      have h1 := rto_ok y m d hv
      rw [ea] at h1
      exact rdays_b a b 2 360 _ _ _ _ _ _ rfl (hide rbasis_2) (hide h1) (hide (rto_no b (by omega)))
  · obtain ⟨y', m', d', e', hT⟩ := rto_some b
    exact ⟨0, 5, days_2a a b (hide (real_no a (by omega))), rdays_a a b 2 360 _ _ _ _ _ _ _ rfl (hide rbasis_2) (hide (rto_no a (by omega))) (hide hT), by omega, by omega, Or.inr ⟨rfl, Or.inr rfl⟩⟩
theorem same_3 (a b : Int) : ∃ v e, Same a b 3 v e := by
  by_cases ha : 1 ≤ a ∧ a ≤ 3652059
  · obtain ⟨y, m, d, hv, ea⟩ := date_of a ha.1 ha.2
    by_cases hb : 1 ≤ b ∧ b ≤ 3652059
    · obtain ⟨y', m', d', hv', eb⟩ := date_of b hb.1 hb.2
      refine ⟨b - a, 0, days_3 _ _ _ _ (by omega) (by omega) (by omega) (by omega) (hide (real_ok a ha.1 ha.2)) (hide (real_ok b hb.1 hb.2)), ?_, by omega, by omega, Or.inl rfl⟩
      have h1 := rto_ok y m d hv
      have h2 := rto_ok y' m' d' hv'
      rw [ea] at h1
      rw [eb] at h2
      exact rdays_act a b 3 365 _ _ _ _ _ _ rfl ha.1 ha.2 hb.1 hb.2 rfl (hide rbasis_3) (hide h1) (hide h2)
    · refine ⟨0, 5, days_3b a b _ (hide (real_ok a ha.1 ha.2)) (hide (real_no b (by omega))), ?_, by omega, by omega, Or.inr ⟨rfl, Or.inr rfl⟩⟩
      have h1 := rto_ok y m d hv
      rw [ea] at h1
      exact rdays_b a b 3 365 _ _ _ _ _ _ rfl (hide rbasis_3) (hide h1) (hide (rto_no b (by omega)))
  · obtain ⟨y', m', d', e', hT⟩ := rto_some b
    exact ⟨0, 5, days_3a a b (hide (real_no a (by omega))), rdays_a a b 3 365 _ _ _ _ _ _ _ rfl (hide rbasis_3) (hide (rto_no a (by omega))) (hide hT), by omega, by omega, Or.inr ⟨rfl, Or.inr rfl⟩⟩
theorem same_acc {x r a b way v e B : Int} (hx : In64 x) (hr : In64 r) (h : Same a b way v e) (hB : BasisA way B) (hR : RBasisA way B) (hB1 : e = 0 → 0 < B) (hB2 : B ≤ 365) : ∃ u f, AccA x r a b way u f ∧ RAccA x r a b way u f := by
  obtain ⟨h1, h2, lo, hi, er⟩ := h
  rcases er with rfl | ⟨rfl, rfl | rfl⟩
  · have hB1 := hB1 rfl
    by_cases hab : b < a
    · exact ⟨0, 2, acc_lt x r a b way v (hide h1) (decide_eq_true hab), racc_lt x r a b way v (hide h2) (decide_eq_true hab)⟩
    by_cases hm : May r
    · by_cases hv : v < 0
      · exact ⟨0, 2, acc_p2 x r a b way v B (hide h1) (decide_eq_false hab) (hide (may_yes hm)) (hide hB) (hide (part_lo r v B (decide_eq_true hv))), racc_p2 x r a b way v B (hide h2) (decide_eq_false hab) (hide (rmay_yes hm)) (hide hR) (hide (rpart_lo r v B (decide_eq_true hv)))⟩
      · have p1 := part_yes r v B hr ⟨by omega, by omega⟩ ⟨by omega, by omega⟩ (by omega) hB1
        have p2 := rpart_yes r v B hr ⟨by omega, by omega⟩ ⟨by omega, by omega⟩ (by omega) hB1
        generalize near (r * v) B = q at p1 p2
        by_cases ht : turn q = 0
        · rw [okN_in ht, okE_in ht] at p1 p2
          by_cases hq : May q
          · exact ⟨_, _, acc_ok x r a b way v B q _ _ (hide h1) (decide_eq_false hab) (hide (may_yes hm)) (hide hB) (hide p1) (hide (interest_ok hx hq)), racc_ok x r a b way v B q _ _ (hide h2) (decide_eq_false hab) (hide (rmay_yes hm)) (hide hR) (hide p2) (hide (rint_ok hx hq))⟩
          · exact ⟨_, _, acc_ok x r a b way v B q _ _ (hide h1) (decide_eq_false hab) (hide (may_yes hm)) (hide hB) (hide p1) (hide (interest_no x q hq)), racc_ok x r a b way v B q _ _ (hide h2) (decide_eq_false hab) (hide (rmay_yes hm)) (hide hR) (hide p2) (hide (rint_no hq))⟩
        · rw [okN_out ht, okE_out ht] at p1 p2
          exact ⟨0, 3, acc_p3 x r a b way v B (hide h1) (decide_eq_false hab) (hide (may_yes hm)) (hide hB) (hide p1), racc_p3 x r a b way v B (hide h2) (decide_eq_false hab) (hide (rmay_yes hm)) (hide hR) (hide p2)⟩
    · exact ⟨0, 2, acc_may x r a b way v (hide h1) (decide_eq_false hab) (hide (may_no hm)), racc_may x r a b way v (hide h2) (decide_eq_false hab) (hide (rmay_no hm))⟩
  · exact ⟨0, 2, acc_d2 x r a b way (hide h1), racc_d2 x r a b way (hide h2)⟩
  · exact ⟨0, 5, acc_d5 x r a b way (hide h1), racc_d5 x r a b way (hide h2)⟩
def Good (x r a b way : Int) (w : World) : Prop := Calls Try.prog 3 #[.agg #[.int .i64 x, .int .i64 r, .int .i64 a, .int .i64 b, .int .i64 way]] w fun e w' => e = .returned (.bool true) ∧ Below w.heap.size w w'
structure LA (w W : World) (x r a b way : Int) : Prop where
  row : R5 W w.heap.size x r a b way
  bel : Below w.heap.size w W
def IA (w : World) (x r a b way : Int) (W : World) : Prop := W.cell? ⟨w.heap.size, 4, none⟩ = some (.int .i64 way) ∧ Hid (LA w W x r a b way)
theorem IA.keep {w W V : World} {x r a b way : Int} (t : IA w x r a b way W) (hb : Below W.heap.size W V) : IA w x r a b way V :=
  have h := unhide t.2
  ⟨(h.row.keep hb h.row.lt).c4, hide ⟨h.row.keep hb h.row.lt, below_via h.bel hb⟩⟩
theorem IA.drew {w W : World} {x r a b way : Int} (t : IA w x r a b way W) : IA w x r a b way W.drew := t.keep (below_drew (Below.refl _ _))
set_option maxRecDepth 20000 in
set_option maxHeartbeats 20000000 in
theorem go (x r a b way v e u f B : Int) (w : World) (h1 : Hid (DaysA a b way v e)) (h2 : Hid (RDaysA a b way v e)) (h3 : Hid (AccA x r a b way u f)) (h4 : Hid (RAccA x r a b way u f)) (h5 : Hid (BasisA way B)) (h6 : Hid (RBasisA way B)) : Good x r a b way w := by
  unfold Good
  have hal := hide alive_any
  have HL := hide (show LA w (w.alloc (.cells #[.int .i64 x, .int .i64 r, .int .i64 a, .int .i64 b, .int .i64 way] 23)) x r a b way from ⟨R5.new w x r a b way, (Below.refl w.heap.size w).alloc (Nat.le_refl _) _⟩)
  go_enter Try.func3, Try.ntmps3
  go_wp2_with fail
  generalize w.alloc (.cells #[.int .i64 x, .int .i64 r, .int .i64 a, .int .i64 b, .int .i64 way] 23) = W at HL ⊢
  refine (unhide hal _).mono ?_
  rintro e w1 ⟨rfl, hb⟩
  replace HL := hide (show LA w w1 x r a b way from ⟨(unhide HL).row.keep hb (unhide HL).row.lt, below_via (unhide HL).bel hb⟩)
  clear hb hal
  have c0 := (unhide HL).row.c0
  have c1 := (unhide HL).row.c1
  have c2 := (unhide HL).row.c2
  have c3 := (unhide HL).row.c3
  have c4 := (unhide HL).row.c4
  go_wp2_with fail
  clear c0 c1 c2 c3 c4
  refine (unhide h1 _).mono ?_
  rintro e w2 ⟨rfl, hb⟩
  replace HL := hide (show LA w w2 x r a b way from ⟨(unhide HL).row.keep hb (unhide HL).row.lt, below_via (unhide HL).bel hb⟩)
  clear hb
  have c0 := (unhide HL).row.c0
  have c1 := (unhide HL).row.c1
  have c2 := (unhide HL).row.c2
  have c3 := (unhide HL).row.c3
  have c4 := (unhide HL).row.c4
  go_wp2_with fail
  clear c0 c1 c2 c3 c4
  refine (unhide h2 _).mono ?_
  rintro e w3 ⟨rfl, hb⟩
  replace HL := hide (show LA w w3 x r a b way from ⟨(unhide HL).row.keep hb (unhide HL).row.lt, below_via (unhide HL).bel hb⟩)
  clear hb
  have c0 := (unhide HL).row.c0
  have c1 := (unhide HL).row.c1
  have c2 := (unhide HL).row.c2
  have c3 := (unhide HL).row.c3
  have c4 := (unhide HL).row.c4
  go_wp2_with fail
  clear c0 c1 c2 c3 c4
  refine (unhide h3 _).mono ?_
  rintro e w4 ⟨rfl, hb⟩
  replace HL := hide (show LA w w4 x r a b way from ⟨(unhide HL).row.keep hb (unhide HL).row.lt, below_via (unhide HL).bel hb⟩)
  clear hb
  have c0 := (unhide HL).row.c0
  have c1 := (unhide HL).row.c1
  have c2 := (unhide HL).row.c2
  have c3 := (unhide HL).row.c3
  have c4 := (unhide HL).row.c4
  go_wp2_with fail
  clear c0 c1 c2 c3 c4
  refine (unhide h4 _).mono ?_
  rintro e w5 ⟨rfl, hb⟩
  replace HL := hide (show LA w w5 x r a b way from ⟨(unhide HL).row.keep hb (unhide HL).row.lt, below_via (unhide HL).bel hb⟩)
  clear hb
  have HI : IA w x r a b way w5 := ⟨(unhide HL).row.c4, HL⟩
  clear HL h1 h2 h3 h4
  go_wp2_with fail
  go_region_held3 (fun w' => w'.cell? ⟨w.heap.size, 4, none⟩ = some (.int .i64 way) ∧ Hid (LA w w' x r a b way))
    (first
      | exact IA.keep (by assumption) hbA
      | exact IA.keep HI hbA
      | exact IA.keep HI.drew hbA
      | exact HI.drew
      | exact HI)
    (first
      | (go_at_call 13; refine (unhide h5 _).mono ?_; rintro z wA ⟨rfl, hbA⟩)
      | (go_at_call 14; refine (unhide h6 _).mono ?_; rintro z wA ⟨rfl, hbA⟩))
  rename_i hH
  have BB := hide (unhide hH.2).bel
  clear hH HI
  go_wp2_with fail
  go_ret
  exact ⟨rfl, unhide BB⟩
theorem walk (x r a b way : Int) (w : World) (w0 : (Lit.int .i64 x).wf = true) (w1 : (Lit.int .i64 r).wf = true) (_w2 : (Lit.int .i64 a).wf = true) (_w3 : (Lit.int .i64 b).wf = true) (_w4 : (Lit.int .i64 way).wf = true) : Calls Try.prog 3 #[.agg #[.int .i64 x, .int .i64 r, .int .i64 a, .int .i64 b, .int .i64 way]] w fun e w' => e = .returned (.bool true) ∧ Below w.heap.size w w' := by
  have hx := in64_of w0
  have hr := in64_of w1
  by_cases h1 : way = 1
  · subst h1
    obtain ⟨v, e, h⟩ := same_1 a b
    obtain ⟨u, f, g1, g2⟩ := same_acc hx hr h basis_1 rbasis_1 (fun _ => by omega) (by omega)
    exact go x r a b 1 v e u f _ w (hide h.one) (hide h.two) (hide g1) (hide g2) (hide basis_1) (hide rbasis_1)
  by_cases h2 : way = 2
  · subst h2
    obtain ⟨v, e, h⟩ := same_2 a b
    obtain ⟨u, f, g1, g2⟩ := same_acc hx hr h basis_2 rbasis_2 (fun _ => by omega) (by omega)
    exact go x r a b 2 v e u f _ w (hide h.one) (hide h.two) (hide g1) (hide g2) (hide basis_2) (hide rbasis_2)
  by_cases h3 : way = 3
  · subst h3
    obtain ⟨v, e, h⟩ := same_3 a b
    obtain ⟨u, f, g1, g2⟩ := same_acc hx hr h basis_3 rbasis_3 (fun _ => by omega) (by omega)
    exact go x r a b 3 v e u f _ w (hide h.one) (hide h.two) (hide g1) (hide g2) (hide basis_3) (hide rbasis_3)
  have h := same_none a b way h1 h2 h3
  have hB := basis_0 way (ne_beq (fun c => h1 c.symm)) (ne_beq (fun c => h2 c.symm)) (ne_beq (fun c => h3 c.symm))
  have hR := rbasis_0 way (ne_beq h1) (ne_beq h2) (ne_beq h3)
  obtain ⟨u, f, g1, g2⟩ := same_acc hx hr h hB hR (fun c => absurd c (by decide)) (by omega)
  exact go x r a b way 0 2 u f _ w (hide h.one) (hide h.two) (hide g1) (hide g2) (hide hB) (hide hR)
theorem own : ownKnob Try.prog.godebug = none := by kernel_rfl
set_option linter.unusedVariables false in
set_option maxRecDepth 100000 in
theorem lifted (os : Os) (started : os.Started) (H : Type) (enc : TypeId × Value → H) :
    ReturnsInHanded {} Try.checked os 3 .any (Rows.countAccruesSpec.pre6 enc Try.prog Try.f3 Rows.countAccruesRow.domain false) (Rows.countAccruesSpec.post enc Try.prog Try.f3 false true false false) := by
  refine returnsInHanded_of_change (C := Try.checked) own started (by kernel_rfl) Try.func3
    (ChangeSpec.witness6 (enc := enc) (C := Try.checked) false ⟨#[], #[.agg #[.int .i64 0, .int .i64 0, .int .i64 0, .int .i64 0, .int .i64 0]], []⟩ 8 (by kernel_rfl) (by kernel_rfl) (by kernel_rfl) (by kernel_rfl)) ?_
  intro W base args ds gs before hval0 hW hcnd _
  have hval : ∀ (j : Nat) t v, Try.f3.params[j]? = some t → args[j]? = some v → Value.okWide Try.prog W .any base t v := hval0
  have hW' := hW
  obtain ⟨p, q, hA0, hV, rfl, hfz, hnd⟩ := hW
  have hA : DataW.TrodAll enc Try.prog W 0 (fun _ => true) true Try.f3.params.toList args.toList ds p := hA0
  rw [Try.params3] at hA hval
  obtain ⟨v0, vs0, d0, ds0, p0, q0, hargs, rfl, rfl, h0, r0⟩ := trodAll_cons hA
  obtain ⟨rfl, rfl, rfl⟩ := trodAll_nil r0
  obtain rfl : args = #[v0] := by cases args; simp_all
  obtain ⟨rfl, rfl⟩ := trodVars_none hV
  obtain ⟨a00, a01, a02, a03, a04, rfl, rfl, rfl, w00, w01, w02, w03, w04⟩ := open_asked (hval 0 23 v0 rfl rfl) h0
  clear hA0 hval0
  simp only [List.append_nil] at hW'
  refine (walk a00 a01 a02 a03 a04 W w00 w01 w02 w03 w04).mono fun e W' ⟨he, bel⟩ => ?_
  subst he
  exact ⟨_, rfl, _, _, _, [], _, [], hW', trodAll_mk1 (shut_bool Try.underlying4 _), (trodAll_cons_mk (shut_asked w00 w01 w02 w03 w04) trodAll_mk0), rfl, bel.frame _, fun h => by cases h⟩
theorem over : Rows.countAccruesRow.holds Try.pinned (OpenSpec.ofChange Rows.countAccruesSpec) :=
  OpenClaim.holds_of_wide 3 Try.f3 rfl rfl rfl rfl rfl rfl rfl ⟨rfl, rfl, rfl, rfl, rfl⟩ rfl rfl rfl rfl rfl (by kernel_rfl) Try.func3 (by kernel_rfl)
    (of_decide_eq_true (by kernel_rfl)) (by unfold Func.isWrapper; first | (rw [if_pos (by decide +kernel)]; kernel_rfl) | (rw [if_neg (by decide +kernel)]; exact ⟨rfl, rfl⟩))
    (fun os started H enc _ => lifted os started H enc)
/-- The statement. -/
theorem proved : Rows.CountAccruesSaid := over
#print axioms proved
end Go.Proofs.Ythlakemoiicdfaa.countAccrues
namespace Go.Proofs.Ythlakemoiicdfaa
theorem countAccrues_holds : Rows.CountAccruesSaid := countAccrues.proved
end Go.Proofs.Ythlakemoiicdfaa
