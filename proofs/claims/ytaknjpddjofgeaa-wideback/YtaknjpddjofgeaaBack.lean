/- Proved here: WideBack: multiplied and divided by the same a number is the same; products go both ways, and by 1 and -1 are the number, and its negative. No condition. -/
import Derived.Test.YtaknjpddjofgeaaAlive
import Derived.ProofKit
import Derived.OpenShut
import Derived.ShutString
import Derived.ChangeOld
import Derived.Below
namespace Go.Proofs.Ytaknjpddjofgeaa.wideBack
open Go.ChangeShapes Go.WideShapes Go.ChangeAt Go.RowKit
/-- What MulDiv answers, at one way. -/
def Says (a b c way n e : Int) : Prop := ∀ w : World, Calls Try.prog 22 #[.int .i64 a, .int .i64 b, .int .i64 c, .int .i64 way] w fun x w' => x = .returned (.tuple #[.int .i64 n, .int .i64 e]) ∧ Below w.heap.size w w'
def Good (a c : Int) (w : World) : Prop := Calls Try.prog 7 #[.int .i64 a, .int .i64 c] w fun e w' => e = .returned (.bool true) ∧ Below w.heap.size w w'
def MulAt (a b p q : Int) : Prop := ∀ w : World, Calls Try.prog 16 #[.int .i64 a, .int .i64 b] w fun e w' => e = .returned (.agg #[.int .i64 p, .int .u64 q]) ∧ Below w.heap.size w w'
def OfAt (a p q : Int) : Prop := ∀ w : World, Calls Try.prog 18 #[.int .i64 a] w fun e w' => e = .returned (.agg #[.int .i64 p, .int .u64 q]) ∧ Below w.heap.size w w'
def NegAt (p q p' q' : Int) : Prop := ∀ w : World, Calls Try.prog 12 #[.agg #[.int .i64 p, .int .u64 q]] w fun e w' => e = .returned (.tuple #[.agg #[.int .i64 p', .int .u64 q'], .int .i64 0]) ∧ Below w.heap.size w w'
theorem keep2 {w0 W wn : World} {b : Nat} {v0 v1 : Value} (hb : Below W.heap.size W wn) (hs : W.cell? ⟨b, 0, none⟩ = some v0 ∧ W.cell? ⟨b, 1, none⟩ = some v1 ∧ b < W.heap.size ∧ Hid (Below w0.heap.size w0 W)) :
    wn.cell? ⟨b, 0, none⟩ = some v0 ∧ wn.cell? ⟨b, 1, none⟩ = some v1 ∧ b < wn.heap.size ∧ Hid (Below w0.heap.size w0 wn) :=
  ⟨kept hb hs.2.2.1 hs.1, kept hb hs.2.2.1 hs.2.1, by have := hb.size; omega, hide (below_via (unhide hs.2.2.2) hb)⟩
theorem begin2 {w0 W : World} (v0 v1 : Value) (t : TypeId) (h : Below w0.heap.size w0 W) (h' : w0.heap.size ≤ W.heap.size) :
    (W.alloc (.cells #[v0, v1] t)).drew.cell? ⟨W.heap.size, 0, none⟩ = some v0 ∧ (W.alloc (.cells #[v0, v1] t)).drew.cell? ⟨W.heap.size, 1, none⟩ = some v1 ∧ W.heap.size < (W.alloc (.cells #[v0, v1] t)).drew.heap.size ∧ Hid (Below w0.heap.size w0 (W.alloc (.cells #[v0, v1] t)).drew) :=
  ⟨by simp [go_sem], by simp [go_sem], by simp, hide (below_drew (h.alloc h' _))⟩
theorem begin2' {w0 W : World} (v0 v1 : Value) (t : TypeId) (h : Below w0.heap.size w0 W) (h' : w0.heap.size ≤ W.heap.size) :
    (W.alloc (.cells #[v0, v1] t)).cell? ⟨W.heap.size, 0, none⟩ = some v0 ∧ (W.alloc (.cells #[v0, v1] t)).cell? ⟨W.heap.size, 1, none⟩ = some v1 ∧ W.heap.size < (W.alloc (.cells #[v0, v1] t)).heap.size ∧ Hid (Below w0.heap.size w0 (W.alloc (.cells #[v0, v1] t))) :=
  ⟨by simp [go_sem], by simp [go_sem], by simp, hide (h.alloc h' _)⟩
theorem quot_back (a c : Int) (h0 : c ≠ 0) : quot 0 (a * c) c = a ∧ quot 1 (a * c) c = a := by
  have e : nX (a * c) c = nB c * a := by
    unfold nX nB
    split
    · rw [Int.neg_mul, Int.mul_comm]
    · exact Int.mul_comm a c
  have hp := nB_pos h0
  have q : nX (a * c) c / nB c = a := by rw [e, Int.mul_ediv_cancel_left _ (by omega)]
  have r : nX (a * c) c % nB c = 0 := by rw [e, Int.mul_emod_right]
  unfold quot
  rw [if_pos rfl, if_neg (by decide), q, r]
  refine ⟨rfl, ?_⟩
  unfold up
  rw [if_neg (by omega)]
  omega
set_option maxHeartbeats 2000000 in
theorem walk_go (a c n0 e0 n1 e1 : Int) (ha : In64 a) (hc : In64 c) (hk : c = 0 ∨ ¬ c = 0 ∧ a = n0 ∧ 0 = e0 ∧ a = n1 ∧ 0 = e1) (w : World)
    (h0 : Hid (Says a c c 0 n0 e0)) (h1 : Hid (Says a c c 1 n1 e1)) (hneg : Hid (NegAt (hi a) (lo a) (hi (-a)) (lo (-a)))) : Good a c w := by
  unfold Good
  have hof : Hid (OfAt a (hi a) (lo a)) := of_any a ha
  have i1 : In64 1 := in64_small (by omega)
  have im1 : In64 (-1) := in64_small (by omega)
  have ec : c * a = a * c := Int.mul_comm c a
  rcases hk with rfl | ⟨hc0, rfl, rfl, rfl, rfl⟩
  · go_enter Try.func7, Try.ntmps7
    go_wp2_with fail
    refine (alive_any _).mono ?_
    rintro e w1 ⟨rfl, hb1⟩
    replace hb1 := hide hb1
    go_wp2_with fail
    refine wp_loop_rounds 3 ?_
    rw [rounds_succ]
    go_wp2_with fail
    refine (unhide h0 _).mono ?_
    rintro e w2 ⟨rfl, hb2⟩
    replace hb2 := hide (below_via (unhide hb1) hb2)
    clear hb1
    go_wp2_with fail
    rw [rounds_succ]
    go_wp2_with fail
    refine (unhide h1 _).mono ?_
    rintro e w3 ⟨rfl, hb3⟩
    replace hb3 := hide (below_via (unhide hb2) hb3)
    clear hb2
    go_wp2_with fail
    rw [rounds_succ]
    go_wp2_with fail
    refine (unhide hof _).mono ?_
    rintro e w4 ⟨rfl, hb4⟩
    replace hb4 := hide (below_via (unhide hb3) hb4)
    clear hb3
    go_wp2_with fail
    refine (unhide hneg _).mono ?_
    rintro e w5 ⟨rfl, hb5⟩
    replace hb5 := hide (below_via (unhide hb4) hb5)
    clear hb4
    go_wp2_with fail
    go_region_held3 (fun w' => w'.cell? ⟨w5.heap.size, 0, none⟩ = some (.int .i64 (hi (-a))) ∧ w'.cell? ⟨w5.heap.size, 1, none⟩ = some (.int .u64 (lo (-a))) ∧ w5.heap.size < w'.heap.size ∧ Hid (Below w.heap.size w w'))
      (first
        | exact keep2 hbA (by assumption)
        | exact keep2 hbA (begin2 _ _ _ (unhide hb5) (unhide hb5).size)
        | exact keep2 hbA (begin2' _ _ _ (unhide hb5) (unhide hb5).size)
        | exact begin2 _ _ _ (unhide hb5) (unhide hb5).size
        | exact begin2' _ _ _ (unhide hb5) (unhide hb5).size)
      (first
        | (go_at_call 16; refine (mul_any _ _ ?_ ?_ _).mono ?_; (first | exact ha | exact hc | exact i1 | exact im1); (first | exact ha | exact hc | exact i1 | exact im1); rintro e wA ⟨rfl, hbA⟩)
        | (go_at_call 18; refine (of_any _ ?_ _).mono ?_; (exact ha); rintro e wA ⟨rfl, hbA⟩))
    go_wp2_with fail
    go_ret
    rename_i hH
    exact ⟨rfl, unhide hH.2.2.2⟩
  · have tc := ne_beq hc0
    go_enter Try.func7, Try.ntmps7
    go_wp2_with fail
    refine (alive_any _).mono ?_
    rintro e w1 ⟨rfl, hb1⟩
    replace hb1 := hide hb1
    go_wp2_with fail
    refine wp_loop_rounds 3 ?_
    rw [rounds_succ]
    go_wp2_with fail
    refine (unhide h0 _).mono ?_
    rintro e w2 ⟨rfl, hb2⟩
    replace hb2 := hide (below_via (unhide hb1) hb2)
    clear hb1
    go_wp2_with fail
    rw [rounds_succ]
    go_wp2_with fail
    refine (unhide h1 _).mono ?_
    rintro e w3 ⟨rfl, hb3⟩
    replace hb3 := hide (below_via (unhide hb2) hb3)
    clear hb2
    go_wp2_with fail
    rw [rounds_succ]
    go_wp2_with fail
    refine (unhide hof _).mono ?_
    rintro e w4 ⟨rfl, hb4⟩
    replace hb4 := hide (below_via (unhide hb3) hb4)
    clear hb3
    go_wp2_with fail
    refine (unhide hneg _).mono ?_
    rintro e w5 ⟨rfl, hb5⟩
    replace hb5 := hide (below_via (unhide hb4) hb5)
    clear hb4
    go_wp2_with fail
    go_region_held3 (fun w' => w'.cell? ⟨w5.heap.size, 0, none⟩ = some (.int .i64 (hi (-a))) ∧ w'.cell? ⟨w5.heap.size, 1, none⟩ = some (.int .u64 (lo (-a))) ∧ w5.heap.size < w'.heap.size ∧ Hid (Below w.heap.size w w'))
      (first
        | exact keep2 hbA (by assumption)
        | exact keep2 hbA (begin2 _ _ _ (unhide hb5) (unhide hb5).size)
        | exact keep2 hbA (begin2' _ _ _ (unhide hb5) (unhide hb5).size)
        | exact begin2 _ _ _ (unhide hb5) (unhide hb5).size
        | exact begin2' _ _ _ (unhide hb5) (unhide hb5).size)
      (first
        | (go_at_call 16; refine (mul_any _ _ ?_ ?_ _).mono ?_; (first | exact ha | exact hc | exact i1 | exact im1); (first | exact ha | exact hc | exact i1 | exact im1); rintro e wA ⟨rfl, hbA⟩)
        | (go_at_call 18; refine (of_any _ ?_ _).mono ?_; (exact ha); rintro e wA ⟨rfl, hbA⟩))
    go_wp2_with fail
    go_ret
    rename_i hH
    exact ⟨rfl, unhide hH.2.2.2⟩
theorem walk (a c : Int) (w : World) (wa : (Lit.int .i64 a).wf = true) (wc : (Lit.int .i64 c).wf = true) : Good a c w := by
  have ha := in64_of wa
  have hc := in64_of wc
  have h128 : In128 a := ⟨by have := ha.lo; omega, by have := ha.hi; omega⟩
  have hm : In128 (-a) := ⟨by have := ha.hi; omega, by have := ha.lo; omega⟩
  have hneg : NegAt (hi a) (lo a) (hi (-a)) (lo (-a)) := by
    intro w
    have h := neg_any a h128 w
    rw [okW_in hm, okWE_in hm] at h
    exact h
  by_cases h0 : c = 0
  · subst h0
    exact walk_go a 0 _ _ _ _ ha hc (Or.inl rfl) w (muldiv_by0 a 0 0 ha hc (by omega) (by omega)) (muldiv_by0 a 0 1 ha hc (by omega) (by omega)) hneg
  · obtain ⟨q0, q1⟩ := quot_back a c h0
    refine walk_go a c _ _ _ _ ha hc (Or.inr ⟨h0, ?_, ?_, ?_, ?_⟩) w (muldiv_floor a c c ha hc hc h0) (muldiv_near a c c ha hc hc h0) hneg
    · rw [q0, okN_in (turn_in ha)]
    · rw [q0, okE_in (turn_in ha)]
    · rw [q1, okN_in (turn_in ha)]
    · rw [q1, okE_in (turn_in ha)]
theorem own : ownKnob Try.prog.godebug = none := by kernel_rfl
set_option linter.unusedVariables false in
set_option maxRecDepth 100000 in
theorem lifted (os : Os) (started : os.Started) (H : Type) (enc : TypeId × Value → H) :
    ReturnsInHanded {} Try.checked os 7 .any (Rows.wideBackSpec.pre6 enc Try.prog Try.f7 Rows.wideBackRow.domain false) (Rows.wideBackSpec.post enc Try.prog Try.f7 false true false false) := by
  refine returnsInHanded_of_change (C := Try.checked) own started (by kernel_rfl) Try.func7
    (ChangeSpec.witness6 (enc := enc) (C := Try.checked) false ⟨#[], #[.int .i64 0, .int .i64 0], []⟩ 8 (by kernel_rfl) (by kernel_rfl) (by kernel_rfl) (by kernel_rfl)) ?_
  intro W base args ds gs before hval0 hW hcnd _
  have hval : ∀ (j : Nat) t v, Try.f7.params[j]? = some t → args[j]? = some v → Value.okWide Try.prog W .any base t v := hval0
  have hW' := hW
  obtain ⟨p, q, hA0, hV, rfl, hfz, hnd⟩ := hW
  have hA : DataW.TrodAll enc Try.prog W 0 (fun _ => true) true Try.f7.params.toList args.toList ds p := hA0
  rw [Try.params7] at hA hval
  obtain ⟨v0, vs0, d0, ds0, p0, q0, hargs, rfl, rfl, h0, r0⟩ := trodAll_cons hA
  obtain ⟨v1, vs1, d1, ds1, p1, q1, rfl, rfl, rfl, h1, r1⟩ := trodAll_cons r0
  obtain ⟨rfl, rfl, rfl⟩ := trodAll_nil r1
  obtain rfl : args = #[v0, v1] := by cases args; simp_all
  obtain ⟨rfl, rfl⟩ := trodVars_none hV
  obtain ⟨a0, rfl, rfl, rfl, w0⟩ := open_int Try.underlying2 (hval 0 2 v0 rfl rfl) h0
  obtain ⟨a1, rfl, rfl, rfl, w1⟩ := open_int Try.underlying2 (hval 1 2 v1 rfl rfl) h1
  clear hA0 hval0
  simp only [List.append_nil] at hW'
  refine (walk a0 a1 W w0 w1).mono fun e W' ⟨he, bel⟩ => ?_
  subst he
  exact ⟨_, rfl, _, _, _, [], _, [], hW', trodAll_mk1 (shut_bool Try.underlying4 _), (trodAll_cons_mk (shut_int Try.underlying2 w0) (trodAll_cons_mk (shut_int Try.underlying2 w1) trodAll_mk0)), rfl, bel.frame _, fun h => by cases h⟩
theorem over : Rows.wideBackRow.holds Try.pinned (OpenSpec.ofChange Rows.wideBackSpec) :=
  OpenClaim.holds_of_wide 7 Try.f7 rfl rfl rfl rfl rfl rfl rfl ⟨rfl, rfl, rfl, rfl, rfl⟩ rfl rfl rfl rfl rfl (by kernel_rfl) Try.func7 (by kernel_rfl)
    (of_decide_eq_true (by kernel_rfl)) (by unfold Func.isWrapper; first | (rw [if_pos (by decide +kernel)]; kernel_rfl) | (rw [if_neg (by decide +kernel)]; exact ⟨rfl, rfl⟩))
    (fun os started H enc _ => lifted os started H enc)
/-- The statement. -/
theorem proved : Rows.WideBackSaid := over
#print axioms proved
end Go.Proofs.Ytaknjpddjofgeaa.wideBack
namespace Go.Proofs.Ytaknjpddjofgeaa
theorem wideBack_holds : Rows.WideBackSaid := wideBack.proved
end Go.Proofs.Ytaknjpddjofgeaa
