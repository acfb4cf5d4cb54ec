/- Proved here: DayNumbers: any date's number, any number's date and weekday, any month's days, or the error, are the reference's. No condition. -/
import Derived.Test.YtkgaonblgclfcaaAlive
import Derived.Test.YtkgaonblgclfcaaRef3
import Derived.WalkKit
import Derived.WalkSpells
import Derived.Lib.SmallJoins
import Derived.ProofKit
import Derived.OpenShut
import Derived.ShutString
import Derived.ChangeOld
import Derived.Below
namespace Go.Proofs.Ytkgaonblgclfcaa.dayNumbers
open Go.ChangeShapes Go.WideShapes Go.ChangeAt Go.RowKit
set_option linter.unusedSimpArgs false
theorem eql29 (p q r p' q' r' : Int) (w : World) : (binOp .eql 29 (.agg #[.int .i64 p, .int .i64 q, .int .i64 r]) (.agg #[.int .i64 p', .int .i64 q', .int .i64 r'])).run Try.prog w = .ok (.bool (p == p' && (q == q' && r == r'))) w := by
  have ht : Try.prog.underlying 29 = some (.struct (Try.prog.fieldsOf 29)) := by kernel_rfl
  have hp : Try.prog.stoodInHeld 29 = false := by kernel_rfl
  have hf := TypeDesc.struct.inj (Option.some.inj (ht.symm.trans Try.underlying29))
  rw [run_eql_struct, run_equalIn_agg w 9999 29 _ _ ht hp, hf]
  simp [Op.eqFields, part, isAgg, go_sem, Try.underlying3]
  by_cases h1 : p = p'
  · by_cases h2 : q = q'
    · by_cases h3 : r = r' <;> simp [h1, h2, h3, part, isAgg, go_sem, Try.underlying3]
    · simp [h1, h2, part, isAgg, go_sem, Try.underlying3]
  · simp [h1, part, isAgg, go_sem, Try.underlying3]
def Good (y m d n : Int) (w : World) : Prop := Calls Try.prog 3 #[.agg #[.int .i64 y, .int .i64 m, .int .i64 d], .int .i64 n] w fun e w' => e = .returned (.bool true) ∧ Below w.heap.size w w'
set_option maxRecDepth 20000 in
set_option maxHeartbeats 8000000 in
theorem go (y m d n a e Y M D f x l : Int) (L : Bool) (w : World) (h1 : Hid (Froms y m d a e)) (h2 : Hid (RFroms y m d a e)) (h3 : Hid (Tos n Y M D f)) (h4 : Hid (RTos n Y M D f)) (h5 : Hid (Q 13 #[.int .i64 n] (.int .i64 x))) (h6 : Hid (Q 14 #[.int .i64 n] (.int .i64 x)))
    (h7 : Hid (Q 15 #[.int .i64 y] (.bool L))) (h8 : Hid (Q 16 #[.int .i64 y] (.bool L))) (h9 : Hid (Q 17 #[.int .i64 y, .int .i64 m] (.int .i64 l))) (h10 : Hid (Q 18 #[.int .i64 y, .int .i64 m] (.int .i64 l)))
    (hq : ∀ w, (binOp .eql 29 (.agg #[.int .i64 Y, .int .i64 M, .int .i64 D]) (.agg #[.int .i64 Y, .int .i64 M, .int .i64 D])).run Try.prog w = .ok (.bool true) w) (_q1 : (a == a) = true) (_q2 : (e == e) = true) (_q3 : (f == f) = true) (_q4 : (x == x) = true) (_q5 : (L == L) = true) (_q6 : (l == l) = true) : Good y m d n w := by
  unfold Good
  have hal := hide alive_any
  go_enter Try.func3, Try.ntmps3
  go_wp2_with fail
  have A1 := R3.new w y m d
  have A3 := (Below.refl w.heap.size w).alloc (Nat.le_refl _) (.cells #[.int .i64 y, .int .i64 m, .int .i64 d] 23)
  generalize w.alloc (.cells #[.int .i64 y, .int .i64 m, .int .i64 d] 23) = W at A1 A3 ⊢
  refine (unhide hal _).mono ?_
  rintro e w1 ⟨rfl, hb1⟩
  replace A1 := A1.keep hb1 A1.lt
  replace A3 := hide (below_via A3 hb1)
  clear hb1 hal
  have c0 := A1.c0
  have c1 := A1.c1
  have c2 := A1.c2
  go_wp2_with fail
  clear c0 c1 c2
  refine (unhide h1 _).mono ?_
  rintro e w2 ⟨rfl, hb2⟩
  replace A1 := A1.keep hb2 A1.lt
  replace A3 := hide (below_via (unhide A3) hb2)
  clear hb2
  have c0 := A1.c0
  have c1 := A1.c1
  have c2 := A1.c2
  go_wp2_with fail
  clear c0 c1 c2
  refine (unhide h2 _).mono ?_
  rintro e w3 ⟨rfl, hb3⟩
  replace A1 := A1.keep hb3 A1.lt
  replace A3 := hide (below_via (unhide A3) hb3)
  clear hb3
  go_wp2_with fail
  refine (unhide h3 _).mono ?_
  rintro e w4 ⟨rfl, hb4⟩
  replace A1 := A1.keep hb4 A1.lt
  replace A3 := hide (below_via (unhide A3) hb4)
  clear hb4
  replace A1 := A1.alloc (.cells #[.int .i64 Y, .int .i64 M, .int .i64 D] 23)
  have A2 := R3.new w4 Y M D
  replace A3 := hide (below_via (unhide A3) ((Below.refl w4.heap.size w4).alloc (Nat.le_refl _) (.cells #[.int .i64 Y, .int .i64 M, .int .i64 D] 23)))
  go_wp2_with fail
  generalize w4.alloc (.cells #[.int .i64 Y, .int .i64 M, .int .i64 D] 23) = W4 at A1 A2 A3 ⊢
  refine (unhide h4 _).mono ?_
  rintro e w5 ⟨rfl, hb5⟩
  replace A1 := A1.keep hb5 A1.lt
  replace A2 := A2.keep hb5 A2.lt
  replace A3 := hide (below_via (unhide A3) hb5)
  clear hb5
  replace A1 := A1.alloc (.cells #[.int .i64 Y, .int .i64 M, .int .i64 D] 29)
  replace A2 := A2.alloc (.cells #[.int .i64 Y, .int .i64 M, .int .i64 D] 29)
  have A4 := R9.new w5 Y M D
  replace A3 := hide (below_via (unhide A3) ((Below.refl w5.heap.size w5).alloc (Nat.le_refl _) (.cells #[.int .i64 Y, .int .i64 M, .int .i64 D] 29)))
  go_wp2_with fail
  obtain ⟨b4, hb4⟩ : ∃ b, b = w4.heap.size := ⟨_, rfl⟩
  obtain ⟨b5, hb5⟩ : ∃ b, b = w5.heap.size := ⟨_, rfl⟩
  rw [← hb4] at A2 ⊢
  rw [← hb5] at A4 ⊢
  generalize w5.alloc (.cells #[.int .i64 Y, .int .i64 M, .int .i64 D] 29) = W5 at A1 A2 A3 A4 ⊢
  clear hb4 hb5
  have c0 := A1.c0
  have c1 := A1.c1
  have x0 := A2.c0
  have x1 := A2.c1
  have x2 := A2.c2
  have y0 := A4.c0
  have y1 := A4.c1
  have y2 := A4.c2
  replace A1 := hide A1
  replace A2 := hide A2
  replace A4 := hide A4
  go_quiet (first | (go_at_call 13; exact Calls.quiet_of_same (unhide h5 _)) | (go_at_call 14; exact Calls.quiet_of_same (unhide h6 _)) | (go_at_call 15; exact Calls.quiet_of_same (unhide h7 _)) | (go_at_call 16; exact Calls.quiet_of_same (unhide h8 _)) | (go_at_call 17; exact Calls.quiet_of_same (unhide h9 _)) | (go_at_call 18; exact Calls.quiet_of_same (unhide h10 _)))
  go_wp2_with fail
  go_ret
  exact ⟨rfl, below_drewN (unhide A3) _⟩
theorem walk (y m d n : Int) (w : World) (_wy : (Lit.int .i64 y).wf = true) (_wm : (Lit.int .i64 m).wf = true) (_wd : (Lit.int .i64 d).wf = true) (_wn : (Lit.int .i64 n).wf = true) : Calls Try.prog 3 #[.agg #[.int .i64 y, .int .i64 m, .int .i64 d], .int .i64 n] w fun e w' => e = .returned (.bool true) ∧ Below w.heap.size w w' := by
  have hF : ∃ a e, Froms y m d a e ∧ RFroms y m d a e := by
    by_cases h : Valid y m d
    · exact ⟨_, _, from_ok h, rfrom_ok h⟩
    · exact ⟨_, _, from_no h, rfrom_no h⟩
  have hT : ∃ Y M D f, Tos n Y M D f ∧ RTos n Y M D f := by
    by_cases c : 1 ≤ n ∧ n ≤ 3652059
    · obtain ⟨Y, M, D, hv, e⟩ := date_of n c.1 c.2
      refine ⟨Y, M, D, 0, ?_⟩
      rw [← e]
      exact ⟨to_ok Y M D hv, rto_ok Y M D hv⟩
    · exact ⟨0, 0, 0, 5, to_no n (by omega), rto_no n (by omega)⟩
  obtain ⟨a, e, f1, f2⟩ := hF
  obtain ⟨Y, M, D, f, t1, t2⟩ := hT
  exact go y m d n a e Y M D f _ _ _ w (hide f1) (hide f2) (hide t1) (hide t2) (hide (weekday_any n)) (hide (rweekday_any n)) (hide (leap_any y)) (hide (rleap_any y)) (hide (last_any y m)) (hide (rlast_any y m)) (fun w => by rw [eql29]; simp) (by simp) (by simp) (by simp) (by simp) (by simp) (by simp)
theorem cells23 : Try.prog.cellsOf 23 = 3 := by kernel_rfl
theorem one_int {H : Type} {enc : TypeId × Value → H} {P : Program} {w : World} {base : Nat} {spare : Nat → Bool} {held : Bool} {k : IntKind} {a : Int} {T : TypeId} (hu : P.underlying T = some (.int k)) (h : (Lit.int k a).wf = true) : ∃ n, DataW.trod enc P w base spare held n T [.int k a] = some (.lit (.int k a), []) := ⟨1, by simp [DataW.trod, hu, h]⟩
theorem own : ownKnob Try.prog.godebug = none := by kernel_rfl
set_option linter.unusedVariables false in
set_option maxRecDepth 100000 in
theorem lifted (os : Os) (started : os.Started) (H : Type) (enc : TypeId × Value → H) :
    ReturnsInHanded {} Try.checked os 3 .any (Rows.dayNumbersSpec.pre6 enc Try.prog Try.f3 Rows.dayNumbersRow.domain false) (Rows.dayNumbersSpec.post enc Try.prog Try.f3 false true false false) := by
  refine returnsInHanded_of_change (C := Try.checked) own started (by kernel_rfl) Try.func3
    (ChangeSpec.witness6 (enc := enc) (C := Try.checked) false ⟨#[], #[.agg #[.int .i64 0, .int .i64 0, .int .i64 0], .int .i64 0], []⟩ 8 (by kernel_rfl) (by kernel_rfl) (by kernel_rfl) (by kernel_rfl)) ?_
  intro W base args ds gs before hval0 hW hcnd _
  have hval : ∀ (j : Nat) t v, Try.f3.params[j]? = some t → args[j]? = some v → Value.okWide Try.prog W .any base t v := hval0
  have hW' := hW
  obtain ⟨p, q, hA0, hV, rfl, hfz, hnd⟩ := hW
  have hA : DataW.TrodAll enc Try.prog W 0 (fun _ => true) true Try.f3.params.toList args.toList ds p := hA0
  rw [Try.params3] at hA hval
  obtain ⟨v0, vs0, d0, ds0, p0, q0, hargs, rfl, rfl, h0, r0⟩ := trodAll_cons hA
  obtain ⟨v1, vs1, d1, ds1, p1, q1, rfl, rfl, rfl, h1, r1⟩ := trodAll_cons r0
  obtain ⟨rfl, rfl, rfl⟩ := trodAll_nil r1
  obtain rfl : args = #[v0, v1] := by cases args; simp_all
  obtain ⟨rfl, rfl⟩ := trodVars_none hV
  obtain ⟨c00, c01, c02, y00, y01, y02, m0, rfl, rfl, rfl, hy00, hy01, hy02⟩ := Joins.open_agg3 Try.underlying23 (by kernel_rfl) cells23 (hval 0 23 v0 rfl rfl) h0
  obtain ⟨a00, e00, rfl, w00⟩ := DataW.trod_int Try.underlying3 hy00
  obtain ⟨a01, e01, rfl, w01⟩ := DataW.trod_int Try.underlying3 hy01
  obtain ⟨a02, e02, rfl, w02⟩ := DataW.trod_int Try.underlying3 hy02
  simp at e00 e01 e02
  subst e00 e01 e02
  obtain ⟨a1, rfl, rfl, rfl, w1⟩ := open_int Try.underlying3 (hval 1 3 v1 rfl rfl) h1
  clear hA0 hval0
  simp only [List.append_nil] at hW'
  refine (walk a00 a01 a02 a1 W w00 w01 w02 w1).mono fun e W' ⟨he, bel⟩ => ?_
  subst he
  exact ⟨_, rfl, _, _, _, [], _, [], hW', trodAll_mk1 (shut_bool Try.underlying4 _), (trodAll_cons_mk (Joins.shut_agg3 (y0 := (.lit (.int .i64 a00), [])) (y1 := (.lit (.int .i64 a01), [])) (y2 := (.lit (.int .i64 a02), [])) Try.underlying23 (by kernel_rfl) cells23 (one_int Try.underlying3 w00) (one_int Try.underlying3 w01) (one_int Try.underlying3 w02)) (trodAll_cons_mk (shut_int Try.underlying3 w1) trodAll_mk0)), rfl, bel.frame _, fun h => by cases h⟩
theorem over : Rows.dayNumbersRow.holds Try.pinned (OpenSpec.ofChange Rows.dayNumbersSpec) :=
  OpenClaim.holds_of_wide 3 Try.f3 rfl rfl rfl rfl rfl rfl rfl ⟨rfl, rfl, rfl, rfl, rfl⟩ rfl rfl rfl rfl rfl (by kernel_rfl) Try.func3 (by kernel_rfl)
    (of_decide_eq_true (by kernel_rfl)) (by unfold Func.isWrapper; first | (rw [if_pos (by decide +kernel)]; kernel_rfl) | (rw [if_neg (by decide +kernel)]; exact ⟨rfl, rfl⟩))
    (fun os started H enc _ => lifted os started H enc)
/-- The statement. -/
theorem proved : Rows.DayNumbersSaid := over
#print axioms proved
end Go.Proofs.Ytkgaonblgclfcaa.dayNumbers
namespace Go.Proofs.Ytkgaonblgclfcaa
theorem dayNumbers_holds : Rows.DayNumbersSaid := dayNumbers.proved
end Go.Proofs.Ytkgaonblgclfcaa
