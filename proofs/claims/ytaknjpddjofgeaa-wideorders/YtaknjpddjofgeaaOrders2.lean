/- Proved here: WideOrders: sums go both ways; a number and its negative are nothing together; Compare is an order; a quotient of more is no less. No condition. -/
import Derived.Test.YtaknjpddjofgeaaOrders
import Derived.ProofKit
import Derived.Lib.SmallJoins
import Derived.OpenShut
import Derived.ShutString
import Derived.ChangeOld
import Derived.Below
namespace Go.Proofs.Ytaknjpddjofgeaa.wideOrders
open Go.ChangeShapes Go.WideShapes Go.ChangeAt Go.RowKit
set_option linter.unusedSimpArgs false
theorem eql24 (p q r s : Int) (w : World) : (binOp .eql 24 (.agg #[.int .i64 p, .int .u64 q]) (.agg #[.int .i64 r, .int .u64 s])).run Try.prog w = .ok (.bool (p == r && q == s)) w := by
  have ht : Try.prog.underlying 24 = some (.struct (Try.prog.fieldsOf 24)) := by kernel_rfl
  have hp : Try.prog.stoodInHeld 24 = false := by kernel_rfl
  have hf := TypeDesc.struct.inj (Option.some.inj (ht.symm.trans Try.underlying24))
  rw [run_eql_struct, run_equalIn_agg w 9999 24 _ _ ht hp, hf]
  simp [Op.eqFields, part, isAgg, go_sem, Try.underlying2, Try.underlying22]
  by_cases h1 : p = r
  · by_cases h2 : q = s
    · simp [h1, h2, part, isAgg, go_sem, Try.underlying2, Try.underlying22]
    · simp [h1, h2, part, isAgg, go_sem, Try.underlying2, Try.underlying22]
  · simp [h1, part, isAgg, go_sem, Try.underlying2, Try.underlying22]
theorem same_ord {X Y : Int} (hX : In128 X) (hY : In128 Y) : (hi X == hi Y && lo X == lo Y) = (ord X Y == 0) := by
  by_cases h : X = Y
  · subst h
    simp [ord_same]
  · have h1 : (ord X Y == 0) = false := by rw [beq_eq_false_iff_ne]; exact fun e => h (ord_zero.mp e)
    rw [h1]
    rcases halves_ne hX hY h with a | ⟨a, b⟩
    · simp [a]
    · simp [a, b]
theorem turn_ord (X Y : Int) : (ord X Y != IntKind.i64.wrap (-ord Y X)) = false := by
  rw [ord_neg X Y, Int.neg_neg, show IntKind.i64.wrap (ord X Y) = ord X Y by rw [IntKind.wrap_i64]; have := ord_bd X Y; omega]
  simp
theorem okE_03 (n : Int) : okE n = 0 ∨ okE n = 3 := by unfold okE; split <;> simp
theorem less3 {X Y : Int} (h : X ≤ Y) : okE X = 3 ∨ okE X = 0 ∧ okE Y = 3 ∨ okE X = 0 ∧ okE Y = 0 ∧ decide (okN Y < okN X) = false := by
  by_cases a : turn X = 0
  · by_cases b : turn Y = 0
    · exact Or.inr (Or.inr ⟨okE_in a, okE_in b, by rw [okN_in a, okN_in b]; exact decide_eq_false (by omega)⟩)
    · exact Or.inr (Or.inl ⟨okE_in a, okE_out b⟩)
  · exact Or.inl (okE_out a)
theorem walk_go (X Y d : Int) (hX : In128 X) (hY : In128 Y) (hd : In64 d) (w : World) : Good (hi X) (lo X) (hi Y) (lo Y) d w := by
  have hc : Y + X = X + Y := Int.add_comm Y X
  have a2 := add_any Y X hY hX
  rw [hc] at a2
  refine go X Y _ _ _ d (hi (okW (-X))) (lo (okW (-X))) (okN (quot 0 X d)) (okN (quot 0 Y d)) (okN (quot 1 X d)) (okN (quot 1 Y d)) (okE (quot 0 X d)) (okE (quot 0 Y d)) (okE (quot 1 X d)) (okE (quot 1 Y d)) _ hX hY (turn_ord X Y) (by rw [ord_same]; rfl) rfl w ?_ (hide (add_any X Y hX hY)) (hide a2) (hide ?_) (hide ?_)
  · intro w
    rw [eql24, same_ord hX hY]
  · have n := neg_any X hX
    by_cases h : In128 (-X)
    · right
      rw [okWE_in h] at n
      refine ⟨hide n, hide ?_⟩
      have z := add_any X (-X) hX h
      rw [Int.add_right_neg, okW_in ⟨by omega, by omega⟩, okWE_in ⟨by omega, by omega⟩, hi_zero, lo_zero] at z
      rw [okW_in h]
      exact z
    · left
      rw [okWE_out h] at n
      exact hide n
  · by_cases h0 : d ≤ 0
    · exact Or.inl (decide_eq_true h0)
    · by_cases h1 : 0 < ord X Y
      · exact Or.inr (Or.inl ⟨decide_eq_false h0, decide_eq_true h1⟩)
      · have hle : X ≤ Y := by
          rw [ord_pos] at h1
          omega
        obtain ⟨m0, m1⟩ := quot_mono (d := d) (by omega) hle
        exact Or.inr (Or.inr ⟨decide_eq_false h0, decide_eq_false h1, hide (div_floor X d hX hd (by omega)), hide (div_floor Y d hY hd (by omega)), hide (div_near X d hX hd (by omega)), hide (div_near Y d hY hd (by omega)), less3 m0, less3 m1⟩)
theorem walk (p q r s d : Int) (w : World) (wp : (Lit.int .i64 p).wf = true) (wq : (Lit.int .u64 q).wf = true) (wr : (Lit.int .i64 r).wf = true) (ws : (Lit.int .u64 s).wf = true) (wd : (Lit.int .i64 d).wf = true) : Good p q r s d w := by
  have hp := in64_of wp
  have hr := in64_of wr
  have hq := bounds_u64 wq
  have hs := bounds_u64 ws
  obtain ⟨e1, e2, hX⟩ := hi_mk (h := p) (l := q) hp.lo hp.hi (by omega) (by omega)
  obtain ⟨e3, e4, hY⟩ := hi_mk (h := r) (l := s) hr.lo hr.hi (by omega) (by omega)
  have := walk_go _ _ d hX hY (in64_of wd) w
  rwa [e1, e2, e3, e4] at this
theorem cells24 : Try.prog.cellsOf 24 = 2 := by kernel_rfl
theorem one_int {H : Type} {enc : TypeId × Value → H} {P : Program} {w : World} {base : Nat} {spare : Nat → Bool} {held : Bool} {k : IntKind} {a : Int} {T : TypeId} (hu : P.underlying T = some (.int k)) (h : (Lit.int k a).wf = true) : ∃ n, DataW.trod enc P w base spare held n T [.int k a] = some (.lit (.int k a), []) := ⟨1, by simp [DataW.trod, hu, h]⟩
theorem own : ownKnob Try.prog.godebug = none := by kernel_rfl
set_option linter.unusedVariables false in
set_option maxRecDepth 100000 in
theorem lifted (os : Os) (started : os.Started) (H : Type) (enc : TypeId × Value → H) :
    ReturnsInHanded {} Try.checked os 6 .any (Rows.wideOrdersSpec.pre6 enc Try.prog Try.f6 Rows.wideOrdersRow.domain false) (Rows.wideOrdersSpec.post enc Try.prog Try.f6 false true false false) := by
  refine returnsInHanded_of_change (C := Try.checked) own started (by kernel_rfl) Try.func6
    (ChangeSpec.witness6 (enc := enc) (C := Try.checked) false ⟨#[], #[.agg #[.int .i64 0, .int .u64 0], .agg #[.int .i64 0, .int .u64 0], .int .i64 0], []⟩ 8 (by kernel_rfl) (by kernel_rfl) (by kernel_rfl) (by kernel_rfl)) ?_
  intro W base args ds gs before hval0 hW hcnd _
  have hval : ∀ (j : Nat) t v, Try.f6.params[j]? = some t → args[j]? = some v → Value.okWide Try.prog W .any base t v := hval0
  have hW' := hW
  obtain ⟨p, q, hA0, hV, rfl, hfz, hnd⟩ := hW
  have hA : DataW.TrodAll enc Try.prog W 0 (fun _ => true) true Try.f6.params.toList args.toList ds p := hA0
  rw [Try.params6] at hA hval
  obtain ⟨v0, vs0, d0, ds0, p0, q0, hargs, rfl, rfl, h0, r0⟩ := trodAll_cons hA
  obtain ⟨v1, vs1, d1, ds1, p1, q1, rfl, rfl, rfl, h1, r1⟩ := trodAll_cons r0
  obtain ⟨v2, vs2, d2, ds2, p2, q2, rfl, rfl, rfl, h2, r2⟩ := trodAll_cons r1
  obtain ⟨rfl, rfl, rfl⟩ := trodAll_nil r2
  obtain rfl : args = #[v0, v1, v2] := by cases args; simp_all
  obtain ⟨rfl, rfl⟩ := trodVars_none hV
  obtain ⟨c00, c01, y00, y01, m0, rfl, rfl, rfl, hy00, hy01⟩ := Joins.open_agg2 Try.underlying24 (by kernel_rfl) cells24 (hval 0 24 v0 rfl rfl) h0
  obtain ⟨a00, e00, rfl, w00⟩ := DataW.trod_int Try.underlying2 hy00
  obtain ⟨a01, e01, rfl, w01⟩ := DataW.trod_int Try.underlying22 hy01
  simp at e00 e01
  subst e00 e01
  obtain ⟨c10, c11, y10, y11, m1, rfl, rfl, rfl, hy10, hy11⟩ := Joins.open_agg2 Try.underlying24 (by kernel_rfl) cells24 (hval 1 24 v1 rfl rfl) h1
  obtain ⟨a10, e10, rfl, w10⟩ := DataW.trod_int Try.underlying2 hy10
  obtain ⟨a11, e11, rfl, w11⟩ := DataW.trod_int Try.underlying22 hy11
  simp at e10 e11
  subst e10 e11
  obtain ⟨a2, rfl, rfl, rfl, w2⟩ := open_int Try.underlying2 (hval 2 2 v2 rfl rfl) h2
  clear hA0 hval0
  simp only [List.append_nil] at hW'
  refine (walk a00 a01 a10 a11 a2 W w00 w01 w10 w11 w2).mono fun e W' ⟨he, bel⟩ => ?_
  subst he
  exact ⟨_, rfl, _, _, _, [], _, [], hW', trodAll_mk1 (shut_bool Try.underlying4 _), (trodAll_cons_mk (Joins.shut_agg2 (y0 := (.lit (.int .i64 a00), [])) (y1 := (.lit (.int .u64 a01), [])) Try.underlying24 (by kernel_rfl) cells24 (one_int Try.underlying2 w00) (one_int Try.underlying22 w01)) (trodAll_cons_mk (Joins.shut_agg2 (y0 := (.lit (.int .i64 a10), [])) (y1 := (.lit (.int .u64 a11), [])) Try.underlying24 (by kernel_rfl) cells24 (one_int Try.underlying2 w10) (one_int Try.underlying22 w11)) (trodAll_cons_mk (shut_int Try.underlying2 w2) trodAll_mk0))), rfl, bel.frame _, fun h => by cases h⟩
theorem over : Rows.wideOrdersRow.holds Try.pinned (OpenSpec.ofChange Rows.wideOrdersSpec) :=
  OpenClaim.holds_of_wide 6 Try.f6 rfl rfl rfl rfl rfl rfl rfl ⟨rfl, rfl, rfl, rfl, rfl⟩ rfl rfl rfl rfl rfl (by kernel_rfl) Try.func6 (by kernel_rfl)
    (of_decide_eq_true (by kernel_rfl)) (by unfold Func.isWrapper; first | (rw [if_pos (by decide +kernel)]; kernel_rfl) | (rw [if_neg (by decide +kernel)]; exact ⟨rfl, rfl⟩))
    (fun os started H enc _ => lifted os started H enc)
/-- The statement. -/
theorem proved : Rows.WideOrdersSaid := over
#print axioms proved
end Go.Proofs.Ytaknjpddjofgeaa.wideOrders
namespace Go.Proofs.Ytaknjpddjofgeaa
theorem wideOrders_holds : Rows.WideOrdersSaid := wideOrders.proved
end Go.Proofs.Ytaknjpddjofgeaa
