/- Proved here: WideDivides: quotients, and products divided, of any numbers and ways, are the reference's, or the error. No condition. -/
import Derived.Test.YtaknjpddjofgeaaAlive
import Derived.Test.YtaknjpddjofgeaaDivs
import Derived.Test.YtaknjpddjofgeaaAsked
import Derived.ProofKit
import Derived.OpenShut
import Derived.ShutString
import Derived.ChangeOld
import Derived.Below
namespace Go.Proofs.Ytaknjpddjofgeaa.wideDivides
open Go.ChangeShapes Go.WideShapes Go.ChangeAt Go.RowKit
set_option linter.unusedSimpArgs false
def Divs (X b way n e : Int) : Prop := ∀ w : World, Calls Try.prog 20 #[.agg #[.int .i64 (hi X), .int .u64 (lo X)], .int .i64 b, .int .i64 way] w fun z w' => z = .returned (.tuple #[.int .i64 n, .int .i64 e]) ∧ Below w.heap.size w w'
def Muls (a b c way n e : Int) : Prop := ∀ w : World, Calls Try.prog 22 #[.int .i64 a, .int .i64 b, .int .i64 c, .int .i64 way] w fun z w' => z = .returned (.tuple #[.int .i64 n, .int .i64 e]) ∧ Below w.heap.size w w'
theorem muldiv_arg (a b c way : Int) (ha : In64 a) (hb : In64 b) (h : way < 0 ∨ 2 ≤ way) : Muls a b c way 0 2 := by
  intro w
  have hm := hide (mul_any a b ha hb)
  have hd := hide (div_arg (a * b) c way h)
  clear h
  generalize a * b = X at *
  go_enter Try.func22, Try.ntmps22
  go_wp2_with fail
  refine (unhide hm _).mono ?_
  rintro e w1 ⟨rfl, hb1⟩
  have HB := hide hb1
  clear hb1
  go_wp2_with fail
  refine (unhide hd _).mono ?_
  rintro e w2 ⟨rfl, hb2⟩
  go_wp2_with fail
  go_ret2
  exact ⟨rfl, below_via (unhide HB) hb2⟩
theorem divs_any (X b way : Int) (hX : In128 X) (hb : In64 b) : Divs X b way (aN way X b) (aE way X b) := by
  unfold aN aE
  by_cases hw : way = 0 ∨ way = 1
  · rw [if_pos hw, if_pos hw]
    by_cases h0 : b = 0
    · rw [if_pos h0, if_pos h0, h0]
      exact div_by0 X way (by omega) (by omega)
    · rw [if_neg h0, if_neg h0]
      rcases hw with rfl | rfl
      · exact div_floor X b hX hb h0
      · exact div_near X b hX hb h0
  · rw [if_neg hw, if_neg hw]
    exact div_arg X b way (by omega)
theorem muls_any (a b c way : Int) (ha : In64 a) (hb : In64 b) (hc : In64 c) : Muls a b c way (aN way (a * b) c) (aE way (a * b) c) := by
  unfold aN aE
  by_cases hw : way = 0 ∨ way = 1
  · rw [if_pos hw, if_pos hw]
    by_cases h0 : c = 0
    · rw [if_pos h0, if_pos h0, h0]
      exact muldiv_by0 a b way ha hb (by omega) (by omega)
    · rw [if_neg h0, if_neg h0]
      rcases hw with rfl | rfl
      · exact muldiv_floor a b c ha hb hc h0
      · exact muldiv_near a b c ha hb hc h0
  · rw [if_neg hw, if_neg hw]
    exact muldiv_arg a b c way ha hb (by omega)
def Good (X b c d way : Int) (w : World) : Prop := Calls Try.prog 4 #[.agg #[.int .i64 (hi X), .int .u64 (lo X), .int .i64 b, .int .i64 c, .int .i64 d, .int .i64 way]] w fun e w' => e = .returned (.bool true) ∧ Below w.heap.size w w'
set_option maxRecDepth 20000 in
set_option maxHeartbeats 4000000 in
theorem go (X b c d way x e p g : Int) (w : World) (h1 : Hid (Divs X b way x e)) (h2 : Hid (RDivs X b way x e)) (h3 : Hid (Muls c d b way p g)) (h4 : Hid (RMuls c d b way p g)) : Good X b c d way w := by
  unfold Good
  unfold Divs at h1
  unfold RDivs at h2
  have hal := hide alive_any
  generalize hi X = hX at *
  generalize lo X = lX at *
  go_enter Try.func4, Try.ntmps4
  go_wp2_with fail
  have A1 : (w.alloc (.cells #[.int .i64 hX, .int .u64 lX, .int .i64 b, .int .i64 c, .int .i64 d, .int .i64 way] 44)).heap[w.heap.size]? = some (.cells #[.int .i64 hX, .int .u64 lX, .int .i64 b, .int .i64 c, .int .i64 d, .int .i64 way] 44 (0, 0)) := heap_alloc_new w _
  have A3 := (Below.refl w.heap.size w).alloc (Nat.le_refl _) (.cells #[.int .i64 hX, .int .u64 lX, .int .i64 b, .int .i64 c, .int .i64 d, .int .i64 way] 44)
  generalize w.alloc (.cells #[.int .i64 hX, .int .u64 lX, .int .i64 b, .int .i64 c, .int .i64 d, .int .i64 way] 44) = W at A1 A3 ⊢
  refine (unhide hal _).mono ?_
  rintro e w1 ⟨rfl, hb1⟩
  replace A1 := (hb1.block _ (Array.getElem?_eq_some_iff.1 A1).1).trans A1
  replace A3 := hide (below_via A3 hb1)
  have l1 : w.heap.size < w1.heap.size := (Array.getElem?_eq_some_iff.1 A1).1
  clear hb1 hal
  have c0 : w1.cell? ⟨w.heap.size, 0, none⟩ = some (.int .i64 hX) := by rw [cell_of_row w1 _ 0 _ _ _ A1]; rfl
  have c1 : w1.cell? ⟨w.heap.size, 1, none⟩ = some (.int .u64 lX) := by rw [cell_of_row w1 _ 1 _ _ _ A1]; rfl
  have c2 : w1.cell? ⟨w.heap.size, 2, none⟩ = some (.int .i64 b) := by rw [cell_of_row w1 _ 2 _ _ _ A1]; rfl
  have c3 : w1.cell? ⟨w.heap.size, 3, none⟩ = some (.int .i64 c) := by rw [cell_of_row w1 _ 3 _ _ _ A1]; rfl
  have c4 : w1.cell? ⟨w.heap.size, 4, none⟩ = some (.int .i64 d) := by rw [cell_of_row w1 _ 4 _ _ _ A1]; rfl
  have c5 : w1.cell? ⟨w.heap.size, 5, none⟩ = some (.int .i64 way) := by rw [cell_of_row w1 _ 5 _ _ _ A1]; rfl
  replace A1 := hide A1
  go_wp2_with fail
  go_region
  clear c0 c1 c2 c3 c4 c5
  have A4 : ((w1.alloc (.cells #[.int .i64 hX, .int .u64 lX] 24)).drew).heap[w1.heap.size]? = some (.cells #[.int .i64 hX, .int .u64 lX] 24 (0, 0)) := heap_alloc_new w1 _
  replace A3 := hide (below_via (unhide A3) (below_drew ((Below.refl w1.heap.size w1).alloc (Nat.le_refl _) (.cells #[.int .i64 hX, .int .u64 lX] 24))))
  generalize (w1.alloc (.cells #[.int .i64 hX, .int .u64 lX] 24)).drew = w2 at A3 A4 ⊢
  have x0 : w2.cell? ⟨w1.heap.size, 0, none⟩ = some (.int .i64 hX) := by rw [cell_of_row w2 _ 0 _ _ _ A4]; rfl
  have x1 : w2.cell? ⟨w1.heap.size, 1, none⟩ = some (.int .u64 lX) := by rw [cell_of_row w2 _ 1 _ _ _ A4]; rfl
  replace A4 := hide A4
  clear A1
  go_wp2_with fail
  clear x0 x1
  refine (unhide h1 _).mono ?_
  rintro e w3 ⟨rfl, hb3⟩
  have A5 := (hb3.block _ (Array.getElem?_eq_some_iff.1 (unhide A4)).1).trans (unhide A4)
  replace A3 := hide (below_via (unhide A3) hb3)
  have x0 : w3.cell? ⟨w1.heap.size, 0, none⟩ = some (.int .i64 hX) := by rw [cell_of_row w3 _ 0 _ _ _ A5]; rfl
  have x1 : w3.cell? ⟨w1.heap.size, 1, none⟩ = some (.int .u64 lX) := by rw [cell_of_row w3 _ 1 _ _ _ A5]; rfl
  clear hb3 A4 A5
  go_wp2_with fail
  clear x0 x1
  refine (unhide h2 _).mono ?_
  rintro e w4 ⟨rfl, hb4⟩
  replace A3 := hide (below_via (unhide A3) hb4)
  clear hb4
  go_wp2_with fail
  refine (unhide h3 _).mono ?_
  rintro e w5 ⟨rfl, hb5⟩
  replace A3 := hide (below_via (unhide A3) hb5)
  clear hb5
  go_wp2_with fail
  refine (unhide h4 _).mono ?_
  rintro e w6 ⟨rfl, hb6⟩
  replace A3 := hide (below_via (unhide A3) hb6)
  clear hb6
  go_wp2_with fail
  go_ret
  exact ⟨rfl, unhide A3⟩
theorem walk (p q b c d way : Int) (w : World) (wp : (Lit.int .i64 p).wf = true) (wq : (Lit.int .u64 q).wf = true) (wb : (Lit.int .i64 b).wf = true) (wc : (Lit.int .i64 c).wf = true) (wd : (Lit.int .i64 d).wf = true) (_wy : (Lit.int .i64 way).wf = true) : Calls Try.prog 4 #[.agg #[.int .i64 p, .int .u64 q, .int .i64 b, .int .i64 c, .int .i64 d, .int .i64 way]] w fun e w' => e = .returned (.bool true) ∧ Below w.heap.size w w' := by
  have hp := in64_of wp
  have hq := bounds_u64 wq
  obtain ⟨e1, e2, hX⟩ := hi_mk (h := p) (l := q) hp.lo hp.hi (by omega) (by omega)
  have h := go _ b c d way _ _ _ _ w (hide (divs_any _ b way hX (in64_of wb))) (hide (rDiv_any _ b way hX (in64_of wb))) (hide (muls_any c d b way (in64_of wc) (in64_of wd) (in64_of wb))) (hide (rMul_any c d b way (in64_of wc) (in64_of wd) (in64_of wb)))
  unfold Good at h
  rwa [e1, e2] at h
theorem own : ownKnob Try.prog.godebug = none := by kernel_rfl
set_option linter.unusedVariables false in
set_option maxRecDepth 100000 in
theorem lifted (os : Os) (started : os.Started) (H : Type) (enc : TypeId × Value → H) :
    ReturnsInHanded {} Try.checked os 4 .any (Rows.wideDividesSpec.pre6 enc Try.prog Try.f4 Rows.wideDividesRow.domain false) (Rows.wideDividesSpec.post enc Try.prog Try.f4 false true false false) := by
  refine returnsInHanded_of_change (C := Try.checked) own started (by kernel_rfl) Try.func4
    (ChangeSpec.witness6 (enc := enc) (C := Try.checked) false ⟨#[], #[.agg #[.int .i64 0, .int .u64 0, .int .i64 0, .int .i64 0, .int .i64 0, .int .i64 0]], []⟩ 8 (by kernel_rfl) (by kernel_rfl) (by kernel_rfl) (by kernel_rfl)) ?_
  intro W base args ds gs before hval0 hW hcnd _
  have hval : ∀ (j : Nat) t v, Try.f4.params[j]? = some t → args[j]? = some v → Value.okWide Try.prog W .any base t v := hval0
  have hW' := hW
  obtain ⟨p, q, hA0, hV, rfl, hfz, hnd⟩ := hW
  have hA : DataW.TrodAll enc Try.prog W 0 (fun _ => true) true Try.f4.params.toList args.toList ds p := hA0
  rw [Try.params4] at hA hval
  obtain ⟨v0, vs0, d0, ds0, p0, q0, hargs, rfl, rfl, h0, r0⟩ := trodAll_cons hA
  obtain ⟨rfl, rfl, rfl⟩ := trodAll_nil r0
  obtain rfl : args = #[v0] := by cases args; simp_all
  obtain ⟨rfl, rfl⟩ := trodVars_none hV
  obtain ⟨a0, a1, a2, a3, a4, a5, rfl, rfl, rfl, w0, w1, w2, w3, w4, w5⟩ := open_asked (hval 0 44 v0 rfl rfl) h0
  clear hA0 hval0
  simp only [List.append_nil] at hW'
  refine (walk a0 a1 a2 a3 a4 a5 W w0 w1 w2 w3 w4 w5).mono fun e W' ⟨he, bel⟩ => ?_
  subst he
  exact ⟨_, rfl, _, _, _, [], _, [], hW', trodAll_mk1 (shut_bool Try.underlying4 _), (trodAll_cons_mk (shut_asked w0 w1 w2 w3 w4 w5) trodAll_mk0), rfl, bel.frame _, fun h => by cases h⟩
theorem over : Rows.wideDividesRow.holds Try.pinned (OpenSpec.ofChange Rows.wideDividesSpec) :=
  OpenClaim.holds_of_wide 4 Try.f4 rfl rfl rfl rfl rfl rfl rfl ⟨rfl, rfl, rfl, rfl, rfl⟩ rfl rfl rfl rfl rfl (by kernel_rfl) Try.func4 (by kernel_rfl)
    (of_decide_eq_true (by kernel_rfl)) (by unfold Func.isWrapper; first | (rw [if_pos (by decide +kernel)]; kernel_rfl) | (rw [if_neg (by decide +kernel)]; exact ⟨rfl, rfl⟩))
    (fun os started H enc _ => lifted os started H enc)
/-- The statement. -/
theorem proved : Rows.WideDividesSaid := over
#print axioms proved
end Go.Proofs.Ytaknjpddjofgeaa.wideDivides
namespace Go.Proofs.Ytaknjpddjofgeaa
theorem wideDivides_holds : Rows.WideDividesSaid := wideDivides.proved
end Go.Proofs.Ytaknjpddjofgeaa
