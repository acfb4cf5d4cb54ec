/- Proved here: LoanNews: a loan of any outlay and flows is the document's, or the error; it stays when the flows that were handed in are turned; it is right. No condition. -/
import Derived.Test.YtpeoabopeihadaaNQL
import Derived.Test.YtpeoabopeihadaaNU
import Derived.Conc.LeavingOf
set_option linter.unusedVariables false
set_option linter.unusedSimpArgs false
set_option linter.unusedSectionVars false
namespace Go.Proofs.Ytpeoabopeihadaa.Mn.loanNews
open Go.ChangeShapes Go.WideShapes Go.ChangeAt Go.RowKit Go.Conc
open Go.Proofs.Ytpeoabopeihadaa.Sim
theorem kept_in (W : World) (x0 : Int) (x1 : Int) (ad2 : Option Addr) (ln2 cp2 : Nat) (zs2 : List Int) (h01 : ∀ g, g < 2 → ∃ ys t gz, W.heap[g]? = some (.cells ys t gz)) (hx0 : In64 x0) (hx1 : In64 x1) (hb2 : ∀ a, ad2 = some a → ∃ ys t gz, W.heap[a.block]? = some (.cells ys t gz)) (hR2 : Row W (.slice ad2 ln2 cp2) zs2) (hS2 : Sl ad2 ln2 cp2) :
  ∃ M last o w' t', runNT Try.prog (M + 1) (solo (G (Frame.enter Try.prog 6 #[.int .i64 x0, .int .i64 x1, .slice ad2 ln2 cp2] .normal) []) W) #[] = (.ended o w', t') ∧ runN Try.prog M (solo (G (Frame.enter Try.prog 6 #[.int .i64 x0, .int .i64 x1, .slice ad2 ln2 cp2] .normal) []) W) = .next last ∧ step Try.prog last = .ended o w' ∧ _root_.Go.Conc.Good Try.prog (fun v W' => v = .bool true ∧ Sim.Old W W') last o w' t' := by
 letI : Glob := gl Try.prog
 obtain ⟨p, w, hp, hsz, hw, hfz, hcell⟩ := clean_ex W (fun x => (∃ a, ad2 = some a ∧ x = a.block) ∨ x < 2) (fun x e => by
  rcases e with ⟨a, e, rfl⟩ | e
  ·exact hb2 a e
  ·exact h01 x e) (fun g hg => by cases hg) (show (gvL Try.prog).size ≤ _ by
  rw [show (gvL Try.prog).size = 2 from size_w]
  obtain ⟨_, _, _, e⟩ := h01 1 (by omega)
  exact (Array.getElem?_eq_some_iff.1 e).1)
 have hRw2 : Row w (.slice ad2 ln2 cp2) zs2 := by
  rcases hR2 with ⟨a, c, h1, h2⟩ | ⟨b, off, c, h1, h2, hm, hc, hin⟩
  ·exact .inl ⟨a, c, h1, h2⟩
  ·cases h1
   exact .inr ⟨b, off, cp2, rfl, h2, hm, fun j hj => hcell b (off + j) _ (.inl ⟨_, rfl, rfl⟩) (hc j hj) (V.int _ _ _), hin⟩
 refine carried (p := p) (w := w) (xs := #[.int .i64 x0, .int .i64 x1, .slice ad2 ln2 cp2]) Try.func6 Try.results6 (by kernel_rfl) (by decide) (by decide) h01 (fun g hg => (hp g g).2 ⟨(.inr (hg)), rfl⟩) (allEnd_of (fun t d => ?_)) hw ⟨V.int _ _ _, V.int _ _ _, ?_, trivial⟩ (fun d c e => hfz d ((hp d c).1 e).1)
 ·exact (lnews_any hx1 (row_wt hRw2 t d) hS2).mono (fun e w' h => ⟨_, h.1, rfl⟩)
 ·cases ad2 with
  | none => exact V.slice (a := none) (b := none) trivial
  | some a => exact V.slice (a := some _) (b := some _) ⟨(hp _ _).2 ⟨(.inl ⟨a, rfl, rfl⟩), rfl⟩, rfl, rfl, fun _ => rfl⟩
theorem own : ownKnob Try.prog.godebug = none := by kernel_rfl
theorem laidOut : laidOutB Try.prog = true := by kernel_rfl
theorem rows0 : (((begin Try.prog (fun _ _ => 0) default).world.heap[0]?).bind Obj.row?).isSome = true := by kernel_rfl
theorem rows1 : (((begin Try.prog (fun _ _ => 0) default).world.heap[1]?).bind Obj.row?).isSome = true := by kernel_rfl
set_option maxRecDepth 100000 in
theorem has_block {W : World} {base : Nat} {a : Option Addr} {ln cp : Nat} (h : Value.okWide Try.prog W .any base 22 (.slice a ln cp)) : ∀ x, a = some x → ∃ ys t gz, W.heap[x.block]? = some (.cells ys t gz) := by
 intro x e
 subst e
 simp only [Value.okWide, Try.underlying22, Cell.okWide, Cell.ok] at h
 obtain ⟨_, _, _, _, row, cells, hs, _⟩ := h
 unfold World.shape? at hs
 split at hs
 ·next c t z e => exact ⟨_, _, _, e⟩
 ·cases hs
set_option maxRecDepth 100000 in
theorem lifted (os : Os) (started : os.Started) (H : Type) (enc : TypeId × Value → H) :
  ReturnsInLeavingWide {} Try.checked os 6 .any (Rows.loanNewsSpec.pre6 enc Try.prog Try.f6 Rows.loanNewsRow.domain false) (Rows.loanNewsSpec.post enc Try.prog Try.f6 false true false false) := by
 refine returnsInLeavingWide_of_good (C := Try.checked) own started
  (ChangeSpec.witness6 (enc := enc) (C := Try.checked) false ⟨#[], #[.int .i64 0, .int .i64 0, .slice none 0 0], []⟩ 8 (by kernel_rfl) (by kernel_rfl) (by kernel_rfl) (by kernel_rfl)) ?_
 intro w tape i _ hsh _ hok hpre _
 obtain ⟨_, _, _, fn', hfn', _, _, _, _, hval0⟩ := hok
 have e : fn' = Try.f6 := Option.some.inj (hfn'.symm.trans Try.func6)
 subst e
 obtain ⟨⟨ds, gs, before, hw0, hc⟩, hz⟩ := hpre
 have hW := DataW.Whole.of_heap (w' := w.forCall tape i) (by rfl) hw0
 have h01 : ∀ g, g < 2 → ∃ ys t gz, (w.forCall tape i).heap[g]? = some (.cells ys t gz) := fun g hg => by
  have hg2 : g < Try.prog.globals.size := by
   rw [show Try.prog.globals.size = 2 by kernel_rfl]
   exact hg
  have hr : (((begin Try.prog (fun _ _ => 0) default).world.heap[g]?).bind Obj.row?).isSome = true := by
   have : g = 0 ∨ g = 1 := by omega
   rcases this with rfl | rfl
   ·exact rows0
   ·exact rows1
  obtain ⟨⟨zero, t⟩, hr⟩ := Option.isSome_iff_exists.1 hr
  obtain ⟨cs, h1, _⟩ := hsh.1 g zero t hg2 hr
  exact ⟨cs, t, _, h1⟩
 have hval : ∀ (j : Nat) t v, Try.f6.params[j]? = some t → i.args[j]? = some v → Value.okWide Try.prog (w.forCall tape i) .any w.heap.size t v := hval0
 have key : ∃ M last o w' t', runNT Try.prog (M + 1) (solo (G (Frame.enter Try.prog 6 i.args .normal) []) (w.forCall tape i)) #[] = (.ended o w', t') ∧ runN Try.prog M (solo (G (Frame.enter Try.prog 6 i.args .normal) []) (w.forCall tape i)) = .next last ∧ step Try.prog last = .ended o w' ∧ _root_.Go.Conc.Good Try.prog (fun v W' => Rows.loanNewsSpec.post enc Try.prog Try.f6 false true false false (w.forCall tape i) i.args v W') last o w' t' := by
  generalize w.forCall tape i = W at *
  generalize i.args = args at *
  clear hsh hw0 hz hval0
  have hW' := hW
  obtain ⟨p, q, hA0, hV, rfl, hfz, hnd⟩ := hW
  have hA : DataW.TrodAll enc Try.prog W 0 (fun _ => true) true Try.f6.params.toList args.toList ds p := hA0
  rw [Try.params6] at hA hval
  obtain ⟨v0, vs0, d0, ds0, p0, q0, hargs, rfl, rfl, h0, r0⟩ := trodAll_cons hA
  obtain ⟨v1, vs1, d1, ds1, p1, q1, rfl, rfl, rfl, h1, r1⟩ := trodAll_cons r0
  obtain ⟨v2, vs2, d2, ds2, p2, q2, rfl, rfl, rfl, h2, r2⟩ := trodAll_cons r1
  obtain ⟨rfl, rfl, rfl⟩ := trodAll_nil r2
  obtain rfl : args = #[v0, v1, v2] := by cases args; simp_all
  obtain ⟨rfl, rfl⟩ := trodVars_none hV
  obtain ⟨a0, rfl, rfl, rfl, w0⟩ := open_int Try.underlying3 (hval 0 3 v0 rfl rfl) h0
  obtain ⟨a1, rfl, rfl, rfl, w1⟩ := open_int Try.underlying2 (hval 1 2 v1 rfl rfl) h1
  obtain ⟨a2, len2, cap2, rfl⟩ := okWide_slice Try.underlying22 (hval 2 22 v2 rfl rfl)
  have hb2 := has_block (hval 2 22 _ rfl rfl)
  have k2 := h2
  have lt2 : ∀ x ∈ p2, x.block < W.heap.size := by obtain ⟨m, hm⟩ := k2; exact DataW.trod_lt m _ _ _ hm
  obtain ⟨z2, w2, cc2⟩ : ∃ zs : List Int, Row W (.slice a2 len2 cap2) zs ∧ Sl a2 len2 cap2 := by
   obtain ⟨fuel, hf⟩ := h2
   rcases open_ints Try.underlying22 Try.underlying2 (by kernel_rfl) hf with ⟨hcs, _⟩ | ⟨x, l, c, zs, hcs, _, hl, hm, hz, _, hcell, hwz⟩
   ·simp [Value.cells] at hcs
    obtain ⟨rfl, rfl, rfl⟩ := hcs
    exact ⟨[], .inl ⟨_, _, rfl, rfl⟩, Nat.le_refl _, fun _ => rfl⟩
   ·simp [Value.cells] at hcs
    obtain ⟨rfl, rfl, rfl⟩ := hcs
    obtain ⟨ys, hy⟩ := row_open hl hm (by simpa using hz) hcell hwz
    exact ⟨ys, hy, hl, fun e => by cases e⟩
  clear hA0
  obtain ⟨M, last, o, w', t', e1, e2, e3, e4⟩ := kept_in W a0 a1 a2 len2 cap2 z2 h01 (in64_of w0) (in64_of w1) hb2 w2 cc2
  refine ⟨M, last, o, w', t', e1, e2, e3, e4.mono fun v hF => ?_⟩
  obtain ⟨he, hold⟩ : v = .bool true ∧ Sim.Old W w' := hF
  subst he
  have bel : Below W.heap.size W w' := ⟨hold.os, hold.tape, hold.out, hold.size, hold.same⟩
  exact ⟨_, _, _, [], _, [], hW', trodAll_mk1 (shut_bool Try.underlying4 _), (trodAll_cons_mk (shut_int Try.underlying3 w0) (trodAll_cons_mk (shut_int Try.underlying2 w1) (trodAll_cons_mk (Below.trod laidOut (by kernel_rfl) (of_decide_eq_true (by kernel_rfl)) k2 bel lt2) trodAll_mk0))), rfl, bel.frame _, fun h => by cases h⟩
 obtain ⟨M, last, o, w', t', e1, e2, e3, e4⟩ := key
 exact ⟨M, last, o, w', t', e1, e2, e3, e4.mono fun v hp => ChangeSpec.post_blind hp⟩
theorem over : Rows.loanNewsRow.holds Try.pinned (OpenSpec.ofChange Rows.loanNewsSpec) :=
 OpenClaim.holds_of_wide_leaving 6 Try.f6 rfl rfl rfl rfl rfl rfl rfl ⟨rfl, rfl, rfl, rfl, rfl⟩ rfl rfl rfl rfl rfl (by kernel_rfl) Try.func6 (by kernel_rfl)
  (of_decide_eq_true (by kernel_rfl)) (by unfold Func.isWrapper; first | (rw [if_pos (by decide +kernel)]; kernel_rfl) | (rw [if_neg (by decide +kernel)]; exact ⟨rfl, rfl⟩))
  (fun os started H enc _ => lifted os started H enc)
theorem proved : Rows.LoanNewsSaid := over
#print axioms proved
end Go.Proofs.Ytpeoabopeihadaa.Mn.loanNews
namespace Go.Proofs.Ytpeoabopeihadaa
theorem loanNews_holds : Rows.LoanNewsSaid := Mn.loanNews.proved
end Go.Proofs.Ytpeoabopeihadaa
