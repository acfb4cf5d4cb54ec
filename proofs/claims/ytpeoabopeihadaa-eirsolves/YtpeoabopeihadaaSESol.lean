/- Proved here: EirSolves: the rate of any outlay and amounts, whether a rate is that one, and a rate of a year, or the error, are the document's. No condition. -/
import Derived.Test.YtpeoabopeihadaaSQL
import Derived.Test.YtpeoabopeihadaaSESl
import Derived.Test.YtpeoabopeihadaaSL
import Derived.Conc.LeavingOf
set_option linter.unusedVariables false
set_option linter.unusedSimpArgs false
set_option linter.unusedSectionVars false
namespace Go.Proofs.Ytpeoabopeihadaa.Mn.eirSolves
open Go.ChangeShapes Go.WideShapes Go.ChangeAt Go.RowKit Go.Conc
open Go.Proofs.Ytpeoabopeihadaa.Sim
set_option maxRecDepth 100000 in
theorem open_st {H : Type} {enc : TypeId × Value → H} {w : World} {b0 base : Nat} {held : Bool} {v : Value} {d : DataW H} {p : List MemPlace}
    (hv : Value.okWide Try.prog w .any b0 24 v) (h : DataW.Trod enc Try.prog w base (fun _ => true) held 24 v d p) :
    ∃ (x0 : Int) (ad1 : Option Addr) (ln1 cp1 : Nat) (zs1 : List Int) (x2 : Int) (x3 : Int), v = .agg #[.int .i64 x0, .slice ad1 ln1 cp1, .int .i64 x2, .int .i64 x3] ∧ In64 x0 ∧ (Row w (.slice ad1 ln1 cp1) zs1 ∧ Sl ad1 ln1 cp1 ∧ ∀ y, ad1 = some y → ∃ ys t gz, w.heap[y.block]? = some (.cells ys t gz)) ∧ In64 x2 ∧ In64 x3 := by
  obtain ⟨cs, rfl, hsz⟩ := okWide_struct Try.underlying24 hv
  have hsz : cs.size = 4 := hsz.trans (by kernel_rfl)
  obtain ⟨cl⟩ := cs
  simp only [List.size_toArray] at hsz
  match cl, hsz with
  | [v0, v1, v2, v3], _ =>
    obtain ⟨fuel, hf⟩ := h
    obtain ⟨xs, m, _, hx, _, hlen, hF⟩ := DataW.trod_struct Try.underlying24 hf
    match xs, hlen with
    | [y0, y1, y2, y3], _ =>
      have h0 : DataW.trod enc Try.prog w base (fun _ => true) held m 2 [v0] = some y0 := by simpa [Value.cells, show Try.prog.cellsOf 2 = 1 by kernel_rfl, show Try.prog.cellsOf 22 = 1 by kernel_rfl, show Try.prog.cellsOf 3 = 1 by kernel_rfl] using hF 0 _ rfl
      have h1 : DataW.trod enc Try.prog w base (fun _ => true) held m 22 [v1] = some y1 := by simpa [Value.cells, show Try.prog.cellsOf 2 = 1 by kernel_rfl, show Try.prog.cellsOf 22 = 1 by kernel_rfl, show Try.prog.cellsOf 3 = 1 by kernel_rfl] using hF 1 _ rfl
      have h2 : DataW.trod enc Try.prog w base (fun _ => true) held m 2 [v2] = some y2 := by simpa [Value.cells, show Try.prog.cellsOf 2 = 1 by kernel_rfl, show Try.prog.cellsOf 22 = 1 by kernel_rfl, show Try.prog.cellsOf 3 = 1 by kernel_rfl] using hF 2 _ rfl
      have h3 : DataW.trod enc Try.prog w base (fun _ => true) held m 3 [v3] = some y3 := by simpa [Value.cells, show Try.prog.cellsOf 2 = 1 by kernel_rfl, show Try.prog.cellsOf 22 = 1 by kernel_rfl, show Try.prog.cellsOf 3 = 1 by kernel_rfl] using hF 3 _ rfl
      obtain ⟨x0, e0, _, w0⟩ := DataW.trod_int Try.underlying2 h0
      simp at e0
      subst e0
      have b0 : In64 x0 := in64_of w0
      obtain ⟨x2, e2, _, w2⟩ := DataW.trod_int Try.underlying2 h2
      simp at e2
      subst e2
      have b2 : In64 x2 := in64_of w2
      obtain ⟨x3, e3, _, w3⟩ := DataW.trod_int Try.underlying3 h3
      simp at e3
      subst e3
      have b3 : In64 x3 := in64_of w3
      obtain ⟨ad1, ln1, cp1, zs1, e1, q1, s1⟩ : ∃ ad ln cp zs, v1 = .slice ad ln cp ∧ Row w (.slice ad ln cp) zs ∧ Sl ad ln cp := by
        rcases open_ints Try.underlying22 Try.underlying2 (by kernel_rfl) h1 with ⟨hcs, _⟩ | ⟨x, l, c, zs, hcs, _, hl, hm, hz, _, hcell, hwz⟩
        · simp at hcs
          exact ⟨none, 0, 0, [], hcs, .inl ⟨_, _, rfl, rfl⟩, Nat.le_refl _, fun _ => rfl⟩
        · simp at hcs
          obtain ⟨ys, hy⟩ := row_open hl hm (by simpa using hz) hcell hwz
          exact ⟨some x, l, c, ys, hcs, hy, hl, fun e => by cases e⟩
      subst e1
      have g1 : ∀ y, ad1 = some y → ∃ ys t gz, w.heap[y.block]? = some (.cells ys t gz) := by
        have hv2 := hv
        simp only [Value.okWide, Try.underlying24] at hv2
        obtain ⟨cs2, e2, _, ts, hts, _, hall⟩ := hv2
        injection e2 with e2
        subst e2
        obtain ⟨u, hu, hcell⟩ := hall 1 (.slice ad1 ln1 cp1) rfl
        obtain rfl : u = 22 := by
          rw [show Try.prog.cellTypes Try.prog.depth 24 = some [2, 22, 2, 3] by kernel_rfl] at hts
          injection hts with hts
          subst hts
          simpa using hu.symm
        intro y hy
        subst hy
        simp only [Cell.okWide, Try.underlying22, Cell.ok] at hcell
        obtain ⟨_, _, _, _, row, cells, hs, _⟩ := hcell
        unfold World.shape? at hs
        split at hs
        · next c t z e => exact ⟨_, _, _, e⟩
        · cases hs
      exact ⟨x0, ad1, ln1, cp1, zs1, x2, x3, rfl, b0, ⟨q1, s1, g1⟩, b2, b3⟩
set_option maxRecDepth 100000 in
theorem kept_in (W : World) (x0 : Int) (ad1 : Option Addr) (ln1 cp1 : Nat) (zs1 : List Int) (x2 : Int) (x3 : Int) (h01 : ∀ g, g < 2 → ∃ ys t gz, W.heap[g]? = some (.cells ys t gz)) (hx0 : In64 x0) (hx1 : (Row W (.slice ad1 ln1 cp1) zs1 ∧ Sl ad1 ln1 cp1 ∧ ∀ y, ad1 = some y → ∃ ys t gz, W.heap[y.block]? = some (.cells ys t gz))) (hx2 : In64 x2) (hx3 : In64 x3) :
    ∃ M last o w' t', runNT Try.prog (M + 1) (solo (G (Frame.enter Try.prog 3 #[.agg #[.int .i64 x0, .slice ad1 ln1 cp1, .int .i64 x2, .int .i64 x3]] .normal) []) W) #[] = (.ended o w', t') ∧ runN Try.prog M (solo (G (Frame.enter Try.prog 3 #[.agg #[.int .i64 x0, .slice ad1 ln1 cp1, .int .i64 x2, .int .i64 x3]] .normal) []) W) = .next last ∧ step Try.prog last = .ended o w' ∧ _root_.Go.Conc.Good Try.prog (fun v W' => v = .bool true ∧ Sim.Old W W') last o w' t' := by
  letI : Glob := gl Try.prog
  obtain ⟨p, w, hp, hsz, hw, hfz, hcell⟩ := clean_ex W (fun x => (∃ a, ad1 = some a ∧ x = a.block) ∨ x < 2) (fun x e => by
    rcases e with ⟨a, e, rfl⟩ | e
    · exact hx1.2.2 a e
    · exact h01 x e) (fun g hg => by cases hg) (show (gvL Try.prog).size ≤ _ by
    rw [show (gvL Try.prog).size = 2 from size_w]
    obtain ⟨_, _, _, e⟩ := h01 1 (by omega)
    exact (Array.getElem?_eq_some_iff.1 e).1)
  have hRw1 : Row w (.slice ad1 ln1 cp1) zs1 := by
    rcases hx1.1 with ⟨a, c, h1, h2⟩ | ⟨b, off, c, h1, h2, hm, hc, hin⟩
    · exact .inl ⟨a, c, h1, h2⟩
    · cases h1
      exact .inr ⟨b, off, cp1, rfl, h2, hm, fun j hj => hcell b (off + j) _ (.inl ⟨_, rfl, rfl⟩) (hc j hj) (V.int _ _ _), hin⟩
  have hS1 := hx1.2.1
  refine carried (p := p) (w := w) (xs := #[.agg #[.int .i64 x0, .slice ad1 ln1 cp1, .int .i64 x2, .int .i64 x3]]) Try.func3 Try.results3 (by kernel_rfl) (by decide) (by decide) h01 (fun g hg => (hp g g).2 ⟨(.inr (hg)), rfl⟩) (allEnd_of (fun t d => ?_)) hw ⟨V.agg ⟨V.int _ _ _, ?_, V.int _ _ _, V.int _ _ _, trivial⟩, trivial⟩ (fun d c e => hfz d ((hp d c).1 e).1)
  · exact (eirSolves_any hx0 hx2 (row_wt hRw1 t d)).mono (fun e w' h => ⟨_, h.1, rfl⟩)
  · cases ad1 with
    | none => exact V.slice (a := none) (b := none) trivial
    | some a => exact V.slice (a := some _) (b := some _) ⟨(hp _ _).2 ⟨(.inl ⟨a, rfl, rfl⟩), rfl⟩, rfl, rfl, fun _ => rfl⟩
theorem own : ownKnob Try.prog.godebug = none := by kernel_rfl
theorem laidOut : laidOutB Try.prog = true := by kernel_rfl
theorem rows0 : (((begin Try.prog (fun _ _ => 0) default).world.heap[0]?).bind Obj.row?).isSome = true := by kernel_rfl
theorem rows1 : (((begin Try.prog (fun _ _ => 0) default).world.heap[1]?).bind Obj.row?).isSome = true := by kernel_rfl
set_option maxRecDepth 100000 in
theorem lifted (os : Os) (started : os.Started) (H : Type) (enc : TypeId × Value → H) :
    ReturnsInLeavingWide {} Try.checked os 3 .any (Rows.eirSolvesSpec.pre6 enc Try.prog Try.f3 Rows.eirSolvesRow.domain false) (Rows.eirSolvesSpec.post enc Try.prog Try.f3 false true false false) := by
  refine returnsInLeavingWide_of_good (C := Try.checked) own started
    (ChangeSpec.witness6 (enc := enc) (C := Try.checked) false ⟨#[], #[.agg #[.int .i64 0, .slice none 0 0, .int .i64 0, .int .i64 0]], []⟩ 8 (by kernel_rfl) (by kernel_rfl) (by kernel_rfl) (by kernel_rfl)) ?_
  intro w tape i _ hsh _ hok hpre _
  obtain ⟨_, _, _, fn', hfn', _, _, _, _, hval0⟩ := hok
  have e : fn' = Try.f3 := Option.some.inj (hfn'.symm.trans Try.func3)
  subst e
  obtain ⟨⟨ds, gs, before, hw0, hc⟩, hz⟩ := hpre
  have hW := DataW.Whole.of_heap (w' := w.forCall tape i) (by rfl) hw0
  have h01 : ∀ g, g < 2 → ∃ ys t gz, (w.forCall tape i).heap[g]? = some (.cells ys t gz) := fun g hg => by
    have hg2 : g < Try.prog.globals.size := by
      rw [show Try.prog.globals.size = 2 by kernel_rfl]
      exact hg
    have hr : (((begin Try.prog (fun _ _ => 0) default).world.heap[g]?).bind Obj.row?).isSome = true := by
      have : g = 0 ∨ g = 1 := by omega
      rcases this with rfl | rfl
      · exact rows0
      · exact rows1
    obtain ⟨⟨zero, t⟩, hr⟩ := Option.isSome_iff_exists.1 hr
    obtain ⟨cs, h1, _⟩ := hsh.1 g zero t hg2 hr
    exact ⟨cs, t, _, h1⟩
  have hval : ∀ (j : Nat) t v, Try.f3.params[j]? = some t → i.args[j]? = some v → Value.okWide Try.prog (w.forCall tape i) .any w.heap.size t v := hval0
  have key : ∃ M last o w' t', runNT Try.prog (M + 1) (solo (G (Frame.enter Try.prog 3 i.args .normal) []) (w.forCall tape i)) #[] = (.ended o w', t') ∧ runN Try.prog M (solo (G (Frame.enter Try.prog 3 i.args .normal) []) (w.forCall tape i)) = .next last ∧ step Try.prog last = .ended o w' ∧ _root_.Go.Conc.Good Try.prog (fun v W' => Rows.eirSolvesSpec.post enc Try.prog Try.f3 false true false false (w.forCall tape i) i.args v W') last o w' t' := by
    generalize w.forCall tape i = W at *
    generalize i.args = args at *
    clear hsh hw0 hz hval0
    have hW' := hW
    obtain ⟨p, q, hA0, hV, rfl, hfz, hnd⟩ := hW
    have hA : DataW.TrodAll enc Try.prog W 0 (fun _ => true) true Try.f3.params.toList args.toList ds p := hA0
    rw [Try.params3] at hA hval
    obtain ⟨v0, vs0, d0, ds0, p0, q0, hargs, rfl, rfl, h0, r0⟩ := trodAll_cons hA
    obtain ⟨rfl, rfl, rfl⟩ := trodAll_nil r0
    obtain rfl : args = #[v0] := by cases args; simp_all
    obtain ⟨rfl, rfl⟩ := trodVars_none hV
    have k0 := h0
    have lt0 : ∀ x ∈ p0, x.block < W.heap.size := by obtain ⟨m, hm⟩ := k0; exact DataW.trod_lt m _ _ _ hm
    obtain ⟨x0, ad1, ln1, cp1, zs1, x2, x3, rfl, hx0, hx1, hx2, hx3⟩ := open_st (hval 0 24 v0 rfl rfl) h0
    clear hA0
    obtain ⟨M, last, o, w', t', e1, e2, e3, e4⟩ := kept_in W x0 ad1 ln1 cp1 zs1 x2 x3 h01 hx0 hx1 hx2 hx3
    refine ⟨M, last, o, w', t', e1, e2, e3, e4.mono fun v hF => ?_⟩
    obtain ⟨he, hold⟩ : v = .bool true ∧ Sim.Old W w' := hF
    subst he
    have bel : Below W.heap.size W w' := ⟨hold.os, hold.tape, hold.out, hold.size, hold.same⟩
    exact ⟨_, _, _, [], _, [], hW', trodAll_mk1 (shut_bool Try.underlying4 _), (trodAll_cons_mk (Below.trod laidOut (by kernel_rfl) (of_decide_eq_true (by kernel_rfl)) k0 bel lt0) trodAll_mk0), rfl, bel.frame _, fun h => by cases h⟩
  obtain ⟨M, last, o, w', t', e1, e2, e3, e4⟩ := key
  exact ⟨M, last, o, w', t', e1, e2, e3, e4.mono fun v hp => ChangeSpec.post_blind hp⟩
theorem over : Rows.eirSolvesRow.holds Try.pinned (OpenSpec.ofChange Rows.eirSolvesSpec) :=
  OpenClaim.holds_of_wide_leaving 3 Try.f3 rfl rfl rfl rfl rfl rfl rfl ⟨rfl, rfl, rfl, rfl, rfl⟩ rfl rfl rfl rfl rfl (by kernel_rfl) Try.func3 (by kernel_rfl)
    (of_decide_eq_true (by kernel_rfl)) (by unfold Func.isWrapper; first | (rw [if_pos (by decide +kernel)]; kernel_rfl) | (rw [if_neg (by decide +kernel)]; exact ⟨rfl, rfl⟩))
    (fun os started H enc _ => lifted os started H enc)
theorem proved : Rows.EirSolvesSaid := over
#print axioms proved
end Go.Proofs.Ytpeoabopeihadaa.Mn.eirSolves
namespace Go.Proofs.Ytpeoabopeihadaa
theorem eirSolves_holds : Rows.EirSolvesSaid := Mn.eirSolves.proved
end Go.Proofs.Ytpeoabopeihadaa
