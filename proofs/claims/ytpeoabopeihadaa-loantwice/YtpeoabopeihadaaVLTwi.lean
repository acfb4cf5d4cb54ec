/- Proved here: LoanTwice: two payments beside the periods are one of both, if the loan is still live between them; two write-offs likewise. No condition. -/
import Derived.Test.YtpeoabopeihadaaVQL
import Derived.Test.YtpeoabopeihadaaVLTx
import Derived.Conc.LeavingOf
import Derived.Deep.Slices
import Derived.SizedLaws
set_option linter.unusedVariables false
set_option linter.unusedSimpArgs false
set_option linter.unusedSectionVars false
namespace Go.Proofs.Ytpeoabopeihadaa.Mn.loanTwice
open Go.ChangeShapes Go.WideShapes Go.ChangeAt Go.RowKit Go.Conc
open Go.Proofs.Ytpeoabopeihadaa.Sim
set_option maxRecDepth 100000 in
theorem open_st {H : Type} {enc : TypeId × Value → H} {w : World} {b0 base : Nat} {held : Bool} {v : Value} {d : DataW H} {p : List MemPlace}
    (hv : Value.okWide Try.prog w .any b0 56 v) (h : DataW.Trod enc Try.prog w base (fun _ => true) held 56 v d p) :
    ∃ (x0 : Int) (x1 : Int) (x2 : Int) (x3 : Int) (x4 : Int) (x5 : Int) (x6 : Int) (x7 : Int) (x8 : Int) (x9 : Int) (x10 : Int) (x11 : Int) (ad12 : Option Addr) (ln12 cp12 : Nat) (zs12 : List Int), v = .agg #[.int .i64 x0, .int .i64 x1, .int .i64 x2, .int .i64 x3, .int .i64 x4, .int .i64 x5, .int .i64 x6, .int .i64 x7, .int .i64 x8, .int .i64 x9, .int .i64 x10, .int .i64 x11, .slice ad12 ln12 cp12] ∧ In64 x0 ∧ In64 x1 ∧ In64 x2 ∧ In64 x3 ∧ In64 x4 ∧ In64 x5 ∧ In64 x6 ∧ In64 x7 ∧ In64 x8 ∧ In64 x9 ∧ In64 x10 ∧ In64 x11 ∧ (Row w (.slice ad12 ln12 cp12) zs12 ∧ Sl ad12 ln12 cp12 ∧ ∀ y, ad12 = some y → ∃ ys t gz, w.heap[y.block]? = some (.cells ys t gz)) := by
  obtain ⟨cs, rfl, hsz⟩ := okWide_struct Try.underlying56 hv
  have hsz : cs.size = 13 := hsz.trans (by kernel_rfl)
  obtain ⟨cl⟩ := cs
  simp only [List.size_toArray] at hsz
  match cl, hsz with
  | [v0, v1, v2, v3, v4, v5, v6, v7, v8, v9, v10, v11, v12], _ =>
    obtain ⟨fuel, hf⟩ := h
    obtain ⟨xs, m, _, hx, _, hlen, hF⟩ := DataW.trod_struct Try.underlying56 hf
    match xs, hlen with
    | [y0, y1, y2, y3, y4, y5, y6, y7, y8, y9, y10, y11, y12], _ =>
      have h0 : DataW.trod enc Try.prog w base (fun _ => true) held m 3 [v0] = some y0 := by simpa [Value.cells, show Try.prog.cellsOf 2 = 1 by kernel_rfl, show Try.prog.cellsOf 22 = 1 by kernel_rfl, show Try.prog.cellsOf 3 = 1 by kernel_rfl] using hF 0 _ rfl
      have h1 : DataW.trod enc Try.prog w base (fun _ => true) held m 3 [v1] = some y1 := by simpa [Value.cells, show Try.prog.cellsOf 2 = 1 by kernel_rfl, show Try.prog.cellsOf 22 = 1 by kernel_rfl, show Try.prog.cellsOf 3 = 1 by kernel_rfl] using hF 1 _ rfl
      have h2 : DataW.trod enc Try.prog w base (fun _ => true) held m 3 [v2] = some y2 := by simpa [Value.cells, show Try.prog.cellsOf 2 = 1 by kernel_rfl, show Try.prog.cellsOf 22 = 1 by kernel_rfl, show Try.prog.cellsOf 3 = 1 by kernel_rfl] using hF 2 _ rfl
      have h3 : DataW.trod enc Try.prog w base (fun _ => true) held m 2 [v3] = some y3 := by simpa [Value.cells, show Try.prog.cellsOf 2 = 1 by kernel_rfl, show Try.prog.cellsOf 22 = 1 by kernel_rfl, show Try.prog.cellsOf 3 = 1 by kernel_rfl] using hF 3 _ rfl
      have h4 : DataW.trod enc Try.prog w base (fun _ => true) held m 2 [v4] = some y4 := by simpa [Value.cells, show Try.prog.cellsOf 2 = 1 by kernel_rfl, show Try.prog.cellsOf 22 = 1 by kernel_rfl, show Try.prog.cellsOf 3 = 1 by kernel_rfl] using hF 4 _ rfl
      have h5 : DataW.trod enc Try.prog w base (fun _ => true) held m 2 [v5] = some y5 := by simpa [Value.cells, show Try.prog.cellsOf 2 = 1 by kernel_rfl, show Try.prog.cellsOf 22 = 1 by kernel_rfl, show Try.prog.cellsOf 3 = 1 by kernel_rfl] using hF 5 _ rfl
      have h6 : DataW.trod enc Try.prog w base (fun _ => true) held m 2 [v6] = some y6 := by simpa [Value.cells, show Try.prog.cellsOf 2 = 1 by kernel_rfl, show Try.prog.cellsOf 22 = 1 by kernel_rfl, show Try.prog.cellsOf 3 = 1 by kernel_rfl] using hF 6 _ rfl
      have h7 : DataW.trod enc Try.prog w base (fun _ => true) held m 2 [v7] = some y7 := by simpa [Value.cells, show Try.prog.cellsOf 2 = 1 by kernel_rfl, show Try.prog.cellsOf 22 = 1 by kernel_rfl, show Try.prog.cellsOf 3 = 1 by kernel_rfl] using hF 7 _ rfl
      have h8 : DataW.trod enc Try.prog w base (fun _ => true) held m 2 [v8] = some y8 := by simpa [Value.cells, show Try.prog.cellsOf 2 = 1 by kernel_rfl, show Try.prog.cellsOf 22 = 1 by kernel_rfl, show Try.prog.cellsOf 3 = 1 by kernel_rfl] using hF 8 _ rfl
      have h9 : DataW.trod enc Try.prog w base (fun _ => true) held m 2 [v9] = some y9 := by simpa [Value.cells, show Try.prog.cellsOf 2 = 1 by kernel_rfl, show Try.prog.cellsOf 22 = 1 by kernel_rfl, show Try.prog.cellsOf 3 = 1 by kernel_rfl] using hF 9 _ rfl
      have h10 : DataW.trod enc Try.prog w base (fun _ => true) held m 2 [v10] = some y10 := by simpa [Value.cells, show Try.prog.cellsOf 2 = 1 by kernel_rfl, show Try.prog.cellsOf 22 = 1 by kernel_rfl, show Try.prog.cellsOf 3 = 1 by kernel_rfl] using hF 10 _ rfl
      have h11 : DataW.trod enc Try.prog w base (fun _ => true) held m 2 [v11] = some y11 := by simpa [Value.cells, show Try.prog.cellsOf 2 = 1 by kernel_rfl, show Try.prog.cellsOf 22 = 1 by kernel_rfl, show Try.prog.cellsOf 3 = 1 by kernel_rfl] using hF 11 _ rfl
      have h12 : DataW.trod enc Try.prog w base (fun _ => true) held m 22 [v12] = some y12 := by simpa [Value.cells, show Try.prog.cellsOf 2 = 1 by kernel_rfl, show Try.prog.cellsOf 22 = 1 by kernel_rfl, show Try.prog.cellsOf 3 = 1 by kernel_rfl] using hF 12 _ rfl
      obtain ⟨x0, e0, _, w0⟩ := DataW.trod_int Try.underlying3 h0
      simp at e0
      subst e0
      have b0 : In64 x0 := in64_of w0
      obtain ⟨x1, e1, _, w1⟩ := DataW.trod_int Try.underlying3 h1
      simp at e1
      subst e1
      have b1 : In64 x1 := in64_of w1
      obtain ⟨x2, e2, _, w2⟩ := DataW.trod_int Try.underlying3 h2
      simp at e2
      subst e2
      have b2 : In64 x2 := in64_of w2
      obtain ⟨x3, e3, _, w3⟩ := DataW.trod_int Try.underlying2 h3
      simp at e3
      subst e3
      have b3 : In64 x3 := in64_of w3
      obtain ⟨x4, e4, _, w4⟩ := DataW.trod_int Try.underlying2 h4
      simp at e4
      subst e4
      have b4 : In64 x4 := in64_of w4
      obtain ⟨x5, e5, _, w5⟩ := DataW.trod_int Try.underlying2 h5
      simp at e5
      subst e5
      have b5 : In64 x5 := in64_of w5
      obtain ⟨x6, e6, _, w6⟩ := DataW.trod_int Try.underlying2 h6
      simp at e6
      subst e6
      have b6 : In64 x6 := in64_of w6
      obtain ⟨x7, e7, _, w7⟩ := DataW.trod_int Try.underlying2 h7
      simp at e7
      subst e7
      have b7 : In64 x7 := in64_of w7
      obtain ⟨x8, e8, _, w8⟩ := DataW.trod_int Try.underlying2 h8
      simp at e8
      subst e8
      have b8 : In64 x8 := in64_of w8
      obtain ⟨x9, e9, _, w9⟩ := DataW.trod_int Try.underlying2 h9
      simp at e9
      subst e9
      have b9 : In64 x9 := in64_of w9
      obtain ⟨x10, e10, _, w10⟩ := DataW.trod_int Try.underlying2 h10
      simp at e10
      subst e10
      have b10 : In64 x10 := in64_of w10
      obtain ⟨x11, e11, _, w11⟩ := DataW.trod_int Try.underlying2 h11
      simp at e11
      subst e11
      have b11 : In64 x11 := in64_of w11
      obtain ⟨ad12, ln12, cp12, zs12, e12, q12, s12⟩ : ∃ ad ln cp zs, v12 = .slice ad ln cp ∧ Row w (.slice ad ln cp) zs ∧ Sl ad ln cp := by
        rcases open_ints Try.underlying22 Try.underlying2 (by kernel_rfl) h12 with ⟨hcs, _⟩ | ⟨x, l, c, zs, hcs, _, hl, hm, hz, _, hcell, hwz⟩
        · simp at hcs
          exact ⟨none, 0, 0, [], hcs, .inl ⟨_, _, rfl, rfl⟩, Nat.le_refl _, fun _ => rfl⟩
        · simp at hcs
          obtain ⟨ys, hy⟩ := row_open hl hm (by simpa using hz) hcell hwz
          exact ⟨some x, l, c, ys, hcs, hy, hl, fun e => by cases e⟩
      subst e12
      have g12 : ∀ y, ad12 = some y → ∃ ys t gz, w.heap[y.block]? = some (.cells ys t gz) := by
        have hv2 := hv
        simp only [Value.okWide, Try.underlying56] at hv2
        obtain ⟨cs2, e2, _, ts, hts, _, hall⟩ := hv2
        injection e2 with e2
        subst e2
        obtain ⟨u, hu, hcell⟩ := hall 12 (.slice ad12 ln12 cp12) rfl
        obtain rfl : u = 22 := by
          rw [show Try.prog.cellTypes Try.prog.depth 56 = some [3, 3, 3, 2, 2, 2, 2, 2, 2, 2, 2, 2, 22] by kernel_rfl] at hts
          injection hts with hts
          subst hts
          simpa using hu.symm
        intro y hy
        subst hy
        simp only [Cell.okWide, Try.underlying22, Cell.ok] at hcell
        obtain ⟨_, _, _, _, row, cells, hs, _⟩ := hcell
        unfold World.shape? at hs
        split at hs
        · next c t z e => exact ⟨_, _, _, e⟩
        · cases hs
      exact ⟨x0, x1, x2, x3, x4, x5, x6, x7, x8, x9, x10, x11, ad12, ln12, cp12, zs12, rfl, b0, b1, b2, b3, b4, b5, b6, b7, b8, b9, b10, b11, ⟨q12, s12, g12⟩⟩
set_option maxRecDepth 100000 in
theorem size_st {H : Type} {enc : TypeId × Value → H} {w : World} {base : Nat} {held : Bool} {cs : Array Value} {d : DataW H} {p : List MemPlace} {ad : Option Addr} {ln cp : Nat}
    (hsz : cs.size = 13) (hc : cs[12]? = some (.slice ad ln cp)) (h : DataW.Trod enc Try.prog w base (fun _ => true) held 56 (.agg cs) d p) (hw : ∀ m ∈ d.weights Try.prog 56, m ≤ reachBytes) : ln ≤ 17592186044000 := by
  obtain ⟨cl⟩ := cs
  simp only [List.size_toArray] at hsz
  match cl, hsz with
  | [v0, v1, v2, v3, v4, v5, v6, v7, v8, v9, v10, v11, v12], _ =>
    obtain rfl : v12 = .slice ad ln cp := by simpa using hc
    obtain ⟨fuel, hf⟩ := h
    obtain ⟨xs, m, _, hx, _, hlen, hF⟩ := DataW.trod_struct Try.underlying56 hf
    match xs, hlen with
    | [y0, y1, y2, y3, y4, y5, y6, y7, y8, y9, y10, y11, y12], _ =>
      have h12 : DataW.trod enc Try.prog w base (fun _ => true) held m 22 [.slice ad ln cp] = some y12 := by simpa [Value.cells, show Try.prog.cellsOf 22 = 1 by kernel_rfl] using hF 12 _ rfl
      have hd : d = .agg [y0.1, y1.1, y2.1, y3.1, y4.1, y5.1, y6.1, y7.1, y8.1, y9.1, y10.1, y11.1, y12.1] := by
        have := congrArg Prod.fst hx
        simpa using this
      subst hd
      rcases Go.Deep.open_slice Try.underlying22 h12 with ⟨e, _⟩ | ⟨a, l, c, q, _, D, Pl, e, _, hl, _, hq, hy, _⟩
      · simp at e
        omega
      · simp at e
        obtain ⟨rfl, rfl, rfl⟩ := e
        have hwt := hw ((ln + (q - ln)) * 8) (by
          rw [DataW.weights, Try.underlying56]
          refine DataW.weights_mem_each (j := 12) (t := 22) (d := y12.1) rfl rfl _ ?_
          rw [hy]
          simp [DataW.weights, Try.underlying22, show Try.prog.bytesOf 2 = 8 by kernel_rfl])
        unfold reachBytes at hwt
        omega
set_option maxRecDepth 100000 in
theorem kept_in (W : World) (x0 : Int) (x1 : Int) (x2 : Int) (x3 : Int) (x4 : Int) (x5 : Int) (x6 : Int) (x7 : Int) (x8 : Int) (x9 : Int) (x10 : Int) (x11 : Int) (ad12 : Option Addr) (ln12 cp12 : Nat) (zs12 : List Int) (u0 : Int) (u1 : Int) (h01 : ∀ g, g < 2 → ∃ ys t gz, W.heap[g]? = some (.cells ys t gz)) (hsz12 : ln12 ≤ 17592186044000) (hx0 : In64 x0) (hx1 : In64 x1) (hx2 : In64 x2) (hx3 : In64 x3) (hx4 : In64 x4) (hx5 : In64 x5) (hx6 : In64 x6) (hx7 : In64 x7) (hx8 : In64 x8) (hx9 : In64 x9) (hx10 : In64 x10) (hx11 : In64 x11) (hx12 : (Row W (.slice ad12 ln12 cp12) zs12 ∧ Sl ad12 ln12 cp12 ∧ ∀ y, ad12 = some y → ∃ ys t gz, W.heap[y.block]? = some (.cells ys t gz))) (hu0 : (0 ≤ u0 ∧ u0 ≤ 4294967295)) (hu1 : (0 ≤ u1 ∧ u1 ≤ 4294967295)) :
    ∃ M last o w' t', runNT Try.prog (M + 1) (solo (G (Frame.enter Try.prog 10 #[.agg #[.int .i64 x0, .int .i64 x1, .int .i64 x2, .int .i64 x3, .int .i64 x4, .int .i64 x5, .int .i64 x6, .int .i64 x7, .int .i64 x8, .int .i64 x9, .int .i64 x10, .int .i64 x11, .slice ad12 ln12 cp12], .int .u32 u0, .int .u32 u1] .normal) []) W) #[] = (.ended o w', t') ∧ runN Try.prog M (solo (G (Frame.enter Try.prog 10 #[.agg #[.int .i64 x0, .int .i64 x1, .int .i64 x2, .int .i64 x3, .int .i64 x4, .int .i64 x5, .int .i64 x6, .int .i64 x7, .int .i64 x8, .int .i64 x9, .int .i64 x10, .int .i64 x11, .slice ad12 ln12 cp12], .int .u32 u0, .int .u32 u1] .normal) []) W) = .next last ∧ step Try.prog last = .ended o w' ∧ _root_.Go.Conc.Good Try.prog (fun v W' => v = .bool true ∧ Sim.Old W W') last o w' t' := by
  letI : Glob := gl Try.prog
  obtain ⟨p, w, hp, hsz, hw, hfz, hcell⟩ := clean_ex W (fun x => (∃ a, ad12 = some a ∧ x = a.block) ∨ x < 2) (fun x e => by
    rcases e with ⟨a, e, rfl⟩ | e
    · exact hx12.2.2 a e
    · exact h01 x e) (fun g hg => by cases hg) (show (gvL Try.prog).size ≤ _ by
    rw [show (gvL Try.prog).size = 2 from size_w]
    obtain ⟨_, _, _, e⟩ := h01 1 (by omega)
    exact (Array.getElem?_eq_some_iff.1 e).1)
  have hRw12 : Row w (.slice ad12 ln12 cp12) zs12 := by
    rcases hx12.1 with ⟨a, c, h1, h2⟩ | ⟨b, off, c, h1, h2, hm, hc, hin⟩
    · exact .inl ⟨a, c, h1, h2⟩
    · cases h1
      exact .inr ⟨b, off, cp12, rfl, h2, hm, fun j hj => hcell b (off + j) _ (.inl ⟨_, rfl, rfl⟩) (hc j hj) (V.int _ _ _), hin⟩
  have hS12 := hx12.2.1
  refine carried (p := p) (w := w) (xs := #[.agg #[.int .i64 x0, .int .i64 x1, .int .i64 x2, .int .i64 x3, .int .i64 x4, .int .i64 x5, .int .i64 x6, .int .i64 x7, .int .i64 x8, .int .i64 x9, .int .i64 x10, .int .i64 x11, .slice ad12 ln12 cp12], .int .u32 u0, .int .u32 u1]) Try.func10 Try.results10 (by kernel_rfl) (by decide) (by decide) h01 (fun g hg => (hp g g).2 ⟨(.inr (hg)), rfl⟩) (allEnd_of (fun t d => ?_)) hw ⟨V.agg ⟨V.int _ _ _, V.int _ _ _, V.int _ _ _, V.int _ _ _, V.int _ _ _, V.int _ _ _, V.int _ _ _, V.int _ _ _, V.int _ _ _, V.int _ _ _, V.int _ _ _, V.int _ _ _, ?_, trivial⟩, V.int _ _ _, V.int _ _ _, trivial⟩ (fun d c e => hfz d ((hp d c).1 e).1)
  · exact (ltwice_any (L := ⟨x0, x1, x2, x3, x4, x5, x6, x7, x8, x9, x10, x11⟩) (row_wt hRw12 t d) hS12 (by have e := row_len (row_wt hRw12 t d); omega) hu0 hu1).mono (fun e w' h => ⟨_, h.1, rfl⟩)
  · cases ad12 with
    | none => exact V.slice (a := none) (b := none) trivial
    | some a => exact V.slice (a := some _) (b := some _) ⟨(hp _ _).2 ⟨(.inl ⟨a, rfl, rfl⟩), rfl⟩, rfl, rfl, fun _ => rfl⟩
theorem own : ownKnob Try.prog.godebug = none := by kernel_rfl
theorem laidOut : laidOutB Try.prog = true := by kernel_rfl
theorem rows0 : (((begin Try.prog (fun _ _ => 0) default).world.heap[0]?).bind Obj.row?).isSome = true := by kernel_rfl
theorem rows1 : (((begin Try.prog (fun _ _ => 0) default).world.heap[1]?).bind Obj.row?).isSome = true := by kernel_rfl
set_option maxRecDepth 100000 in
theorem lifted (os : Os) (started : os.Started) (H : Type) (enc : TypeId × Value → H) :
    ReturnsInLeavingWide {} Try.checked os 10 .any (Rows.loanTwiceSpec.pre6 enc Try.prog Try.f10 Rows.loanTwiceRow.domain false) (Rows.loanTwiceSpec.post enc Try.prog Try.f10 false true false false) := by
  refine returnsInLeavingWide_of_good (C := Try.checked) own started
    (ChangeSpec.witness6 (enc := enc) (C := Try.checked) false ⟨#[], #[.agg lnZ, .int .u32 0, .int .u32 0], []⟩ 8 (by kernel_rfl) (by kernel_rfl) (by kernel_rfl) (by kernel_rfl)) ?_
  intro w tape i _ hsh _ hok hpre _
  obtain ⟨_, _, _, fn', hfn', _, _, _, _, hval0⟩ := hok
  have e : fn' = Try.f10 := Option.some.inj (hfn'.symm.trans Try.func10)
  subst e
  obtain ⟨⟨ds, gs, before, hw0, hc⟩, hz⟩ := hpre
  have hW := DataW.Whole.of_heap (w' := w.forCall tape i) (by rfl) hw0
  have h01 : ∀ g, g < 2 → ∃ ys t gz, (w.forCall tape i).heap[g]? = some (.cells ys t gz) := fun g hg => by
    have hg2 : g < Try.prog.globals.size := by
      rw [show Try.prog.globals.size = 2 by kernel_rfl]
      exact hg
    have hr : (((begin Try.prog (fun _ _ => 0) default).world.heap[g]?).bind Obj.row?).isSome = true := by
      have : g = 0 ∨ g = 1 := by omega
      rcases this with rfl | rfl
      · exact rows0
      · exact rows1
    obtain ⟨⟨zero, t⟩, hr⟩ := Option.isSome_iff_exists.1 hr
    obtain ⟨cs, h1, _⟩ := hsh.1 g zero t hg2 hr
    exact ⟨cs, t, _, h1⟩
  have hval : ∀ (j : Nat) t v, Try.f10.params[j]? = some t → i.args[j]? = some v → Value.okWide Try.prog (w.forCall tape i) .any w.heap.size t v := hval0
  have hwt := hz.weights hw0
  have key : ∃ M last o w' t', runNT Try.prog (M + 1) (solo (G (Frame.enter Try.prog 10 i.args .normal) []) (w.forCall tape i)) #[] = (.ended o w', t') ∧ runN Try.prog M (solo (G (Frame.enter Try.prog 10 i.args .normal) []) (w.forCall tape i)) = .next last ∧ step Try.prog last = .ended o w' ∧ _root_.Go.Conc.Good Try.prog (fun v W' => Rows.loanTwiceSpec.post enc Try.prog Try.f10 false true false false (w.forCall tape i) i.args v W') last o w' t' := by
    generalize w.forCall tape i = W at *
    generalize i.args = args at *
    clear hsh hw0 hz hval0
    have hW' := hW
    obtain ⟨p, q, hA0, hV, rfl, hfz, hnd⟩ := hW
    have hA : DataW.TrodAll enc Try.prog W 0 (fun _ => true) true Try.f10.params.toList args.toList ds p := hA0
    rw [Try.params10] at hA hval
    obtain ⟨v0, vs0, d0, ds0, p0, q0, hargs, rfl, rfl, h0, r0⟩ := trodAll_cons hA
    obtain ⟨v1, vs1, d1, ds1, p1, q1, rfl, rfl, rfl, h1, r1⟩ := trodAll_cons r0
    obtain ⟨v2, vs2, d2, ds2, p2, q2, rfl, rfl, rfl, h2, r2⟩ := trodAll_cons r1
    obtain ⟨rfl, rfl, rfl⟩ := trodAll_nil r2
    obtain rfl : args = #[v0, v1, v2] := by cases args; simp_all
    obtain ⟨rfl, rfl⟩ := trodVars_none hV
    have k0 := h0
    have lt0 : ∀ x ∈ p0, x.block < W.heap.size := by obtain ⟨m, hm⟩ := k0; exact DataW.trod_lt m _ _ _ hm
    obtain ⟨x0, x1, x2, x3, x4, x5, x6, x7, x8, x9, x10, x11, ad12, ln12, cp12, zs12, rfl, hx0, hx1, hx2, hx3, hx4, hx5, hx6, hx7, hx8, hx9, hx10, hx11, hx12⟩ := open_st (hval 0 56 v0 rfl rfl) h0
    obtain ⟨u0, rfl, rfl, rfl, w1⟩ := open_int Try.underlying32 (hval 1 32 v1 rfl rfl) h1
    obtain ⟨u1, rfl, rfl, rfl, w2⟩ := open_int Try.underlying32 (hval 2 32 v2 rfl rfl) h2
    clear hA0
    have hsz12 : ln12 ≤ 17592186044000 := size_st rfl rfl k0 (fun m hm => by
      have := List.all_eq_true.1 hwt _ (DataW.weights_mem_each (j := 0) (t := 56) (d := d0) (by kernel_rfl) rfl m hm)
      simpa using this)
    obtain ⟨M, last, o, w', t', e1, e2, e3, e4⟩ := kept_in W x0 x1 x2 x3 x4 x5 x6 x7 x8 x9 x10 x11 ad12 ln12 cp12 zs12 u0 u1 h01 hsz12 hx0 hx1 hx2 hx3 hx4 hx5 hx6 hx7 hx8 hx9 hx10 hx11 hx12 (by have hh := w1; simp [Lit.wf, IntKind.min, IntKind.max, IntKind.signed, IntKind.bits] at hh; omega) (by have hh := w2; simp [Lit.wf, IntKind.min, IntKind.max, IntKind.signed, IntKind.bits] at hh; omega)
    refine ⟨M, last, o, w', t', e1, e2, e3, e4.mono fun v hF => ?_⟩
    obtain ⟨he, hold⟩ : v = .bool true ∧ Sim.Old W w' := hF
    subst he
    have bel : Below W.heap.size W w' := ⟨hold.os, hold.tape, hold.out, hold.size, hold.same⟩
    exact ⟨_, _, _, [], _, [], hW', trodAll_mk1 (shut_bool Try.underlying4 _), (trodAll_cons_mk (Below.trod laidOut (by kernel_rfl) (of_decide_eq_true (by kernel_rfl)) k0 bel lt0) (trodAll_cons_mk (shut_int Try.underlying32 w1) (trodAll_cons_mk (shut_int Try.underlying32 w2) trodAll_mk0))), rfl, bel.frame _, fun h => by cases h⟩
  obtain ⟨M, last, o, w', t', e1, e2, e3, e4⟩ := key
  exact ⟨M, last, o, w', t', e1, e2, e3, e4.mono fun v hp => ChangeSpec.post_blind hp⟩
theorem over : Rows.loanTwiceRow.holds Try.pinned (OpenSpec.ofChange Rows.loanTwiceSpec) :=
  OpenClaim.holds_of_wide_leaving 10 Try.f10 rfl rfl rfl rfl rfl rfl rfl ⟨rfl, rfl, rfl, rfl, rfl⟩ rfl rfl rfl rfl rfl (by kernel_rfl) Try.func10 (by kernel_rfl)
    (of_decide_eq_true (by kernel_rfl)) (by unfold Func.isWrapper; first | (rw [if_pos (by decide +kernel)]; kernel_rfl) | (rw [if_neg (by decide +kernel)]; exact ⟨rfl, rfl⟩))
    (fun os started H enc _ => lifted os started H enc)
theorem proved : Rows.LoanTwiceSaid := over
#print axioms proved
end Go.Proofs.Ytpeoabopeihadaa.Mn.loanTwice
namespace Go.Proofs.Ytpeoabopeihadaa
theorem loanTwice_holds : Rows.LoanTwiceSaid := Mn.loanTwice.proved
end Go.Proofs.Ytpeoabopeihadaa
