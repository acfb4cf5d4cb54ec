/- How Solve is passed; a law's run, out of its lone contract. -/
import Derived.Test.YtpeoabopeihadaaNQF
import Derived.Test.YtpeoabopeihadaaNQK
import Derived.Test.YtpeoabopeihadaaNQG
import Derived.Test.YtpeoabopeihadaaNPln
set_option linter.unusedVariables false
set_option linter.unusedSimpArgs false
set_option linter.unusedSectionVars false
namespace Go.Proofs.Ytpeoabopeihadaa.Sim
open Go Go.Conc
open Go.Proofs.Ytpeoabopeihadaa.Mn (Row Eir s9_any s9_long SolA9 eir_no maySo_long)
theorem enter9 (a b : Value) : Frame.enter (Tri Try.prog) 15 #[a, b] .normal = mkF 15 (#[a, b] ++ Array.replicate 25 undef) [.code Tri.body] .run := by
 simp [Frame.enter, mkF, Tri.func15, Tri.f15]
theorem mkF_inj {f f' : FuncId} {xs xs' : Array Value} {k k' : List Item} {m m' : FrameMode} (h : mkF f xs k m = mkF f' xs' k' m') : f = f' ∧ xs = xs' ∧ k = k' ∧ m = m' := ⟨congrArg Frame.fn h, congrArg Frame.tmps h, congrArg Frame.todo h, congrArg Frame.mode h⟩
theorem list25 (a b : Value) : (#[a, b] ++ Array.replicate 25 undef).toList = a :: b :: List.replicate 25 undef := by
 rw [Array.toList_append, Array.toList_replicate]
 rfl
section
variable [Glob] {q : Ren}
theorem v_int {k : IntKind} {n : Int} {y : Value} (h : V q (.int k n) y) : y = .int k n := by
 obtain ⟨m, h⟩ := h
 cases m with
 | zero => exact h.elim
 | succ m =>
  cases y <;> simp [VR] at h
  rw [h.1, h.2]
theorem v_sl {ad : Option Addr} {ln cp : Nat} {y : Value} (h : V q (.slice ad ln cp) y) : ∃ ad', y = .slice ad' ln cp ∧ OAR q ad ad' := by
 obtain ⟨m, h⟩ := h
 cases m with
 | zero => exact h.elim
 | succ m =>
  cases y <;> simp only [VR] at h
  obtain ⟨h1, rfl, rfl⟩ := h
  exact ⟨_, rfl, h1⟩
theorem v_un {x : Value} (h : V q x undef) : x = undef := by
 obtain ⟨m, h⟩ := h
 cases m with
 | zero => exact h.elim
 | succ m =>
  have h : VR q (m + 1) x (.tuple #[]) := h
  cases x with
  | tuple vs =>
   have hv : vs.toList = [] := by
    cases hx : vs.toList with
    | nil => rfl
    | cons a l =>
     exfalso
     simp [VR, hx, LR] at h
   have : vs = #[] := by
    apply Array.ext'
    rw [hv]
   rw [this]
   rfl
  | _ => simp [VR] at h
theorem lr_un : ∀ {n : Nat} {xs : List Value}, LR (V q) xs (List.replicate n undef) → xs = List.replicate n undef
 | 0, [], _ => rfl
 | 0, _ :: _, h => h.elim
 | n + 1, [], h => h.elim
 | n + 1, x :: xs, h => by
  rw [List.replicate_succ, v_un h.1, lr_un h.2]
theorem lr_two {y0 y1 : Value} (m : List Value) {xs : List Value} (h : LR (V q) xs (y0 :: y1 :: m)) : ∃ x0 x1 l, xs = x0 :: x1 :: l ∧ V q x0 y0 ∧ V q x1 y1 ∧ LR (V q) l m := by
 cases xs with
 | nil => exact h.elim
 | cons x0 l =>
  cases l with
  | nil => exact h.2.elim
  | cons x1 l => exact ⟨x0, x1, l, rfl, h.1, h.2.1, h.2.2⟩
theorem enter_gen {P : Program} {c : Code} (hen : ∀ a b, Frame.enter P 15 #[a, b] .normal = mkF 15 (#[a, b] ++ Array.replicate 25 undef) [.code c] .run) {a : Frame} {y0 y1 : Value} (h : FR P q a (Frame.enter P 15 #[y0, y1] .normal)) : ∃ x0 x1, a = Frame.enter P 15 #[x0, x1] .normal ∧ V q x0 y0 ∧ V q x1 y1 := by
 obtain ⟨f, xs, ys, k, m, e1, e2, e3, e4, e5, e6⟩ := h
 rw [hen] at e2
 obtain ⟨t4, t1, t2, t3⟩ := mkF_inj e2
 rw [← t1, list25] at e4
 obtain ⟨x0, x1, l, hx, v0, v1, hl⟩ := lr_two _ e4
 have hl := lr_un (n := 25) hl
 refine ⟨x0, x1, ?_, v0, v1⟩
 have hxs : xs = #[x0, x1] ++ Array.replicate 25 undef := by
  apply Array.ext'
  rw [hx, list25, hl]
 rw [e1, hen, hxs, t2, t3, t4]
theorem enter_of {a : Frame} {y0 y1 : Value} (h : FR (Tri Try.prog) q a (Frame.enter (Tri Try.prog) 15 #[y0, y1] .normal)) : ∃ x0 x1, a = Frame.enter (Tri Try.prog) 15 #[x0, x1] .normal ∧ V q x0 y0 ∧ V q x1 y1 := enter_gen enter9 h
theorem row_rel {w u : World} {ad ad' : Option Addr} {ln cp : Nat} {zs : List Int} (hw : WR q w u) (ho : OAR q ad ad') (h : Row w (.slice ad ln cp) zs) : Row u (.slice ad' ln cp) zs := by
 rcases h with ⟨a, c, h1, h2⟩ | ⟨b, off, c, h1, h2, hm, hc, hin⟩
 ·cases h1
  exact .inl ⟨ad', cp, rfl, h2⟩
 ·cases h1
  cases ad' with
  | none => exact ho.elim
  | some a' =>
   obtain ⟨o1, o2, o3, _⟩ := ho
   obtain ⟨b', off', sp'⟩ := a'
   simp only at o1 o2 o3
   subst o2
   subst o3
   refine .inr ⟨b', off, cp, rfl, h2, hm, fun j hj => ?_, hin⟩
   have h := hc j hj
   obtain ⟨o, o', a1, a2, a3⟩ := hw.blk b b' o1
   rcases a3 with ⟨xs, t, fz, ys, gz, rfl, rfl, hl, _⟩ | ⟨x, x', l, rfl, rfl, _⟩
   ·have h : xs[off + j]? = some (.int .i64 (zs.getD j 0)) := by simpa [World.cell?, a1] using h
    show u.cell? ⟨b', off + j, none⟩ = _
    simp only [World.cell?, a2]
    have hg := LR.getD hl (off + j) (V.undef q)
    rw [show xs.getD (off + j) undef = .int .i64 (zs.getD j 0) by simp [Array.getD_eq_getD_getElem?, h]] at hg
    have hg := v_int hg
    cases e : ys[off + j]? with
    | none => simp [Array.getD_eq_getD_getElem?, e] at hg; cases hg
    | some v =>
     have : v = .int .i64 (zs.getD j 0) := by simpa [Array.getD_eq_getD_getElem?, e] using hg
     simp [this]
   ·simp [World.cell?, a1] at h
end
set_option maxRecDepth 100000 in
theorem ary9 : @ary (gl Try.prog) 15 = 2 := by
 show ((Try.prog.funcs[15]?).map (·.params.size)).getD 0 = 2
 rw [Try.func15]
 rfl
theorem leap (Post : Value → Array Obj → Prop) {W : World} (h01W : ∀ g, g < 2 → ∃ ys t gz, W.heap[g]? = some (.cells ys t gz)) : @Leap (gl Try.prog) (Tri Try.prog) Post W := by
 letI : Glob := gl Try.prog
 intro g ys s p top bs cs u gs sl t hO hcut hsz hE hR hF
 have hc : Codes (Tri Try.prog) := codes_l
 have hz : Zero (Tri Try.prog) := zero_l
 have hG : Glob.size = (Tri Try.prog).globals.size := rfl
 have hcut : (g == 15) = true := hcut
 obtain rfl := eq_of_beq hcut
 rw [ary9] at hsz
 obtain ⟨y0, y1, rfl⟩ : ∃ y0 y1, ys = #[y0, y1] := by
  obtain ⟨l⟩ := ys
  have hsz : l.length = 2 := hsz
  rcases l with _ | ⟨a, _ | ⟨b, _ | ⟨c, l⟩⟩⟩
  ·cases hsz
  ·cases hsz
  ·exact ⟨a, b, rfl⟩
  ·simp at hsz
 obtain ⟨a, ss, w⟩ := s
 obtain ⟨x0, x1, ha, v0, v1⟩ := enter_of hR.fr
 have ha : a = _ := ha
 subst ha
 have hI : Inv (Tri Try.prog) Post ⟨Frame.enter (Tri Try.prog) 15 #[x0, x1] .normal, ss, w⟩ := ⟨hE, p, _, _, u, hR.gp, hR.wr, hR.fr, hR.sk⟩
 obtain ⟨out, ad, ln, cp, rfl, rfl, hio, hrow⟩ := handed hz hG hc hI
 obtain rfl := v_int v0
 obtain ⟨ad', rfl, hoar⟩ := v_sl v1
 have hsk := hR.sk
 cases ss with
 | nil => exact hsk.elim
 | cons top0 as0 =>
  have h01 : ∀ g, g < 2 → ∃ ys t gz, u.heap[g]? = some (.cells ys t gz) := fun g hg => by
   obtain ⟨ys, t, gz, e⟩ := h01W g hg
   exact ⟨ys, t, gz, (hO.same g (Array.getElem?_eq_some_iff.1 e).1).trans e⟩
  have hrow' : 600 < ln ∨ (ln ≤ 600 ∧ ∃ zs : List Int, zs.length = ln ∧ Row u (.slice ad' ln cp) zs) := hrow.imp id fun h => ⟨h.1, by
   obtain ⟨zs, h1, h2⟩ := h.2
   exact ⟨zs, h1, row_rel hR.wr hoar h2⟩⟩
  have hF' : Alone Try.prog (G (Frame.enter Try.prog 15 #[.int .i64 out, .slice ad' ln cp] .normal) (top :: (bs ++ cs))) gs u t := hF
  obtain ⟨r, e, N, gs', u', sl', t', g0', e1, e2, ⟨K, e3⟩, e4, e5⟩ := solve_at (out := out) (ad := ad') (ln := ln) (cp := cp) (sl := sl) hrow' h01 hF' (Leads.refl _)
  obtain ⟨N2, gs2, u2, sl2, t2, g2, ow, f1, f2, f3, _, f4⟩ := alone_to (sl := sl') e2 (e3 _ _ (fun _ g _ => g = G (top.finish (two r e)) (bs ++ cs)) 0 u' (fun v _ => rfl))
  subst f4
  have hsol : ∃ l : List Int, SolA9 w out (.slice ad ln cp) l ∧ Eir out l r e := by
   rcases hrow with h | ⟨h, zs, h1, h2⟩
   ·refine ⟨List.replicate ln 0, s9_long _ _ _ _ _ _ ⟨hio.1, hio.2⟩ h (eir_no (maySo_long (by simpa using h))), ?_⟩
    rcases e5 with ⟨_, rfl, rfl⟩ | ⟨h', _⟩
    ·exact eir_no (maySo_long (by simpa using h))
    ·omega
   ·refine ⟨zs, s9_any ⟨hio.1, hio.2⟩ h2, ?_⟩
    rcases e5 with ⟨h', _⟩ | ⟨_, e5⟩
    ·omega
    ·exact e5 zs h1 (row_rel hR.wr hoar h2)
  obtain ⟨l, hS, hEir⟩ := hsol
  obtain ⟨en, w2, fr, ⟨r2, e2', k1, rfl, k2⟩, ⟨n, hn⟩, _, hl⟩ := hS (top0 :: (as0 ++ [floor]))
  obtain ⟨rfl, rfl⟩ := hEir.only k1
  refine ⟨N + N2, gs2, u2, sl2, t2, n + 1, top0, as0, two r e, two r e, w2, ?_, f2, e4.trans f3, rfl, V.tuple ⟨V.int _ _ _, V.int _ _ _, trivial⟩, ?_, k2.size, k2.block⟩
  ·show runNT Try.prog _ _ _ = _
   rw [runNT_add, e1]
   exact f1
  ·show runN (Tri Try.prog) (n + 1) (lone (Frame.enter (Tri Try.prog) 15 #[.int .i64 out, .slice ad ln cp] .normal) (top0 :: (as0 ++ [floor])) w) = _
   rw [runN_add, hn]
   show runN (Tri Try.prog) 1 _ = _
   simp only [runN, step_leave_returned hl]
end Go.Proofs.Ytpeoabopeihadaa.Sim
/- A law's run in company, out of its lone one. -/
namespace Go.Proofs.Ytpeoabopeihadaa.Sim
open Go Go.Conc
theorem stepG_home {P : Program} {f : FuncId} {fn : Func} {ys : Array Value} {k : List Item} {u : World} {k0 : Nat} (hfn : P.funcs[f]? = some fn) (hres : fn.results = #[.tmp k0]) (hin : P.inits.idxOf? f = none) : stepG P true (gor (mkF f ys k .returning) []) u = .ended (.done (ys.getD k0 undef)) u #[] := by
 have hr : (results fn ys).run P u = .ok (ys.getD k0 undef) u := results_tmp hres ys P u
 have he : (results fn ys).events P u #[] = #[] := by simp [results, hres]
 simp [stepG, gor, mkF, unwind, hfn, hr, he, doReturn, hin, GStep.after, seen]
theorem carried {f : FuncId} {fn : Func} {xs args : Array Value} {w W : World} {p : Ren} {k0 : Nat} (hfn : Try.prog.funcs[f]? = some fn) (hres : fn.results = #[.tmp k0]) (hin : Try.prog.inits.idxOf? f = none) (h9 : f ≠ 15) (hL : listL.contains f = true) (h01 : ∀ g, g < 2 → ∃ ys t gz, W.heap[g]? = some (.cells ys t gz)) (hgp : ∀ g, g < 2 → p g = some g) :
  letI : Glob := gl Try.prog
  AllEnd (Tri Try.prog) (fun v _ => v = .bool true) (Frame.enter (Tri Try.prog) f xs .normal) [] w → WR p w W → LR (V p) xs.toList args.toList → (∀ d c, p d = some c → Fz w d) →
  ∃ M last o w' t', runNT Try.prog (M + 1) (solo (G (Frame.enter Try.prog f args .normal) []) W) #[] = (.ended o w', t') ∧ runN Try.prog M (solo (G (Frame.enter Try.prog f args .normal) []) W) = .next last ∧ step Try.prog last = .ended o w' ∧ _root_.Go.Conc.Good Try.prog (fun v W' => v = .bool true ∧ Old W W') last o w' t' := by
 letI : Glob := gl Try.prog
 intro hE hw hx hfz
 have hc : Codes (Tri Try.prog) := codes_l
 have hz : Zero (Tri Try.prog) := zero_l
 have hG : Glob.size = (Tri Try.prog).globals.size := rfl
 have ok : Glob.ok f = true := hL
 have nc : Glob.cut f = false := show (f == 15) = false by simpa using h9
 have ee : Frame.enter Try.prog f args .normal = Frame.enter (Tri Try.prog) f args .normal := enter_co (P := Tri Try.prog) hc ok nc args
 have hR : Rel (Tri Try.prog) p ⟨Frame.enter (Tri Try.prog) f xs .normal, [], w⟩ (Frame.enter (Tri Try.prog) f args .normal) [] W := ⟨fun g hg => hgp g (lt2 hg), hw, fr_of hc ok hx, trivial⟩
 have hI : Inv (Tri Try.prog) (fun v _ => v = .bool true) ⟨Frame.enter (Tri Try.prog) f xs .normal, [], w⟩ := ⟨hE, p, _, _, W, hR.gp, hR.wr, hR.fr, hR.sk⟩
 have acc := ends_acc hz hG hc hI
 rw [ee, solo_eq_crowd]
 have hF : Alone (co (Tri Try.prog)) (gor (Frame.enter (Tri Try.prog) f args .normal) ([] ++ [])) #[G (Frame.enter (Tri Try.prog) f args .normal) []] W #[] := ⟨rfl, rfl, ⟨_, leavers_one _ _⟩, past_nil.mono (Nat.zero_le _)⟩
 obtain ⟨N, s', p', gs', b', bs', u', sl', t', e1, F1, E1, R1, ov, kp, lw⟩ := carry_loop hz hG hc hfz (leap _ h01) (cs := []) (sl := none) acc.transGen hE acc hR nc (fun x hx => by cases hx) hF (Kp.refl _ _ _)
 have e1 : runNT Try.prog N (crowd #[G (Frame.enter (Tri Try.prog) f args .normal) []] W none) #[] = (.next (crowd gs' u' sl'), t') := e1
 obtain ⟨ov1, ov2⟩ := ov
 have hbs : bs' = [] := by
  have := R1.sk
  rw [ov2] at this
  cases bs' with
  | nil => rfl
  | cons x l => exact this.elim
 subst hbs
 obtain ⟨n, fr, v, w', e, hl, hp⟩ := E1 u'.tape u'.drawn
 have n0 : n = 0 := by
  rw [ov2, List.nil_append] at e
  exact end_any hc R1.fr ov1 (as2 := []) e
 subst n0
 rw [ov2, List.nil_append] at e
 simp only [runN, Stepped.next.injEq, lone, Machine.mk.injEq] at e
 have e2 := e.2.1
 simp at e2
 have e3 := e.1
 subst e2
 subst e3
 obtain ⟨f', zs, ys, k, m, d1, d2, d3, d4, d5, d6⟩ := R1.fr
 have hm : m = .returning := by
  have := ov1
  rw [d1] at this
  exact this
 subst hm
 have hf' : f' = f := by
  have : b'.fn = f := lw
  rw [d2] at this
  exact this
 subst hf'
 rw [d1] at hl
 obtain ⟨_, _, _, fn', h4, h5⟩ := hl
 have h4 : (Tri Try.prog).funcs[f']? = some fn' := h4
 rw [Tri.func _ h9, hfn] at h4
 cases h4
 have h5 : (results fn zs).run (Tri Try.prog) (wt s'.w u'.tape u'.drawn) = .ok v (wt s'.w u'.tape u'.drawn) := h5
 rw [results_tmp hres] at h5
 have hv : zs.getD k0 undef = .bool true := by
  have := (Result.ok.inj h5).1
  rw [this]
  exact hp
 have hV := LR.getD d4 k0 (V.undef p')
 rw [hv] at hV
 have hy := v_bool hV
 have old : Old W u' := old_of kp hfz
 obtain ⟨q', hLv⟩ := F1.leave
 obtain ⟨M4, last, o, w4, t4, g1, g2, g3, g4⟩ := beside_ends (P := Try.prog) (Shun := fun _ => False) (B := u'.heap.size) (D := fun _ _ _ => False) (Post := fun v W' => v = .bool true ∧ Old W W') (sl := sl') (n := 0) (fun _ _ _ h => h.elim) F1.zero hLv F1.past (fun w1 hw1 => by
  have hs := stepG_home (P := Try.prog) (ys := ys) (k := k) (u := w1) hfn hres hin
  rw [hy] at hs
  refine ⟨rfl, .bool true, #[], ?_, ?_, rfl, ?_⟩
  ·rw [d2]
   exact hs
  ·intro e he
   simp at he
  ·obtain ⟨d, rfl⟩ := hw1
   exact ⟨old.size, old.same, old.os, old.tape, old.out⟩)
 refine ⟨N + M4, last, o, w4, t4, ?_, ?_, g3, g4⟩
 ·rw [Nat.add_assoc, runNT_add, e1]; exact g1
 ·rw [runN_add, ← runNT_fst Try.prog _ _ #[], e1]; exact g2
end Go.Proofs.Ytpeoabopeihadaa.Sim
