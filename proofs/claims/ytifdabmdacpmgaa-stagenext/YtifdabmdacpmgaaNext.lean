/- Proved here: StageNext: the stage that any mark tells, and the state behind it, or the error, are the document's. No condition. -/
import Derived.Test.YtifdabmdacpmgaaOp
import Derived.Deep.RegionHeld3
namespace Go.Proofs.Ytifdabmdacpmgaa.stageNext
open Go.ChangeShapes Go.WideShapes Go.ChangeAt Go.RowKit
set_option linter.unusedVariables false
set_option linter.unusedSimpArgs false
set_option maxRecDepth 100000 in
theorem open_s0 {H : Type} {enc : TypeId × Value → H} {w : World} {b0 base : Nat} {held : Bool} {v : Value} {d : DataW H} {p : List MemPlace}
    (hv : Value.okWide Try.prog w .any b0 23 v) (h : DataW.Trod enc Try.prog w base (fun _ => true) held 23 v d p) :
    ∃ (x0 : Int) (x1 : Int), v = .agg #[.int .i64 x0, .int .i64 x1] ∧ In64 x0 ∧ In64 x1 := by
  obtain ⟨cs, rfl, hsz⟩ := okWide_struct Try.underlying23 hv
  have hsz : cs.size = 2 := hsz.trans (by kernel_rfl)
  obtain ⟨cl⟩ := cs
  simp only [List.size_toArray] at hsz
  match cl, hsz with
  | [v0, v1], _ =>
    obtain ⟨fuel, hf⟩ := h
    obtain ⟨xs, m, _, hx, _, hlen, hF⟩ := DataW.trod_struct Try.underlying23 hf
    match xs, hlen with
    | [y0, y1], _ =>
      have h0 : DataW.trod enc Try.prog w base (fun _ => true) held m 3 [v0] = some y0 := by simpa [Value.cells, show Try.prog.cellsOf 3 = 1 by kernel_rfl] using hF 0 _ rfl
      have h1 : DataW.trod enc Try.prog w base (fun _ => true) held m 3 [v1] = some y1 := by simpa [Value.cells, show Try.prog.cellsOf 3 = 1 by kernel_rfl] using hF 1 _ rfl
      obtain ⟨x0, e0, _, w0⟩ := DataW.trod_int Try.underlying3 h0
      simp at e0
      subst e0
      have b0 : In64 x0 := in64_of w0
      obtain ⟨x1, e1, _, w1⟩ := DataW.trod_int Try.underlying3 h1
      simp at e1
      subst e1
      have b1 : In64 x1 := in64_of w1
      exact ⟨x0, x1, rfl, b0, b1⟩
set_option maxRecDepth 100000 in
theorem open_s1 {H : Type} {enc : TypeId × Value → H} {w : World} {b0 base : Nat} {held : Bool} {v : Value} {d : DataW H} {p : List MemPlace}
    (hv : Value.okWide Try.prog w .any b0 25 v) (h : DataW.Trod enc Try.prog w base (fun _ => true) held 25 v d p) :
    ∃ (x0 : Int) (x1 : Int) (x2 : Bool), v = .agg #[.int .i64 x0, .int .i64 x1, .bool x2] ∧ In64 x0 ∧ In64 x1 ∧ True := by
  obtain ⟨cs, rfl, hsz⟩ := okWide_struct Try.underlying25 hv
  have hsz : cs.size = 3 := hsz.trans (by kernel_rfl)
  obtain ⟨cl⟩ := cs
  simp only [List.size_toArray] at hsz
  match cl, hsz with
  | [v0, v1, v2], _ =>
    obtain ⟨fuel, hf⟩ := h
    obtain ⟨xs, m, _, hx, _, hlen, hF⟩ := DataW.trod_struct Try.underlying25 hf
    match xs, hlen with
    | [y0, y1, y2], _ =>
      have h0 : DataW.trod enc Try.prog w base (fun _ => true) held m 3 [v0] = some y0 := by simpa [Value.cells, show Try.prog.cellsOf 3 = 1 by kernel_rfl, show Try.prog.cellsOf 4 = 1 by kernel_rfl] using hF 0 _ rfl
      have h1 : DataW.trod enc Try.prog w base (fun _ => true) held m 3 [v1] = some y1 := by simpa [Value.cells, show Try.prog.cellsOf 3 = 1 by kernel_rfl, show Try.prog.cellsOf 4 = 1 by kernel_rfl] using hF 1 _ rfl
      have h2 : DataW.trod enc Try.prog w base (fun _ => true) held m 4 [v2] = some y2 := by simpa [Value.cells, show Try.prog.cellsOf 3 = 1 by kernel_rfl, show Try.prog.cellsOf 4 = 1 by kernel_rfl] using hF 2 _ rfl
      obtain ⟨x0, e0, _, w0⟩ := DataW.trod_int Try.underlying3 h0
      simp at e0
      subst e0
      have b0 : In64 x0 := in64_of w0
      obtain ⟨x1, e1, _, w1⟩ := DataW.trod_int Try.underlying3 h1
      simp at e1
      subst e1
      have b1 : In64 x1 := in64_of w1
      obtain ⟨x2, e2, _⟩ := DataW.trod_bool Try.underlying4 h2
      simp at e2
      subst e2
      have b2 : True := trivial
      exact ⟨x0, x1, x2, rfl, b0, b1, b2⟩
theorem eql23 (p q : Int) (w : World) : (binOp .eql 23 (.agg #[.int .i64 p, .int .i64 q]) (.agg #[.int .i64 p, .int .i64 q])).run Try.prog w = .ok (.bool true) w := by
  have ht : Try.prog.underlying 23 = some (.struct (Try.prog.fieldsOf 23)) := by kernel_rfl
  have hp : Try.prog.stoodInHeld 23 = false := by kernel_rfl
  have hf := TypeDesc.struct.inj (Option.some.inj (ht.symm.trans Try.underlying23))
  have key : (Op.equalIn (9999 + 1) 23 (.agg #[.int .i64 p, .int .i64 q]) (.agg #[.int .i64 p, .int .i64 q])).run Try.prog w = .ok true w := by
    rw [run_equalIn_agg w 9999 23 _ _ ht hp, hf]
    simp [Op.eqFields, Go.part, isAgg, go_sem, Try.underlying3]
  simp only [binOp]
  simp [Op.equal, Op.maxDepth, key]
structure SA (w wr : World) (s g p d : Int) (b : Bool) : Prop where
  bel : Below w.heap.size w wr
  b0 : Blk wr w.heap.size #[.int .i64 s, .int .i64 g] 23
  b1 : Blk wr (w.heap.size + 1) #[.int .i64 p, .int .i64 d, .bool b] 25
theorem SA.keep {w wr w2 : World} {s g p d : Int} {b : Bool} (h : SA w wr s g p d b) (hb : Below wr.heap.size wr w2) : SA w w2 s g p d b := ⟨below_via h.bel hb, h.b0.keep hb, h.b1.keep hb⟩
theorem SA.new (w : World) (s g p d : Int) (b : Bool) : SA w ((w.alloc (.cells #[.int .i64 s, .int .i64 g] 23)).alloc (.cells #[.int .i64 p, .int .i64 d, .bool b] 25)) s g p d b := ⟨(below1 w _).alloc (by simp) _, (Blk.new w _ _).alloc _, by simpa using Blk.new (w.alloc (.cells #[.int .i64 s, .int .i64 g] 23)) #[.int .i64 p, .int .i64 d, .bool b] 25⟩
structure S8 (w wr : World) (ka kb : Nat) (s g p d : Int) (b : Bool) (x y : Int) : Prop where
  sa : SA w wr s g p d b
  ba : Blk wr ka #[.int .i64 x, .int .i64 y] 27
  bb : Blk wr kb #[.int .i64 x, .int .i64 y] 23
abbrev X8 (w w' : World) (ka kb : Nat) (s g p d : Int) (b : Bool) (x y : Int) : Prop := w'.cell? ⟨ka, 0, none⟩ = some (.int .i64 x) ∧ w'.cell? ⟨ka, 1, none⟩ = some (.int .i64 y) ∧ w'.cell? ⟨kb, 0, none⟩ = some (.int .i64 x) ∧ w'.cell? ⟨kb, 1, none⟩ = some (.int .i64 y) ∧ w'.cell? ⟨w.heap.size + 1, 0, none⟩ = some (.int .i64 p) ∧ w'.cell? ⟨w.heap.size + 1, 1, none⟩ = some (.int .i64 d) ∧ w'.cell? ⟨w.heap.size + 1, 2, none⟩ = some (.bool b) ∧ Hid (S8 w w' ka kb s g p d b x y)
section
variable {w wr w2 : World} {ka kb : Nat} {s g p d : Int} {b : Bool} {x y : Int}
theorem S8.keep (h : S8 w wr ka kb s g p d b x y) (hb : Below wr.heap.size wr w2) : S8 w w2 ka kb s g p d b x y := ⟨h.sa.keep hb, h.ba.keep hb, h.bb.keep hb⟩
theorem S8.cells (h : S8 w wr ka kb s g p d b x y) : X8 w wr ka kb s g p d b x y := ⟨h.ba.at 0 _ rfl, h.ba.at 1 _ rfl, h.bb.at 0 _ rfl, h.bb.at 1 _ rfl, h.sa.b1.at 0 _ rfl, h.sa.b1.at 1 _ rfl, h.sa.b1.at 2 _ rfl, hide h⟩
theorem S8.next (h : X8 w wr ka kb s g p d b x y) (hb : Below wr.heap.size wr w2) : X8 w w2 ka kb s g p d b x y := ((unhide h.2.2.2.2.2.2.2).keep hb).cells
theorem S8.drew (h : X8 w wr ka kb s g p d b x y) : X8 w wr.drew ka kb s g p d b x y := S8.next h (Below.refl _ _).drew
end
theorem walk0 (s g p d : Int) (b : Bool) (hal : Hid Alive) (w : World) : Calls Try.prog 3 #[.agg #[.int .i64 s, .int .i64 g], .agg #[.int .i64 p, .int .i64 d, .bool b]] w fun e w' => e = .returned (.bool true) ∧ Below w.heap.size w w' := by
  have HN := hide (next_any s g p d b)
  have HM := hide (rnext_any s g p d b)
  have HW := hide (worst_any p d b)
  have HX := hide (rworst_any p d b)
  generalize nxt s g p d b = r at *
  obtain ⟨x, y, z⟩ := r
  generalize wst p d b = ww at *
  have A := hide (SA.new w s g p d b)
  have e1 : (z == z) = true := by simp
  have e2 : (ww == ww) = true := by simp
  have eq := fun w => eql23 x y w
  go_enter Try.func3, Try.ntmps3
  go_wp2_with fail
  refine (unhide hal _).mono ?_
  rintro e w1 ⟨rfl, hb⟩
  replace A := hide ((unhide A).keep hb)
  clear hb
  have c0 := (unhide A).b0.at 0 (.int .i64 s) rfl
  have c1 := (unhide A).b0.at 1 (.int .i64 g) rfl
  have c2 := (unhide A).b1.at 0 (.int .i64 p) rfl
  have c3 := (unhide A).b1.at 1 (.int .i64 d) rfl
  have c4 := (unhide A).b1.at 2 (.bool b) rfl
  go_wp2_with fail
  refine (unhide HN _).mono ?_
  rintro e w2 ⟨rfl, hb⟩
  replace A := hide (((unhide A).keep hb).keep (below1 _ (.cells #[.int .i64 x, .int .i64 y] 27)))
  have BA := hide (Blk.new w2 #[.int .i64 x, .int .i64 y] 27)
  clear hb c0 c1 c2 c3 c4
  have c0 := (unhide A).b0.at 0 (.int .i64 s) rfl
  have c1 := (unhide A).b0.at 1 (.int .i64 g) rfl
  have c2 := (unhide A).b1.at 0 (.int .i64 p) rfl
  have c3 := (unhide A).b1.at 1 (.int .i64 d) rfl
  have c4 := (unhide A).b1.at 2 (.bool b) rfl
  go_wp2_with fail
  refine (unhide HM _).mono ?_
  rintro e w3 ⟨rfl, hb⟩
  replace A := hide (((unhide A).keep hb).keep (below1 _ (.cells #[.int .i64 x, .int .i64 y] 23)))
  replace BA := hide ((Blk.keep (unhide BA) hb).keep (below1 _ (.cells #[.int .i64 x, .int .i64 y] 23)))
  have BB := hide (Blk.new w3 #[.int .i64 x, .int .i64 y] 23)
  clear hb c0 c1 c2 c3 c4
  have X8 := S8.cells ⟨unhide A, unhide BA, unhide BB⟩
  clear A BA BB
  replace X8 := hide X8
  go_wp2_with fail
  generalize w3.alloc (.cells #[.int .i64 x, .int .i64 y] 23) = w4 at *
  generalize w2.heap.size = ka at *
  generalize w3.heap.size = kb at *
  have H8 := unhide X8
  clear X8
  go_region_held3 (fun w' => w'.cell? ⟨ka, 0, none⟩ = some (.int .i64 x) ∧ w'.cell? ⟨ka, 1, none⟩ = some (.int .i64 y) ∧ w'.cell? ⟨kb, 0, none⟩ = some (.int .i64 x) ∧ w'.cell? ⟨kb, 1, none⟩ = some (.int .i64 y) ∧ w'.cell? ⟨w.heap.size + 1, 0, none⟩ = some (.int .i64 p) ∧ w'.cell? ⟨w.heap.size + 1, 1, none⟩ = some (.int .i64 d) ∧ w'.cell? ⟨w.heap.size + 1, 2, none⟩ = some (.bool b) ∧ Hid (S8 w w' ka kb s g p d b x y))
    (first
      | exact S8.next (by assumption) hbA
      | exact S8.next H8 hbA
      | exact S8.next (S8.drew H8) hbA
      | exact S8.drew H8
      | exact H8)
    (first
      | (go_at_call 11; refine (unhide HW _).mono ?_; rintro x wA ⟨rfl, hbA⟩)
      | (go_at_call 12; refine (unhide HX _).mono ?_; rintro x wA ⟨rfl, hbA⟩))
  rename_i hH
  have C := hide (unhide hH.2.2.2.2.2.2.2)
  clear hH H8
  go_wp2_with fail
  go_ret
  exact ⟨rfl, (unhide C).sa.bel⟩
theorem walk (s g p d : Int) (b : Bool) (w : World) (_ : In64 s) (_ : In64 g) (_ : In64 p) (_ : In64 d) (_ : True) : Calls Try.prog 3 #[.agg #[.int .i64 s, .int .i64 g], .agg #[.int .i64 p, .int .i64 d, .bool b]] w fun e w' => e = .returned (.bool true) ∧ Below w.heap.size w w' := walk0 s g p d b (hide alive_any) w
theorem own : ownKnob Try.prog.godebug = none := by kernel_rfl
theorem laidOut : laidOutB Try.prog = true := by kernel_rfl
set_option linter.unusedVariables false in
set_option maxRecDepth 100000 in
theorem lifted (os : Os) (started : os.Started) (H : Type) (enc : TypeId × Value → H) :
    ReturnsInHanded {} Try.checked os 3 .any (Rows.stageNextSpec.pre6 enc Try.prog Try.f3 Rows.stageNextRow.domain false) (Rows.stageNextSpec.post enc Try.prog Try.f3 false true false false) := by
  refine returnsInHanded_of_change (C := Try.checked) own started (by kernel_rfl) Try.func3
    (ChangeSpec.witness6 (enc := enc) (C := Try.checked) false ⟨#[], #[.agg #[.int .i64 0, .int .i64 0], .agg #[.int .i64 0, .int .i64 0, .bool false]], []⟩ 8 (by kernel_rfl) (by kernel_rfl) (by kernel_rfl) (by kernel_rfl)) ?_
  intro W base args ds gs before hval0 hW hcnd _
  have hval : ∀ (j : Nat) t v, Try.f3.params[j]? = some t → args[j]? = some v → Value.okWide Try.prog W .any base t v := hval0
  have hW' := hW
  obtain ⟨p, q, hA0, hV, rfl, hfz, hnd⟩ := hW
  have hA : DataW.TrodAll enc Try.prog W 0 (fun _ => true) true Try.f3.params.toList args.toList ds p := hA0
  rw [Try.params3] at hA hval
  obtain ⟨v0, vs0, d0, ds0, p0, q0, hargs, rfl, rfl, h0, r0⟩ := trodAll_cons hA
  obtain ⟨v1, vs1, d1, ds1, p1, q1, rfl, rfl, rfl, h1, r1⟩ := trodAll_cons r0
  obtain ⟨rfl, rfl, rfl⟩ := trodAll_nil r1
  obtain rfl : args = #[v0, v1] := by cases args; simp_all
  obtain ⟨rfl, rfl⟩ := trodVars_none hV
  have k0 := h0
  have lt0 : ∀ x ∈ p0, x.block < W.heap.size := by obtain ⟨m, hm⟩ := k0; exact DataW.trod_lt m _ _ _ hm
  obtain ⟨ax0, ax1, rfl, ahb0, ahb1⟩ := open_s0 (hval 0 23 v0 rfl rfl) h0
  have k1 := h1
  have lt1 : ∀ x ∈ p1, x.block < W.heap.size := by obtain ⟨m, hm⟩ := k1; exact DataW.trod_lt m _ _ _ hm
  obtain ⟨bx0, bx1, bx2, rfl, bhb0, bhb1, bhb2⟩ := open_s1 (hval 1 25 v1 rfl rfl) h1
  clear hA0 hval0
  refine (walk ax0 ax1 bx0 bx1 bx2 W ahb0 ahb1 bhb0 bhb1 bhb2).mono fun e W' ⟨he, bel⟩ => ?_
  subst he
  exact ⟨_, rfl, _, _, _, [], _, [], hW', trodAll_mk1 (shut_bool Try.underlying4 _), (trodAll_cons_mk (Below.trod laidOut (by kernel_rfl) (of_decide_eq_true (by kernel_rfl)) k0 bel lt0) (trodAll_cons_mk (Below.trod laidOut (by kernel_rfl) (of_decide_eq_true (by kernel_rfl)) k1 bel lt1) trodAll_mk0)), rfl, bel.frame _, fun h => by cases h⟩
theorem over : Rows.stageNextRow.holds Try.pinned (OpenSpec.ofChange Rows.stageNextSpec) :=
  OpenClaim.holds_of_wide 3 Try.f3 rfl rfl rfl rfl rfl rfl rfl ⟨rfl, rfl, rfl, rfl, rfl⟩ rfl rfl rfl rfl rfl (by kernel_rfl) Try.func3 (by kernel_rfl)
    (of_decide_eq_true (by kernel_rfl)) (by unfold Func.isWrapper; first | (rw [if_pos (by decide +kernel)]; kernel_rfl) | (rw [if_neg (by decide +kernel)]; exact ⟨rfl, rfl⟩))
    (fun os started H enc _ => lifted os started H enc)
theorem proved : Rows.StageNextSaid := over
end Go.Proofs.Ytifdabmdacpmgaa.stageNext
namespace Go.Proofs.Ytifdabmdacpmgaa
theorem stageNext_holds : Rows.StageNextSaid := stageNext.proved
end Go.Proofs.Ytifdabmdacpmgaa
