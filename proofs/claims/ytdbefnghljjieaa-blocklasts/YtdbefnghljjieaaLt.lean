/- latest. -/
import Derived.Test.YtdbefnghljjieaaBk
namespace Go.Proofs.Ytdbefnghljjieaa
open Go.RowKit Go.Shelf
set_option linter.unusedVariables false
set_option linter.unusedSimpArgs false
attribute [local go_sem] Oper.semAt_some
def lastF : List Wt → Int → Option Wt
  | [], _ => none
  | q :: r, a => match lastF r a with
    | some x => some x
    | none => if (q.1 : Int) = a then some q else none
theorem lastF_none : ∀ {l : List Wt} {a : Int}, (∀ q ∈ l, (q.1 : Int) ≠ a) → lastF l a = none
  | [], _, _ => rfl
  | q :: r, a, h => by rw [lastF, lastF_none (fun y hy => h y (List.mem_cons_of_mem _ hy))]; simp [h q List.mem_cons_self]
theorem lastF_some : ∀ {l : List Wt} {a : Int} {k : Nat} {q : Wt}, l[k]? = some q → (q.1 : Int) = a → (∀ j y, k < j → l[j]? = some y → (y.1 : Int) ≠ a) → lastF l a = some q
  | [], _, k, q, h, _, _ => by simp at h
  | y :: r, a, 0, q, h, hq, hn => by
    simp at h
    subst h
    rw [lastF, lastF_none (fun z hz => by
      obtain ⟨j, hj, e⟩ := List.getElem_of_mem hz
      exact hn (j + 1) z (by omega) (by simp [hj, e]))]
    simp [hq]
  | y :: r, a, k + 1, q, h, hq, hn => by
    rw [lastF, lastF_some (l := r) (k := k) (by simpa using h) hq (fun j z hj hz => hn (j + 1) z (by omega) (by simpa using hz))]
theorem size4 : (Try.prog.info? 4).map (·.size) = some 1 := by kernel_rfl
def lastQ (l : List Wt) (a : Int) : Wt := (lastF l a).getD (0, zs64)
def lastB (l : List Wt) (a : Int) : Bool := (lastF l a).isSome
theorem blk_own {β : Type} (b : Nat) (cs : Array Value) (T : TypeId) : Own (fun (_ : β) W => Blk W b cs T) := fun s X Y row hs hg hrow =>
  (hg.block b (show Blk X b cs T from hs).lt (fun e => by obtain ⟨o, ho, hc⟩ := hrow b e.symm; rw [show X.heap[b]? = _ from hs] at ho; cases ho; cases hc)).trans hs
theorem keeps_but {b : Nat} {w W : World} {cs : Array Value} {T : TypeId} (h : But (fun k => k = b) w W) (hB : Blk w b cs T) : KeepsOthers w W := ⟨h.size, fun k o hk hc => (h.block k (Array.getElem?_eq_some_iff.1 hk).1 (fun e => by subst e; rw [show w.heap[k]? = _ from hB] at hk; cases hk; cases hc)).trans hk⟩
theorem Blk.cell1 {w : World} {b : Nat} {v : Value} {T : TypeId} (h : Blk w b #[v] T) : w.cell? ⟨b, 0, none⟩ = some v := h.at 0 v rfl
theorem res_26 {W : World} {tmps : Array Value} {b4 b5 : Nat} {q : Wt} {t : Bool} (h4 : tmps.getD 4 undef = .pointer (some ⟨b4, 0, none⟩)) (h5 : tmps.getD 5 undef = .pointer (some ⟨b5, 0, none⟩)) (hB4 : Blk W b4 (wrV q).toArray 70) (hq : q.2.length = 64) (hB5 : Blk W b5 #[.bool t] 4) : (results Try.f26 tmps).run Try.prog W = .ok (.tuple #[.agg (wrV q).toArray, .bool t]) W := by
  have g4 : tmps[4]?.getD undef = .pointer (some ⟨b4, 0, none⟩) := by simpa using h4
  have g5 : tmps[5]?.getD undef = .pointer (some ⟨b5, 0, none⟩) := by simpa using h5
  have l4 := load_var hB4 row70 size70 (by simp [wrV_len, hq])
  have c5 := hB5.cell1
  have l5 : (loadVar 4 ⟨b5, 0, none⟩).run Try.prog W = .ok (.bool t) W := by go_simp
  clear h4 h5 c5
  unfold results
  rw [show Try.f26.results = #[.cell 4 70, .cell 5 4] by rfl]
  simp [Sem.run_bind, Sem.run_pure, Result.andThen_ok, asAddr, g4, g5, l4, l5]
set_option maxRecDepth 100000 in
set_option maxHeartbeats 4000000 in
theorem latest_any (bs bp : Nat) (x : Option Addr) (cap : Nat) (A : Stt) (c : Nat) (at_ : Int) (w : World) (h : Sto LP w bs bp (.slice x A.W.length cap) A) (hc : w.cell? ⟨c, 0, none⟩ = some (.int .i64 at_)) (hcl : c < w.heap.size) :
    Calls Try.prog 26 #[.pointer (some ⟨bs, 1, none⟩), .func (.func 27) #[] #[.pointer (some ⟨c, 0, none⟩)]] w fun e w' => e = .returned (.tuple #[.agg (wrV (lastQ A.W at_)).toArray, .bool (lastB A.W at_)]) ∧ Below w.heap.size w w' := by
  refine (callsIn_wide (n := 8)).1 ?_
  refine callsIn_of_wp_marks Try.func26 rfl trivial ?_ rfl
  simp only [Try.ntmps26, List.size_toArray, List.length_cons, List.length_nil, Nat.reduceAdd, Nat.reduceSub, Array.replicate_succ, Array.replicate_zero, List.push_toArray, List.append_toArray, List.nil_append, List.cons_append]
  have hbs := h.s.lt
  have c1 : w.cell? ⟨bs, 1, none⟩ = some (.slice x A.W.length cap) := h.s.at 1 _ rfl
  have HK := hide h
  have hz2 := h.good.n2
  obtain ⟨zi, hzl, hzi⟩ := items A.W 0 (fun q hq => (h.good.w q hq).2)
  have HZ := hide hzi
  clear h hzi
  gi_wp2_with (refine alloc_rgIn rfl 70 rfl al70 ?_)
  intro W B4 hb hk
  have hb1 := (below1 w (.cells #[.func (.func 27) #[] #[.pointer (some ⟨c, 0, none⟩)]] 74))
  have hs1 : (w.alloc (.cells #[.func (.func 27) #[] #[.pointer (some ⟨c, 0, none⟩)]] 74)).heap.size = w.heap.size + 1 := by simp
  have hb2 : Below (w.alloc (.cells #[.func (.func 27) #[] #[.pointer (some ⟨c, 0, none⟩)]] 74)).heap.size (w.alloc (.cells #[.func (.func 27) #[] #[.pointer (some ⟨c, 0, none⟩)]] 74)) W := by rw [hs1]; simpa using hb
  have B3 := (Blk.new w #[.func (.func 27) #[] #[.pointer (some ⟨c, 0, none⟩)]] 74).keep hb2
  have hB := below_via hb1 hb2
  have B4' : Blk W (w.heap.size + 1) (wrV (0, zs64)).toArray 70 := by simpa using B4
  have hlt := B4'.lt
  have cW := (hB.cell (p := ⟨bs, 1, none⟩) hbs).trans c1
  have cc := (hB.cell (p := ⟨c, 0, none⟩) hcl).trans hc
  clear hb hk hb1 hs1 hb2 B4
  have cW4 : (W.alloc (.cells #[.bool false] 4)).cell? ⟨bs, 1, none⟩ = some (.slice x A.W.length cap) := ((below1 W (.cells #[.bool false] 4)).cell (p := ⟨bs, 1, none⟩) (by show bs < _; omega)).trans cW
  have B3' := (B3.alloc (.cells #[.bool false] 4)).alloc (.cells #[.slice x A.W.length cap] 60)
  have B4'' := (B4'.alloc (.cells #[.bool false] 4)).alloc (.cells #[.slice x A.W.length cap] 60)
  have B5 := (Blk.new W #[.bool false] 4).alloc (.cells #[.slice x A.W.length cap] 60)
  have B6 := Blk.new (W.alloc (.cells #[.bool false] 4)) #[.slice x A.W.length cap] 60
  simp only [World.size_alloc] at B6
  have hB0 : Below w.heap.size w ((W.alloc (.cells #[.bool false] 4)).alloc (.cells #[.slice x A.W.length cap] 60)) := (hB.alloc hB.size _).alloc (by have := hB.size; simp; omega) _
  have hsz : ((W.alloc (.cells #[.bool false] 4)).alloc (.cells #[.slice x A.W.length cap] 60)).heap.size = W.heap.size + 2 := by simp
  clear cW c1
  replace B3' := hide B3'
  replace B4'' := hide B4''
  replace B5 := hide B5
  replace B6 := hide B6
  replace hB0 := hide hB0
  replace hsz := hide hsz
  clear B3 B4'
  gi_wp2
  refine ⟨trivial, (bw_in Fence.wide 7 trivial rfl _ _ _ _).mono ?_⟩
  rintro e w' ⟨rfl, rfl⟩
  gi_wp2
  generalize (W.alloc (.cells #[.bool false] 4)).alloc (.cells #[.slice x A.W.length cap] 60) = W0 at *
  replace B3' := unhide B3'
  replace B4'' := unhide B4''
  replace B5 := unhide B5
  replace B6 := unhide B6
  replace hB0 := unhide hB0
  replace hsz := unhide hsz
  have hseq : SeqStopsK Fence.wide 7 Try.prog 35 #[.pointer (some ⟨W.heap.size + 1, 0, none⟩)] (fun x : It => #[Value.int .i64 (x.1.1 : Int), Value.agg (wrV x.1.2).toArray]) (Below W0.heap.size) (fun ys => ys = back zi 0) (fun pre => ∃ k, pre = back zi k) zi.length W0 := by
    have hb6 := B6.lt
    by_cases h0 : A.W.length = 0
    · obtain rfl : zi = [] := List.eq_nil_of_length_eq_zero (by omega)
      have c6 := B6.cell1
      rw [h0] at c6
      exact back0_stops Fence.wide 7 trivial rfl _ _ cap x W0 hb6 c6
    · obtain ⟨g, cap', e1, _⟩ := own_slice (unhide HK).q (by omega)
      injection e1 with e1 _ e2
      subst e1 e2
      have hg := ((unhide HK).q.lt g rfl).2
      have hg2 : g < W0.heap.size := by have := hB0.size; omega
      refine back_stops Fence.wide 7 trivial rfl (by decide) _ _ g cap zi (by omega) W0 hb6 hb6 hg2 (Nat.le_refl _) ?_ ?_ ?_
      · rw [hzl]; exact B6.cell1
      · intro j q hq
        have hj := (unhide HZ j q hq).2
        have hr := own_item (unhide HK).q (fun q hq => ((unhide HK).good.w q hq).2) hj
        exact fun i v hv => (hB0.cell (p := ⟨g, j * 65 + i, none⟩) hg).trans (hr i v hv)
      · intro j q hq
        have := (unhide HZ j q hq).1
        omega
  have hw : w.heap.size < W.heap.size := by omega
  obtain ⟨b3, e3⟩ : ∃ b3, w.heap.size = b3 := ⟨_, rfl⟩
  obtain ⟨b4, e4⟩ : ∃ b4, w.heap.size + 1 = b4 := ⟨_, rfl⟩
  obtain ⟨b5, e5⟩ : ∃ b5, W.heap.size = b5 := ⟨_, rfl⟩
  obtain ⟨b6, e6⟩ : ∃ b6, W.heap.size + 1 = b6 := ⟨_, rfl⟩
  have n34 : b3 < b4 := by omega
  have n45 : b4 < b5 := by omega
  have n56 : b5 < b6 := by omega
  have n60 : W0.heap.size = b6 + 1 := by omega
  have n3 : w.heap.size = b3 := e3
  rw [e4, e6, e5, e3]
  rw [e4] at B4''
  rw [e6] at B6
  rw [e6] at hseq
  rw [e5] at B5
  rw [e3] at B3'
  clear e3 e4 e5 e6 hsz
  have c3W := B3'.cell1
  have cW0 := (hB0.cell (p := ⟨c, 0, none⟩) hcl).trans hc
  clear cc cW4 hc
  refine wpIn_rangeFunc_ownH rfl (by decide) (gf := 35) (lb := #[.pointer (some ⟨b6, 0, none⟩)]) rfl trivial (enters_of Try.func35 (by kernel_rfl) rfl)
    hseq belowK_t (belowK_b (Nat.le_refl _)) (Below.refl _ _) (fun _ => rfl)
    (fun pre V => (∀ y ∈ pre, (y.1.2.1 : Int) ≠ at_) ∧ Below W0.heap.size W0 V)
    (fun cd pre V => (cd = .ret ∧ ∃ y p, pre = p ++ [y] ∧ (∀ z ∈ p, (z.1.2.1 : Int) ≠ at_) ∧ (y.1.2.1 : Int) = at_ ∧ Blk V b4 (wrV y.1.2).toArray 70 ∧ Blk V b5 #[.bool true] 4) ∧ Below w.heap.size w V)
    (OwnFrom.and (ownFrom_pure _ _) (ownFrom_below (Nat.le_refl _) (Nat.le_refl _)))
    (fun cd => OwnFrom.and (fun s X Y row hs hg hr => by
      obtain ⟨h1, y, p, h2, h3, h4, h5, h6⟩ := hs
      exact ⟨h1, y, p, h2, h3, h4, blk_own (β := Unit) b4 _ _ () X Y row h5 hg (fun r e => (hr r e).2), blk_own (β := Unit) b5 _ _ () X Y row h6 hg (fun r e => (hr r e).2)⟩) (ownFrom_below (Nat.le_refl _) (by omega)))
    ⟨(fun y hy => by cases hy), Below.refl _ _⟩
    (fun y a' V => ∃ Bx, b6 < Bx ∧ Blk V Bx (wrV y.1.2).toArray 70 ∧ a' = { tmps := #[.pointer (some ⟨bs, 1, none⟩), .func (.func 27) #[] #[.pointer (some ⟨c, 0, none⟩)], undef, .pointer (some ⟨b3, 0, none⟩), .pointer (some ⟨b4, 0, none⟩), .pointer (some ⟨b5, 0, none⟩), undef, .pointer (some ⟨Bx, 0, none⟩), undef, .pointer (some ⟨bs, 1, none⟩), .pointer (some ⟨bs, 1, none⟩), .pointer (some ⟨bs, 1, none⟩), .slice x A.W.length cap, .func (.func 35) #[] #[.pointer (some ⟨b6, 0, none⟩)], .int .i64 (y.1.1 : Int), .agg (wrV y.1.2).toArray, undef, undef, undef, undef, undef], defers := [] })
    (fun y a' _ X Y row hs hg hr => by obtain ⟨Bx, h1, h2, h3⟩ := hs; exact ⟨Bx, h1, blk_own (β := Unit) Bx _ _ () X Y row h2 hg (fun r e => (hr r e).2), h3⟩)
    ?assign ?body ?done ?stop
  case assign =>
    rintro l pre y V K ⟨hp, hV⟩ hK
    have hVs : b6 < V.heap.size := by have := hV.size; omega
    have hwl := hide (show (wrV y.1.2).length = 65 by rw [wrV_len, y.2])
    replace hV := hide hV
    replace hp := hide hp
    replace hK := hide hK
    gi_wp2_with (refine alloc_rgIn rfl 70 rfl al70 ?_)
    intro V1 HX hb hk
    replace HX := hide HX
    replace hb := hide hb
    replace hk := hide hk
    gi_wp2_with (refine store_allIn rfl 70 _ _ rfl (unhide HX) rfl rfl size70 (by rw [List.size_toArray, wrV_len, zs_len]) (unhide hwl) (one_wrV _) ?_)
    intro V2 HX2 hb2 hk2
    have hbb : Below W0.heap.size V V2 := ((unhide hb).mono (unhide hV).size).trans (hb2.below (fun k e => by have := (unhide hV).size; omega) (by have := (unhide hV).size; have := (unhide hb).size; omega))
    replace hK := unhide hK
    gi_wp2
    exact hK _ _ (((unhide hk).trans hk2).from _) hbb ⟨unhide hp, (unhide hV).trans hbb⟩ ⟨V.heap.size, hVs, HX2, rfl⟩
  case body =>
    rintro l pre y a' V hl ⟨r, hr⟩ ⟨hp, hV⟩ ⟨Bx, hBx, bX, rfl⟩ hlt
    have hwl := hide (show (wrV y.1.2).length = 65 by rw [wrV_len, y.2])
    have c3 := (hV.cell (p := ⟨b3, 0, none⟩) (by show b3 < _; omega)).trans c3W
    have B4V : Blk V b4 (wrV (0, zs64)).toArray 70 := (hV.block b4 (by omega)).trans B4''
    have B5V : Blk V b5 #[.bool false] 4 := (hV.block b5 (by omega)).trans B5
    have ccV := (hV.cell (p := ⟨c, 0, none⟩) (by show c < _; omega)).trans cW0
    have hcV : c < V.heap.size := by have := hV.size; omega
    replace B4V := hide B4V
    replace B5V := hide B5V
    replace ccV := hide ccV
    replace bX := hide bX
    replace hV := hide hV
    replace hp := hide hp
    replace hr := hide hr
    clear B3' B4'' B5 B6 hseq c3W cW0
    by_cases hy : (y.1.2.1 : Int) = at_
    · have d1 : decide ((y.1.2.1 : Int) = at_) = true := decide_eq_true hy
      replace hy := hide hy
      gi_wp2_with (refine load_rgIn rfl 70 _ rfl (unhide bX).rg rfl row70 size70 (unhide hwl) ?_)
      refine ⟨trivial, (CallsIn.inRound l (callsIn_wide.2 (rd1_any c at_ y.1.2 y.2 _ (unhide ccV) hcV))).mono ?_⟩
      rintro e V3 ⟨rfl, e3⟩
      have bX3 := hide (show Blk V3 _ _ _ by rw [e3]; exact (unhide bX).alloc _)
      have B43 := hide (show Blk V3 _ _ _ by rw [e3]; exact (unhide B4V).alloc _)
      have B53 := hide (show Blk V3 _ _ _ by rw [e3]; exact (unhide B5V).alloc _)
      have K3 := hide (show KeepsOthers V V3 by rw [e3]; exact KeepsOthers.alloc _ _)
      have H3 := hide (show Below W0.heap.size W0 V3 by rw [e3]; exact (unhide hV).trans ((below1 V _).mono (unhide hV).size))
      clear e3 c3
      rw [d1]
      gi_wp2_with (first | refine load_rgIn rfl 70 _ rfl (unhide bX3).rg rfl row70 size70 (unhide hwl) ?_ | refine store_allIn rfl 70 _ _ rfl (unhide B43) rfl rfl size70 (by rw [List.size_toArray, wrV_len, zs_len]) (unhide hwl) (one_wrV _) ?_)
      intro V4 B44 hb4 hk4
      have B54 := hide (hb4.blk (unhide B53) (by omega))
      replace B44 := hide B44
      have H4 := hide (show Below w.heap.size w V4 from (hB0.trans ((unhide H3).mono hB0.size)).trans (hb4.below (fun k e => by omega) (by have := hB0.size; have := (unhide H3).size; omega)))
      replace hk4 := hide hk4
      clear hb4
      gi_wp2_with (refine store_cellIn (k := 0) (v := .bool true) rfl 4 _ _ rfl (unhide B54) rfl rfl (Nat.lt_of_lt_of_eq (by decide : 0 < 1) rfl) size4 rfl rfl ?_)
      intro V5 B55 hb5 hk5
      have B45 := hb5.blk (unhide B44) (by omega)
      gi_wp2
      exact ⟨(((unhide K3).trans (unhide hk4)).trans hk5).from _, ⟨rfl, y, pre, rfl, unhide hp, unhide hy, B45, B55⟩, (unhide H4).trans (hb5.below (fun k e => by omega) (unhide H4).size)⟩
    · have d1 : decide ((y.1.2.1 : Int) = at_) = false := decide_eq_false hy
      replace hy := hide hy
      gi_wp2_with (refine load_rgIn rfl 70 _ rfl (unhide bX).rg rfl row70 size70 (unhide hwl) ?_)
      refine ⟨trivial, (CallsIn.inRound l (callsIn_wide.2 (rd1_any c at_ y.1.2 y.2 _ (unhide ccV) hcV))).mono ?_⟩
      rintro e V3 ⟨rfl, e3⟩
      have K3 := hide (show KeepsOthers V V3 by rw [e3]; exact KeepsOthers.alloc _ _)
      have H3 := hide (show Below W0.heap.size V V3 by rw [e3]; exact ((below1 V _).mono (unhide hV).size))
      clear e3 c3
      rw [d1]
      gi_wp2
      exact ⟨(unhide K3).from _, unhide H3, fun z hz => by
        rcases List.mem_append.1 hz with hz | hz
        · exact unhide hp z hz
        · rw [List.mem_singleton.1 hz]; exact unhide hy, (unhide hV).trans (unhide H3)⟩
  case done =>
    rintro D ys V hD rfl ⟨hp, hV⟩ hK
    have B4V : Blk V b4 (wrV (0, zs64)).toArray 70 := (hV.block b4 (by omega)).trans B4''
    have B5V : Blk V b5 #[.bool false] 4 := (hV.block b5 (by omega)).trans B5
    have H0 := hide (hB0.trans (hV.mono hB0.size))
    have hVs := hV.size
    have e1 : lastF A.W at_ = none := lastF_none (fun q hq => by
      obtain ⟨j, hj, e⟩ := List.getElem_of_mem hq
      have hj2 : zi[j]? = some (zi[j]'(by omega)) := List.getElem?_eq_getElem (by omega)
      have h2 := (unhide HZ j _ hj2).2
      rw [List.getElem?_eq_getElem hj, e] at h2
      injection h2 with h2
      rw [h2]
      exact hp _ (by simp [back]))
    have E1 := hide (show lastQ A.W at_ = (0, zs64) by rw [lastQ, e1]; rfl)
    have E2 := hide (show lastB A.W at_ = false by rw [lastB, e1]; rfl)
    clear e1 hp hV B3' B4'' B5 B6 hseq c3W cW0
    replace B4V := hide B4V
    replace B5V := hide B5V
    replace hK := hide hK
    have zl := hide (show (wrV (0, zs64)).length = 65 by rw [wrV_len, zs_len])
    gi_wp2_with (refine alloc_rgIn rfl 70 rfl al70 ?_)
    intro V1 HX hb hk
    replace HX := hide HX
    replace B4V := hide ((unhide B4V).keep hb)
    replace B5V := hide ((unhide B5V).keep hb)
    replace H0 := hide ((unhide H0).trans (hb.mono (unhide H0).size))
    replace hK := hide (hk.same D _ (unhide hK) rfl)
    clear hb hk
    gi_wp2_with (first | refine load_rgIn rfl 70 _ rfl (unhide HX).rg rfl row70 size70 (unhide zl) ?_ | refine store_allIn rfl 70 _ _ rfl (unhide B4V) rfl rfl size70 (by rw [List.size_toArray]; exact unhide zl) (unhide zl) (one_wrV _) ?_)
    intro V2 B42 hb2 hk2
    replace B4V := hide B42
    replace B5V := hide (hb2.blk (unhide B5V) (by omega))
    replace H0 := hide ((unhide H0).trans (hb2.below (fun k e => by omega) (unhide H0).size))
    replace hK := hide (hk2.same D _ (unhide hK) rfl)
    clear B42 hb2 hk2
    gi_wp2_with (refine store_cellIn (k := 0) (v := .bool false) rfl 4 _ _ rfl (unhide B5V) rfl rfl (Nat.lt_of_lt_of_eq (by decide : 0 < 1) rfl) size4 rfl rfl ?_)
    intro V3 B53 hb3 hk3
    have B43 := hb3.blk (unhide B4V) (by omega)
    replace H0 := (unhide H0).trans (hb3.below (fun k e => by omega) (unhide H0).size)
    have hK3 := hk3.same D _ (unhide hK) rfl
    gi_wp2
    refine ⟨by simp, .inl ⟨_, _, rfl, run_takeDeferred hK3, ?_⟩⟩
    refine ⟨_, res_26 rfl rfl (blk_own (β := Unit) b4 _ _ () V3 _ (some D) B43 (grownBy_putObj' V3 D _) (fun r e => by cases e; exact ⟨_, hK3, rfl⟩)) zs_len (blk_own (β := Unit) b5 _ _ () V3 _ (some D) B53 (grownBy_putObj' V3 D _) (fun r e => by cases e; exact ⟨_, hK3, rfl⟩)), ?_, H0.trans (belowK_b (w := w) (Nat.le_refl _) V3 D _ _ (by omega) hK3 rfl rfl)⟩
    rw [unhide E1, unhide E2]
  case stop =>
    rintro D cd pre V hD ⟨k, rfl⟩ ⟨⟨rfl, y, p, h2, h3, h4, h5, h6⟩, hB⟩ hK
    have hk : k < zi.length := by
      by_cases hk : k < zi.length
      · exact hk
      · have : (back zi k).length = 0 := by rw [back_len]; omega
        rw [h2] at this
        simp at this
    have hkz : zi[k]? = some zi[k] := List.getElem?_eq_getElem hk
    have hbn := back_next zi hkz
    rw [hbn] at h2
    obtain ⟨hp2, hy2⟩ := List.append_inj' h2 rfl
    injection hy2 with hy2
    subst hp2
    have hAk := (unhide HZ k _ hkz).2
    rw [hy2] at hAk
    have e1 : lastF A.W at_ = some y.1.2 := lastF_some hAk h4 (fun j z hj hz => by
      have hjl : j < zi.length := by have := (List.getElem?_eq_some_iff.1 hz).1; omega
      have hj2 : zi[j]? = some zi[j] := List.getElem?_eq_getElem hjl
      have h7 := (unhide HZ j _ hj2).2
      rw [hz] at h7
      injection h7 with h7
      rw [h7]
      refine h3 _ ?_
      unfold back
      rw [List.mem_reverse, List.mem_drop_iff_getElem]
      exact ⟨j - (k + 1), by omega, by congr 1; omega⟩)
    have E1 := hide (show lastQ A.W at_ = y.1.2 by rw [lastQ, e1]; rfl)
    have E2 := hide (show lastB A.W at_ = true by rw [lastB, e1]; rfl)
    clear e1 hAk h2 h3 h4 B3' B4'' B5 B6 hseq c3W cW0
    gi_wp2
    refine ⟨by simp, .inl ⟨_, _, rfl, run_takeDeferred hK, ?_⟩⟩
    refine ⟨_, res_26 rfl rfl (blk_own (β := Unit) b4 _ _ () V _ (some D) h5 (grownBy_putObj' V D _) (fun r e => by cases e; exact ⟨_, hK, rfl⟩)) y.2 (blk_own (β := Unit) b5 _ _ () V _ (some D) h6 (grownBy_putObj' V D _) (fun r e => by cases e; exact ⟨_, hK, rfl⟩)), ?_, by rw [← n3]; exact hB.trans (belowK_b (w := w) (Nat.le_refl _) V D _ _ (by omega) hK rfl rfl)⟩
    rw [unhide E1, unhide E2]
end Go.Proofs.Ytdbefnghljjieaa
