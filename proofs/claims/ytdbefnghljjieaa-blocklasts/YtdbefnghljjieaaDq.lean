/- Steps; great, do. -/
import Derived.Test.YtdbefnghljjieaaDn
namespace Go.Proofs.Ytdbefnghljjieaa
open Go.RowKit
set_option linter.unusedVariables false
set_option linter.unusedSimpArgs false
/-- A step, with the slices that it holds. -/
structure Opx where
  k : Int
  at_ : Int
  xb : Option Addr
  nb : Nat
  cb : Nat
  xf : Option Addr
  nf : Nat
  cf : Nat
  B : List Nat
  F : List Nat
def opL (o : Opx) : List Value := [.int .i64 o.k, .int .i64 o.at_, .slice o.xb o.nb o.cb, .slice o.xf o.nf o.cf]
theorem one_opL (o : Opx) : One (opL o) := one_cons rfl (one_cons rfl (one_cons rfl (one_cons rfl (fun _ h => by cases h))))
structure OpOk (w : World) (o : Opx) : Prop where
  b : RowG 1 w (.slice o.xb o.nb o.cb) (bysN o.B)
  f : RowG 1 w (.slice o.xf o.nf o.cf) (bysN o.F)
  f8 : ∀ x ∈ o.F, x < 256
theorem OpOk.keep {w w' : World} {o : Opx} (h : OpOk w o) (hb : Below w.heap.size w w') : OpOk w' o := ⟨h.b.keep hb, h.f.keep hb, h.f8⟩
theorem OpOk.nb {w : World} {o : Opx} (h : OpOk w o) : o.nb = o.B.length := by rw [rowG_len h.b, List.length_map]
theorem OpOk.nf {w : World} {o : Opx} (h : OpOk w o) : o.nf = o.F.length := by rw [rowG_len h.f, List.length_map]
theorem fit_op (l : List Opx) : Fit 4 (l.map opL) := fun f hf => by
  obtain ⟨o, _, rfl⟩ := List.mem_map.1 hf
  exact ⟨rfl, one_opL o⟩
/-- A row's element, many cells at once. -/
theorem row_range {m : Nat} {w : World} {x : Option Addr} {n cap : Nat} {L : List (List Value)} (h : RowG m w (.slice x n cap) L) {j : Nat} {f : List Value} (hj : L[j]? = some f) : ∃ b off, x = some ⟨b, off, none⟩ ∧ w.rangeAt b (off + j * m) f := by
  have hlt : j < L.length := (List.getElem?_eq_some_iff.1 hj).1
  obtain ⟨b, off, c, e, _⟩ := h.open (by omega)
  injection e with e1 e2 e3
  subst e1 e3
  refine ⟨b, off, rfl, fun t v hv => ?_⟩
  have hf : f.length = m := (h.fit f (List.mem_of_getElem? hj)).1
  have ht : t < f.length := (List.getElem?_eq_some_iff.1 hv).1
  have hc := h.cells hlt (t := t) (by omega)
  rw [hc]
  have e1 : L.getD j [] = f := by rw [List.getD, hj]; rfl
  unfold getG
  rw [e1, List.getD, hv]
  rfl
theorem rowG_max {m : Nat} {w : World} {v : Value} {L : List (List Value)} (h : RowG m w v L) : L.length ≤ 9223372036854775807 := by
  by_cases h0 : 0 < L.length
  · obtain ⟨b, off, cap, _, h1, h2⟩ := h.open h0
    unfold maxLen at h2
    omega
  · omega
def z34 : List Value := [.int .i64 0, .int .i64 0, .slice none 0 0, .slice none 0 0]
theorem al34 (w : World) : (Instr.alloc 34 true (.tuple #[])).run Try.prog w = .ok (.pointer (some ⟨w.heap.size, 0, none⟩)) (w.alloc (.cells z34.toArray 34)) := by kernel_rfl
/-- Steps that come in. -/
structure Ops (w : World) (v : Value) (l : List Opx) : Prop where
  row : RowG 4 w v (l.map opL)
  ok : ∀ o ∈ l, OpOk w o
theorem Ops.keep {w w' : World} {v : Value} {l : List Opx} (h : Ops w v l) (hb : Below w.heap.size w w') : Ops w' v l := ⟨h.row.keep hb, fun o ho => (h.ok o ho).keep hb⟩
def Small (l : List Opx) : Prop := l.length ≤ 200 ∧ ∀ o ∈ l, o.F.length ≤ 1000
set_option maxHeartbeats 1000000 in
theorem great_any (v : Value) (l : List Opx) (w : World) (h : Ops w v l) : Calls Try.prog 9 #[v] w fun e w' => ∃ t, e = .returned (.bool t) ∧ (t = false → Small l) ∧ Below w.heap.size w w' := by
  obtain ⟨x, cap, rfl⟩ := rowG_slice h.row
  rw [List.length_map] at *
  have hmx := rowG_max h.row
  rw [List.length_map] at hmx
  have HC : Hid (∀ k o, l[k]? = some o → ∀ W, Below w.heap.size w W → ∃ b off, x = some ⟨b, off, none⟩ ∧ W.rangeAt b (off + k * 4) (opL o)) := hide (fun k o hk W hb => row_range (h.row.keep hb) (by rw [List.getElem?_map, hk]; rfl))
  have HI := hide (fun (k : Nat) (hk : k < l.length) => (⟨l[k], by simp [hk]⟩ : ∃ o, l[k]? = some o))
  have HN := hide (fun o ho => And.intro (h.ok o ho).nb (h.ok o ho).nf)
  clear h
  generalize hlen : l.length = len at *
  have HL := hide hlen
  clear hlen
  go_enter Try.func9, Try.ntmps9
  go_wp2_with fail
  go_loopw [7] (fun i wr => ∃ k : Nat, k ≤ len ∧ i = .int .i64 (k : Int) ∧ Hid (Below w.heap.size w wr) ∧ Hid (∀ j o, j < k → l[j]? = some o → o.F.length ≤ 1000)) (fun i _ => len - (intOf i).toNat)
  case atStart => exact ⟨0, by omega, rfl, hide (Below.refl _ _), hide (fun j o hj => by omega)⟩
  case round =>
    obtain ⟨k, hk, rfl, HB, HG⟩ := hrel
    by_cases hlt : k < len
    · obtain ⟨o, ho⟩ := unhide HI k hlt
      obtain ⟨b, off, rfl, hr⟩ := unhide HC k o ho wr (unhide HB)
      have HR := hide hr
      obtain ⟨n1, n2⟩ := unhide HN o (List.mem_of_getElem? ho)
      have HO := hide ho
      have k1 : (k : Int) < (len : Int) := by omega
      have hwr : IntKind.i64.wrap ((k : Int) + 1) = ((k + 1 : Nat) : Int) := by rw [IntKind.wrap_i64]; omega
      replace n1 := hide n1
      replace n2 := hide n2
      have h4 : (opL o).length = 4 := rfl
      replace h4 := hide h4
      clear hr ho HC HI HN
      go_wp2_with (first | refine load_rg (l := opL o) rfl 34 _ rfl (unhide HR) rfl row34 size34 (unhide h4) ?_ | refine alloc_rg rfl 34 rfl al34 ?_)
      intro W HX hb
      have hbs := hide (unhide HB).size
      replace HB := hide (below_via (unhide HB) hb)
      replace HX := hide HX
      clear hb
      generalize wr.heap.size = bx at *
      go_wp2_with (refine store_all (l := opL o) rfl 34 _ _ rfl (unhide HX) rfl rfl size34 rfl rfl (one_opL o) ?_)
      intro W2 HX2 hb2
      replace HB := hide ((unhide HB).trans (hb2.below (fun k e => by rw [e]; exact unhide hbs) (unhide HB).size))
      have c2 : W2.cell? ⟨bx, 2, none⟩ = some (.slice o.xb o.nb o.cb) := HX2.rg 2 _ rfl
      have c3 : W2.cell? ⟨bx, 3, none⟩ = some (.slice o.xf o.nf o.cf) := HX2.rg 3 _ rfl
      clear HX2 hb2 HX HR
      by_cases hF : 1000 < o.nf
      · have d1 : decide ((1000 : Int) < (o.nf : Int)) = true := decide_eq_true (by omega)
        go_wp2_with fail
        go_ret
        exact ⟨true, rfl, fun c => (by cases c), unhide HB⟩
      · have d1 : decide ((1000 : Int) < (o.nf : Int)) = false := decide_eq_false (by omega)
        have HF := hide hF
        clear hF
        by_cases hBn : 1000 < o.nb
        · have d2 : decide ((1000 : Int) < (o.nb : Int)) = true := decide_eq_true (by omega)
          go_wp2_with fail
          go_ret
          exact ⟨true, rfl, fun c => (by cases c), unhide HB⟩
        · have d2 : decide ((1000 : Int) < (o.nb : Int)) = false := decide_eq_false (by omega)
          clear hBn
          go_wp2_with fail
          go_roundw
          case rel => exact ⟨k + 1, by omega, by go_num, HB, hide (fun j y hj hy => by
            by_cases e : j < k
            · exact unhide HG j y e hy
            · obtain rfl : j = k := by omega
              rw [unhide HO] at hy
              injection hy with hy
              subst hy
              have := unhide HF
              have := unhide n2
              omega)⟩
          case measure => simp [intOf]; omega
    · obtain rfl : k = len := by omega
      by_cases h2 : 200 < k
      · have d1 : decide ((200 : Int) < (k : Int)) = true := decide_eq_true (by omega)
        go_wp2_with fail
        go_ret
        exact ⟨true, by first | rfl | rw [d1], fun c => (by cases c), unhide HB⟩
      · have d1 : decide ((200 : Int) < (k : Int)) = false := decide_eq_false (by omega)
        have H2 := hide h2
        clear h2
        go_wp2_with fail
        go_ret
        exact ⟨false, by first | rfl | rw [d1], fun _ => ⟨by rw [unhide HL]; have := unhide H2; omega, fun o ho => by
          obtain ⟨j, hj, e⟩ := List.getElem_of_mem ho
          exact unhide HG j o (by rw [unhide HL] at hj; exact hj) (by simp [hj, e])⟩, unhide HB⟩
def doE (A : Stt) (o : Opx) : Int := if o.k = 1 then wrE A o.at_ else 0
def doS (A : Stt) (o : Opx) : Stt := if o.k = 1 then wrS A o.at_ (ofB o.B) else if o.k = 2 then crashS (fun _ => 1) A else if o.k = 3 then crashS (fateN o.F) A else A
set_option maxHeartbeats 1000000 in
set_option maxRecDepth 10000 in
theorem do_2 (p : Value) (A : Stt) (F : Nat → Prop) (o : Opx) (w : World) (h : Has LP w p A F) (ho : OpOk w o) (hF : ∀ k, F k → ∀ y, (o.xf = some y → 0 < o.nf → y.block ≠ k)) (hk : o.k = 2) : Calls Try.prog 12 #[p, .agg (opL o).toArray] w fun e w' => e = .returned (.int .i64 (doE A o)) ∧ StepP LP w w' p (doS A o) F := by
  rw [show doE A o = 0 by simp [doE, hk], show doS A o = crashS (fun _ => 1) A by simp [doS, hk]]
  have HK := hide h
  have HO := hide ho
  have Hlt := hide h.lt
  have HF := hide hF
  clear h ho hF
  go_enter Try.func12, Try.ntmps12
  go_wp2_with (refine box_rg rfl 34 _ rfl (l := opL o) rfl ?_)
  intro W HX hb
  replace HK := hide ((unhide HK).below hb)
  replace HO := hide ((unhide HO).keep hb)
  have HN := hide (but_of hb F)
  have c0 : W.cell? ⟨w.heap.size, 0, none⟩ = some (.int .i64 o.k) := HX.rg 0 _ rfl
  have c3 : W.cell? ⟨w.heap.size, 3, none⟩ = some (.slice o.xf o.nf o.cf) := HX.rg 3 _ rfl
  replace HX := hide HX
  have hwz := hb.size
  have hlx := (show Blk _ _ _ _ from unhide HX).lt
  clear hb
  generalize hbx : w.heap.size = bx at *
  rw [hk] at c0
  clear hk
  go_wp2_with fail
  refine (syn_any p A F _ (unhide HK)).mono ?_
  rintro e w2 ⟨rfl, F', h2, hn2, hf2⟩
  replace HN := hide ((unhide HN).trans hn2 (fun x hx => Or.inl hx))
  have HP := hide h2
  have HQ := hide hf2
  clear h2 hn2 hf2 c0 c3
  go_wp2_with fail
  go_ret
  exact ⟨rfl, F', unhide HP, unhide HN, fun k hk => (unhide HQ k hk).elim Or.inl (fun e => Or.inr (by omega))⟩
set_option maxHeartbeats 1000000 in
set_option maxRecDepth 10000 in
theorem do_3 (p : Value) (A : Stt) (F : Nat → Prop) (o : Opx) (w : World) (h : Has LP w p A F) (ho : OpOk w o) (hF : ∀ k, F k → ∀ y, (o.xf = some y → 0 < o.nf → y.block ≠ k)) (hk : o.k = 3) : Calls Try.prog 12 #[p, .agg (opL o).toArray] w fun e w' => e = .returned (.int .i64 (doE A o)) ∧ StepP LP w w' p (doS A o) F := by
  rw [show doE A o = 0 by simp [doE, hk], show doS A o = crashS (fateN o.F) A by simp [doS, hk]]
  have HK := hide h
  have HO := hide ho
  have Hlt := hide h.lt
  have HF := hide hF
  clear h ho hF
  go_enter Try.func12, Try.ntmps12
  go_wp2_with (refine box_rg rfl 34 _ rfl (l := opL o) rfl ?_)
  intro W HX hb
  replace HK := hide ((unhide HK).below hb)
  replace HO := hide ((unhide HO).keep hb)
  have HN := hide (but_of hb F)
  have c0 : W.cell? ⟨w.heap.size, 0, none⟩ = some (.int .i64 o.k) := HX.rg 0 _ rfl
  have c3 : W.cell? ⟨w.heap.size, 3, none⟩ = some (.slice o.xf o.nf o.cf) := HX.rg 3 _ rfl
  replace HX := hide HX
  have hwz := hb.size
  have hlx := (show Blk _ _ _ _ from unhide HX).lt
  clear hb
  generalize hbx : w.heap.size = bx at *
  rw [hk] at c0
  clear hk
  go_wp2_with fail
  refine (cra_any p A F o.xf o.nf o.cf o.F _ (unhide HK) (unhide HO).f (unhide HO).f8 (fun y e h0 hy => unhide HF y.block hy y e h0 rfl)).mono ?_
  rintro e w2 ⟨rfl, F', h2, hn2, hf2⟩
  replace HN := hide ((unhide HN).trans hn2 (fun x hx => Or.inl hx))
  have HP := hide h2
  have HQ := hide hf2
  clear h2 hn2 hf2 c0 c3
  go_wp2_with fail
  go_ret
  exact ⟨rfl, F', unhide HP, unhide HN, fun k hk => (unhide HQ k hk).elim Or.inl (fun e => Or.inr (by omega))⟩
set_option maxHeartbeats 1000000 in
set_option maxRecDepth 10000 in
theorem do_0 (p : Value) (A : Stt) (F : Nat → Prop) (o : Opx) (w : World) (h : Has LP w p A F) (ho : OpOk w o) (hF : ∀ k, F k → ∀ y, (o.xf = some y → 0 < o.nf → y.block ≠ k)) (h1 : o.k ≠ 1) (h2 : o.k ≠ 2) (h3 : o.k ≠ 3) : Calls Try.prog 12 #[p, .agg (opL o).toArray] w fun e w' => e = .returned (.int .i64 (doE A o)) ∧ StepP LP w w' p (doS A o) F := by
  rw [show doE A o = 0 by simp [doE, h1], show doS A o = A by simp [doS, h1, h2, h3]]
  have HK := hide h
  have HO := hide ho
  have Hlt := hide h.lt
  have HF := hide hF
  clear h ho hF
  go_enter Try.func12, Try.ntmps12
  go_wp2_with (refine box_rg rfl 34 _ rfl (l := opL o) rfl ?_)
  intro W HX hb
  replace HK := hide ((unhide HK).below hb)
  replace HO := hide ((unhide HO).keep hb)
  have HN := hide (but_of hb F)
  have c0 : W.cell? ⟨w.heap.size, 0, none⟩ = some (.int .i64 o.k) := HX.rg 0 _ rfl
  have c3 : W.cell? ⟨w.heap.size, 3, none⟩ = some (.slice o.xf o.nf o.cf) := HX.rg 3 _ rfl
  replace HX := hide HX
  have hwz := hb.size
  have hlx := (show Blk _ _ _ _ from unhide HX).lt
  clear hb
  generalize hbx : w.heap.size = bx at *
  have e1 : ¬ o.k = 1 := h1
  have e2 : ¬ o.k = 2 := h2
  have e3 : ¬ o.k = 3 := h3
  clear h1 h2 h3
  go_wp2_with fail
  go_ret
  exact ⟨rfl, F, unhide HK, unhide HN, fun k hk => Or.inl hk⟩
set_option maxHeartbeats 1000000 in
set_option maxRecDepth 10000 in
theorem do_1 (p : Value) (A : Stt) (F : Nat → Prop) (o : Opx) (w : World) (h : Has LP w p A F) (ho : OpOk w o) (hF : ∀ k, F k → ∀ y, (o.xf = some y → 0 < o.nf → y.block ≠ k)) (hk : o.k = 1) : Calls Try.prog 12 #[p, .agg (opL o).toArray] w fun e w' => e = .returned (.int .i64 (doE A o)) ∧ StepP LP w w' p (doS A o) F := by
  rw [show doE A o = wrE A o.at_ by simp [doE, hk], show doS A o = wrS A o.at_ (ofB o.B) by simp [doS, hk]]
  have HK := hide h
  have HO := hide ho
  have Hlt := hide h.lt
  have HF := hide hF
  clear h ho hF
  go_enter Try.func12, Try.ntmps12
  go_wp2_with (refine box_rg rfl 34 _ rfl (l := opL o) rfl ?_)
  intro W HX hb
  replace HK := hide ((unhide HK).below hb)
  replace HO := hide ((unhide HO).keep hb)
  have HN := hide (but_of hb F)
  have c0 : W.cell? ⟨w.heap.size, 0, none⟩ = some (.int .i64 o.k) := HX.rg 0 _ rfl
  have c3 : W.cell? ⟨w.heap.size, 3, none⟩ = some (.slice o.xf o.nf o.cf) := HX.rg 3 _ rfl
  replace HX := hide HX
  have hwz := hb.size
  have hlx := (show Blk _ _ _ _ from unhide HX).lt
  clear hb
  generalize hbx : w.heap.size = bx at *
  rw [hk] at c0
  clear hk c3
  go_wp2_with fail
  clear c0
  refine wp_region_noPanic ?_
  refine wp_region_held_drew (S := fun V => Blk V bx (opL o).toArray 34) (by kernel_rfl) (unhide HX) (fun hS => ?_)
  replace HN := hide (but_drew (unhide HN))
  replace HK := hide ((unhide HK).below (Below.refl _ _).drew)
  replace HO := hide ((unhide HO).keep (Below.refl _ _).drew)
  replace hlx : bx < W.drew.heap.size := hlx
  generalize W.drew = W0 at *
  refine anyH_at (i := 0) (v := p) 9 rfl (by kernel_rfl) (by kernel_rfl) (by kernel_rfl) (by kernel_rfl) (fun _ _ _ h => h) (Or.inl ⟨by kernel_rfl, fun W hS => by go_simp⟩) hS ?_
  try simp only [Act.put, List.setIfInBounds_toArray, List.set_cons_zero, List.set_cons_succ]
  refine anyH_at (i := 1) (v := .pointer (some ⟨bx, 1, none⟩)) 10 rfl (by kernel_rfl) (by kernel_rfl) (by kernel_rfl) (by kernel_rfl) (fun _ _ _ h => h) (Or.inl ⟨by kernel_rfl, fun W hS => by go_simp⟩) hS ?_
  try simp only [Act.put, List.setIfInBounds_toArray, List.set_cons_zero, List.set_cons_succ]
  refine anyH_at (i := 2) (v := .int .i64 o.at_) 11 rfl (by kernel_rfl) (by kernel_rfl) (by kernel_rfl) (by kernel_rfl) (fun _ _ _ h => h) (Or.inl ⟨by kernel_rfl, fun W hS => by have c0 : W.cell? ⟨bx, 1, none⟩ = some (.int .i64 o.at_) := hS.rg 1 _ rfl; go_simp⟩) hS ?_
  try simp only [Act.put, List.setIfInBounds_toArray, List.set_cons_zero, List.set_cons_succ]
  refine anyH_at (i := 3) (v := .pointer (some ⟨bx, 2, none⟩)) 12 rfl (by kernel_rfl) (by kernel_rfl) (by kernel_rfl) (by kernel_rfl) (fun _ _ _ h => h) (Or.inl ⟨by kernel_rfl, fun W hS => by go_simp⟩) hS ?_
  try simp only [Act.put, List.setIfInBounds_toArray, List.set_cons_zero, List.set_cons_succ]
  refine anyH_at (i := 4) (v := .slice o.xb o.nb o.cb) 13 rfl (by kernel_rfl) (by kernel_rfl) (by kernel_rfl) (by kernel_rfl) (fun _ _ _ h => h) (Or.inl ⟨by kernel_rfl, fun W hS => by have c0 : W.cell? ⟨bx, 2, none⟩ = some (.slice o.xb o.nb o.cb) := hS.rg 2 _ rfl; go_simp⟩) hS ?_
  try simp only [Act.put, List.setIfInBounds_toArray, List.set_cons_zero, List.set_cons_succ]
  refine wpAnyH_all (rs := [5]) (by kernel_rfl) (by simp) (AllReadyH.cons (i := 5) rfl (fun KK hK => ?_) AllReadyH.nil)
  rw [if_pos (by kernel_rfl)]
  have hS0 := hide hS
  clear hS
  go_wp2_with fail
  refine (of_any _ o.B _ (unhide HO).b).mono ?_
  rintro e w2 ⟨rfl, hb⟩
  have hS1 := hide ((show Blk _ _ _ _ from unhide hS0).keep hb)
  replace HK := hide ((unhide HK).below hb)
  replace HN := hide ((unhide HN).trans (but_of hb F) (fun x hx => Or.inl hx))
  have hlx2 : bx < w2.heap.size := by have := hb.size; omega
  clear hb hS0
  go_wp2_with fail
  refine hK.out _ _ (unhide hS1) (fun hS => ?_)
  clear hK hS1
  try simp only [Act.put, List.setIfInBounds_toArray, List.set_cons_zero, List.set_cons_succ]
  refine wpAnyH_all (rs := [6]) (by kernel_rfl) (by simp) (AllReadyH.cons (i := 6) rfl (fun KK hK => ?_) AllReadyH.nil)
  rw [if_pos (by kernel_rfl)]
  have hS0 := hide hS
  clear hS
  go_wp2_with fail
  refine (wri_any p A F o.at_ (ofB o.B) _ (unhide HK) (ofB_len _)).mono ?_
  rintro e w3 ⟨rfl, F', h2, hn2, hf2⟩
  have hS1 := hide (hn2.blk (show Blk _ _ _ _ from unhide hS0) (fun c => by have := unhide Hlt bx c; omega))
  replace HN := hide ((unhide HN).trans hn2 (fun x hx => Or.inl hx))
  have HP := hide h2
  have HQ := hide hf2
  clear h2 hn2 hf2 hS0
  go_wp2_with fail
  refine hK.out _ _ (unhide hS1) (fun hS => ?_)
  clear hK hS1
  try simp only [Act.put, List.setIfInBounds_toArray, List.set_cons_zero, List.set_cons_succ]
  refine anyH_at (i := 7) (v := .int .i64 (wrE A o.at_)) 4 rfl (by kernel_rfl) (by kernel_rfl) (by kernel_rfl) (by kernel_rfl) (fun _ _ _ h => h) (Or.inl ⟨by kernel_rfl, fun W hS => by go_simp⟩) hS ?_
  try simp only [Act.put, List.setIfInBounds_toArray, List.set_cons_zero, List.set_cons_succ]
  clear hS
  refine wpAnyH_done (by kernel_rfl) ?_ _
  refine noPanic_out ?_
  go_wp2_with fail
  go_ret
  exact ⟨rfl, F', unhide HP, unhide HN, fun k hk => (unhide HQ k hk).elim Or.inl (fun e => Or.inr (by omega))⟩
theorem do_any (p : Value) (A : Stt) (F : Nat → Prop) (o : Opx) (w : World) (h : Has LP w p A F) (ho : OpOk w o) (hF : ∀ k, F k → ∀ y, (o.xf = some y → 0 < o.nf → y.block ≠ k)) : Calls Try.prog 12 #[p, .agg (opL o).toArray] w fun e w' => e = .returned (.int .i64 (doE A o)) ∧ StepP LP w w' p (doS A o) F := by
  by_cases h1 : o.k = 1
  · exact do_1 p A F o w h ho hF h1
  by_cases h2 : o.k = 2
  · exact do_2 p A F o w h ho hF h2
  by_cases h3 : o.k = 3
  · exact do_3 p A F o w h ho hF h3
  · exact do_0 p A F o w h ho hF h1 h2 h3
end Go.Proofs.Ytdbefnghljjieaa
