/- Proved here: ValueEnds: nothing, paid later than all, changes nothing; an amount alone, a period later, is worth what it is, discounted once more. No condition. -/
import Derived.Test.YtpncdjejngkpgaaMZero
import Derived.Deep.QuietTactic
import Derived.BigQuiet
import Derived.Below
namespace Go.Proofs.Ytpncdjejngkpgaa.Mn.valueEnds
open Go.ChangeShapes Go.WideShapes Go.ChangeAt Go.RowKit
set_option linter.unusedSimpArgs false
theorem array4 {α : Type} {cs : Array α} (h : cs.size = 4) : ∃ c0 c1 c2 c3, cs = #[c0, c1, c2, c3] := by
  obtain ⟨l⟩ := cs
  match l, h with
  | [c0, c1, c2, c3], _ => exact ⟨c0, c1, c2, c3, rfl⟩
set_option maxRecDepth 100000 in
theorem open_ends {H : Type} {enc : TypeId × Value → H} {w : World} {r : Reach} {b0 base : Nat} {held : Bool} {v : Value} {d : DataW H} {p : List MemPlace} {T E : TypeId} {f0 f1 f2 f3 : Field}
    (hT : Try.prog.underlying T = some (.struct #[f0, f1, f2, f3])) (cT : Try.prog.cellsOf T = 4) (o0 : f0.offset = 0) (o1 : f1.offset = 1) (o2 : f2.offset = 2) (o3 : f3.offset = 3)
    (c0 : Try.prog.cellsOf f0.type = 1) (c1 : Try.prog.cellsOf f1.type = 1) (c2 : Try.prog.cellsOf f2.type = 1) (c3 : Try.prog.cellsOf f3.type = 1)
    (u0 : Try.prog.underlying f0.type = some (.slice E)) (u1 : Try.prog.underlying f1.type = some (.int .i64)) (u2 : Try.prog.underlying f2.type = some (.int .u8)) (u3 : Try.prog.underlying f3.type = some (.int .i64)) (uE : Try.prog.underlying E = some (.int .i64)) (cE : Try.prog.cellsOf E = 1)
    (hv : Value.okWide Try.prog w r b0 T v) (h : DataW.Trod enc Try.prog w base (fun _ => true) held T v d p) :
    ∃ (x : Option Addr) (len cap : Nat) (a1 a2 a3 : Int) (zs : List Int), v = .agg #[.slice x len cap, .int .i64 a1, .int .u8 a2, .int .i64 a3] ∧ In64 a1 ∧ (Lit.int .u8 a2).wf = true ∧ In64 a3 ∧ Row w (.slice x len cap) zs ∧ len ≤ cap ∧ (x = none → cap = 0) := by
  obtain ⟨cs, rfl, hsz⟩ := okWide_struct hT hv
  obtain ⟨v0, v1, v2, v3, rfl⟩ := array4 (hsz.trans cT)
  obtain ⟨fuel, hf⟩ := h
  obtain ⟨xs, n, _, hx, _, hlen, hF⟩ := DataW.trod_struct hT hf
  match xs, hlen with
  | [y0, y1, y2, y3], _ =>
    have h0 : DataW.trod enc Try.prog w base (fun _ => true) held n f0.type [v0] = some y0 := by simpa [Value.cells, c0, o0] using hF 0 _ rfl
    have h1 : DataW.trod enc Try.prog w base (fun _ => true) held n f1.type [v1] = some y1 := by simpa [Value.cells, c1, o1] using hF 1 _ rfl
    have h2 : DataW.trod enc Try.prog w base (fun _ => true) held n f2.type [v2] = some y2 := by simpa [Value.cells, c2, o2] using hF 2 _ rfl
    have h3 : DataW.trod enc Try.prog w base (fun _ => true) held n f3.type [v3] = some y3 := by simpa [Value.cells, c3, o3] using hF 3 _ rfl
    obtain ⟨a1, e1, _, w1⟩ := DataW.trod_int u1 h1
    obtain ⟨a2, e2, _, w2⟩ := DataW.trod_int u2 h2
    obtain ⟨a3, e3, _, w3⟩ := DataW.trod_int u3 h3
    simp at e1 e2 e3
    subst e1 e2 e3
    rcases open_ints u0 uE cE h0 with ⟨hcs, _⟩ | ⟨x, l, c, zs, hcs, _, hl, hm, hz, _, hcell, hwz⟩
    · simp at hcs
      subst hcs
      exact ⟨none, 0, 0, a1, a2, a3, [], rfl, in64_of w1, w2, in64_of w3, Or.inl ⟨_, _, rfl, rfl⟩, Nat.le_refl _, fun _ => rfl⟩
    · simp at hcs
      subst hcs
      obtain ⟨ys, hy⟩ := row_open hl hm (by simpa using hz) hcell hwz
      exact ⟨some x, l, c, a1, a2, a3, ys, rfl, in64_of w1, w2, in64_of w3, hy, hl, fun q => (by cases q)⟩
theorem all_more (l : List Int) (n : Nat) : (l ++ List.replicate n 0).all may = l.all may := by
  rw [List.all_append]
  have : (List.replicate n (0 : Int)).all may = true := List.all_eq_true.2 (fun x hx => by rw [(List.mem_replicate.1 hx).2]; decide)
  rw [this, Bool.and_true]
theorem all_one (n : Nat) (x : Int) : (List.replicate n 0 ++ [x]).all may = may x := by
  rw [List.all_append]
  have : (List.replicate n (0 : Int)).all may = true := List.all_eq_true.2 (fun x hx => by rw [(List.mem_replicate.1 hx).2]; decide)
  rw [this, Bool.true_and]
  simp
theorem may_of {r : Int} (h : mayB r = true) : May r := by unfold mayB at h; simpa [May] using h
theorem not_may {l : List Int} {r : Int} (h6 : l.length ≤ 600) (h : l.all may = false ∨ mayB r = false) : valE 1 l r = 2 := by
  unfold valE
  rw [if_neg (by omega)]
  rcases h with h | h
  · rw [if_pos h]
  · simp [h]
theorem ends_more {l : List Int} {r : Int} {n : Nat} (hl : l.length ≤ 60) (hn : n ≤ 60) : valE 1 (l ++ List.replicate n 0) r = valE 1 l r ∧ valN 1 (l ++ List.replicate n 0) r = valN 1 l r := by
  have h6 : (l ++ List.replicate n (0 : Int)).length ≤ 600 := by simp; omega
  have e : valE 1 (l ++ List.replicate n 0) r = valE 1 l r := by
    cases ha : l.all may with
    | false => rw [not_may h6 (Or.inl (by rw [all_more]; exact ha)), not_may (by omega) (Or.inl ha)]
    | true =>
      cases hr : mayB r with
      | false => rw [not_may h6 (Or.inr hr), not_may (by omega) (Or.inr hr)]
      | true => rw [valE1_of h6 (by rw [all_more]; exact ha) (may_of hr), valE1_of (by omega) ha (may_of hr), fits_more (may_of hr)]
  refine ⟨e, ?_⟩
  by_cases h0 : valE 1 l r = 0
  · rw [valN1 (e.trans h0), valN1 h0, worth_more (valE1 h0).2.2.1]
  · rw [valN1_no (fun c => h0 (e.symm.trans c)), valN1_no h0]
theorem len_one (n : Nat) (x : Int) : (List.replicate n (0 : Int) ++ [x]).length = n + 1 := by simp
theorem ends_bad {n : Nat} {x r : Int} (hn : n ≤ 60) (h : valE 1 (List.replicate n 0 ++ [x]) r ≠ 0) : valE 1 (List.replicate (n + 1) 0 ++ [x]) r = valE 1 (List.replicate n 0 ++ [x]) r := by
  have h6 : (List.replicate n (0 : Int) ++ [x]).length ≤ 600 := by rw [len_one]; omega
  have h7 : (List.replicate (n + 1) (0 : Int) ++ [x]).length ≤ 600 := by rw [len_one]; omega
  cases ha : may x with
  | false => rw [not_may h6 (Or.inl (by rw [all_one]; exact ha)), not_may h7 (Or.inl (by rw [all_one]; exact ha))]
  | true =>
    cases hr : mayB r with
    | false => rw [not_may h6 (Or.inr hr), not_may h7 (Or.inr hr)]
    | true =>
      have e1 := valE1_of h6 (by rw [all_one]; exact ha) (may_of hr)
      have e2 := valE1_of h7 (by rw [all_one]; exact ha) (may_of hr)
      rw [e1] at h
      split at h
      · next hf =>
        rw [ends_next, fits_later_no hf] at e2
        rw [ends_next, e2, e1, hf]
      · exact absurd rfl h
theorem ends_over {n : Nat} {x r : Int} (hn : n ≤ 60) (h : valE 1 (List.replicate n 0 ++ [x]) r = 0) : valE 1 (List.replicate (n + 1) 0 ++ [x]) r = 0 ∨ valE 1 (List.replicate (n + 1) 0 ++ [x]) r = 3 := by
  obtain ⟨_, h2, h3, _⟩ := valE1 h
  rw [all_one] at h2
  rw [valE1_of (by rw [len_one]; omega) (by rw [all_one]; exact h2) h3]
  split
  · exact Or.inr rfl
  · exact Or.inl rfl
theorem ends_disc {n : Nat} {x r : Int} (h : valE 1 (List.replicate n 0 ++ [x]) r = 0) : ∃ d i, Ans 18 (valN 1 (List.replicate n 0 ++ [x]) r) r d i ∧ (valE 1 (List.replicate (n + 1) 0 ++ [x]) r = 0 → i = 0 ∧ d = valN 1 (List.replicate (n + 1) 0 ++ [x]) r) := by
  obtain ⟨_, _, h3, h4⟩ := valE1 h
  have hb := fits_in h4
  refine ⟨_, _, discount_ok (valN_in _ _ _) h3, fun h' => ?_⟩
  obtain ⟨_, _, _, h5⟩ := valE1 h'
  have hb2 := fits_in h5
  have e : worth r (List.replicate (n + 1) 0 ++ [x]) = qD (worth r (List.replicate n 0 ++ [x])) r := by rw [ends_next, worth_later]
  rw [valN1 h, valN1 h', e]
  rw [e] at hb2
  have ht := turn_in (n := qD (worth r (List.replicate n 0 ++ [x])) r) ⟨by omega, by omega⟩
  exact ⟨okE_in ht, okN_in ht⟩
/-- Block b holds the argument. -/
def Arg (w : World) (b : Nat) (v : Value) (r : Int) (n : Nat) (x : Int) : Prop := w.heap[b]? = some (.cells #[v, .int .i64 r, .int .u8 (n : Int), .int .i64 x] 37 (0, 0))
theorem Arg.keep {w w' : World} {b : Nat} {v : Value} {r : Int} {n : Nat} {x : Int} (h : Arg w b v r n x) (hb : Below w.heap.size w w') : Arg w' b v r n x := (hb.block b (Array.getElem?_eq_some_iff.1 h).1).trans h
theorem Arg.new (w : World) (v : Value) (r : Int) (n : Nat) (x : Int) : Arg (w.alloc (.cells #[v, .int .i64 r, .int .u8 (n : Int), .int .i64 x] 37)) w.heap.size v r n x := heap_alloc_new w _
section
variable {w : World} {b : Nat} {v : Value} {r : Int} {n : Nat} {x : Int}
theorem Arg.c0 (h : Arg w b v r n x) : w.cell? ⟨b, 0, none⟩ = some v := by rw [cell_of_row w b 0 _ _ _ h]; rfl
theorem Arg.c1 (h : Arg w b v r n x) : w.cell? ⟨b, 1, none⟩ = some (.int .i64 r) := by rw [cell_of_row w b 1 _ _ _ h]; rfl
theorem Arg.c2 (h : Arg w b v r n x) : w.cell? ⟨b, 2, none⟩ = some (.int .u8 (n : Int)) := by rw [cell_of_row w b 2 _ _ _ h]; rfl
theorem Arg.c3 (h : Arg w b v r n x) : w.cell? ⟨b, 3, none⟩ = some (.int .i64 x) := by rw [cell_of_row w b 3 _ _ _ h]; rfl
end
theorem s_long1 (a0 : Option Addr) (l0 c0 : Nat) (r : Int) (n : Nat) (x : Int) (d1 : decide ((60 : Int) < (l0 : Int)) = true) (hal : Hid Alive) (w : World) : Calls Try.prog 7 #[.agg #[.slice a0 l0 c0, .int .i64 r, .int .u8 (n : Int), .int .i64 x]] w fun e w' => e = .returned (.bool true) ∧ Below w.heap.size w w' := by
  go_enter Try.func7, Try.ntmps7
  go_wp2_with fail
  refine (unhide hal _).mono ?_
  rintro e w1 ⟨rfl, hb⟩
  have HB := hide (below_via (below1 w (.cells #[.slice a0 l0 c0, .int .i64 r, .int .u8 (n : Int), .int .i64 x] 37)) hb)
  have HA := hide ((Arg.new w (.slice a0 l0 c0) r n x).keep hb)
  clear hb
  have c0' := (unhide HA).c0
  have c1' := (unhide HA).c1
  have c2' := (unhide HA).c2
  have c3' := (unhide HA).c3
  clear HA
  go_wp2_with fail
  go_quiet (fail)
  go_wp2_with fail
  go_ret
  exact ⟨rfl, below_drewN (unhide HB) _⟩
theorem s_long2 (a0 : Option Addr) (l0 c0 : Nat) (r : Int) (n : Nat) (x : Int) (d1 : decide ((60 : Int) < (l0 : Int)) = false) (d2 : decide ((60 : Int) < (n : Int)) = true) (hal : Hid Alive) (w : World) : Calls Try.prog 7 #[.agg #[.slice a0 l0 c0, .int .i64 r, .int .u8 (n : Int), .int .i64 x]] w fun e w' => e = .returned (.bool true) ∧ Below w.heap.size w w' := by
  go_enter Try.func7, Try.ntmps7
  go_wp2_with fail
  refine (unhide hal _).mono ?_
  rintro e w1 ⟨rfl, hb⟩
  have HB := hide (below_via (below1 w (.cells #[.slice a0 l0 c0, .int .i64 r, .int .u8 (n : Int), .int .i64 x] 37)) hb)
  have HA := hide ((Arg.new w (.slice a0 l0 c0) r n x).keep hb)
  clear hb
  have c0' := (unhide HA).c0
  have c1' := (unhide HA).c1
  have c2' := (unhide HA).c2
  have c3' := (unhide HA).c3
  clear HA
  go_wp2_with fail
  go_quiet (fail)
  go_wp2_with fail
  go_ret
  exact ⟨rfl, below_drewN (unhide HB) _⟩
set_option maxHeartbeats 2000000 in
set_option maxRecDepth 20000 in
theorem s_bad (a0 : Option Addr) (l0 c0 : Nat) (l : List Int) (r : Int) (n : Nat) (x : Int) (d1 : decide ((60 : Int) < (l0 : Int)) = false) (d2 : decide ((60 : Int) < (n : Int)) = false) (hx : In64 x) (hnil : Hid (a0 = none → c0 = 0)) (hal : Hid Alive) (w : World) (hR : Hid (Row w (.slice a0 l0 c0) l)) (hg : valE 1 (List.replicate n 0 ++ [x]) r ≠ 0) : Calls Try.prog 7 #[.agg #[.slice a0 l0 c0, .int .i64 r, .int .u8 (n : Int), .int .i64 x]] w fun e w' => e = .returned (.bool true) ∧ Below w.heap.size w w' := by
  have Hl := hide (row_len (unhide hR))
  have n1 : n ≤ 60 := by have := of_decide_eq_false d2; omega
  have l1 : l0 ≤ 60 := by have := of_decide_eq_false d1; omega
  have n2 : (n : Int) ≤ 60 := by omega
  have HO1 : Hid (∀ w', Row w' (.slice a0 l0 c0) l → NowA 11 w' #[.slice a0 l0 c0, .int .i64 r] (valN 1 l r) (valE 1 l r)) := hide (fun w' h => of_any r h)
  have HO2 : Hid (∀ w' v, Row w' v (l ++ List.replicate n 0) → NowA 11 w' #[v, .int .i64 r] (valN 1 l r) (valE 1 l r)) := hide (fun w' v h => by
    have := of_any r h
    have e := ends_more (r := r) (n := n) (l := l) (by rw [← unhide Hl]; exact l1) n1
    rwa [e.1, e.2] at this)
  obtain ⟨one, h1⟩ : ∃ y, valN 1 (List.replicate n 0 ++ [x]) r = y := ⟨_, rfl⟩
  obtain ⟨nx, h2⟩ : ∃ y, valN 1 (List.replicate (n + 1) 0 ++ [x]) r = y := ⟨_, rfl⟩
  have hb := ends_bad n1 hg
  obtain ⟨G, h3⟩ : ∃ y, valE 1 (List.replicate n 0 ++ [x]) r = y := ⟨_, rfl⟩
  have HO3 : Hid (∀ w' v, Row w' v (List.replicate n 0 ++ [x]) → NowA 11 w' #[v, .int .i64 r] one G) := hide (fun w' v h => by have := of_any r h; rwa [h1, h3] at this)
  have HO4 : Hid (∀ w' v, Row w' v (List.replicate (n + 1) 0 ++ [x]) → NowA 11 w' #[v, .int .i64 r] nx G) := hide (fun w' v h => by have := of_any r h; rwa [h2, hb, h3] at this)
  have t3 : (G != 0) = true := by rw [← h3]; simpa using hg
  have t4 : (G == G) = true := by simp
  clear h1 h2 h3 hb hg
  generalize valN 1 l r = A at *
  generalize valE 1 l r = E at *
  have t1 : (A != A) = false := by simp
  have t2 : (E != E) = false := by simp
  unfold NowA at HO1 HO2 HO3 HO4
  have hm8 := make_u8 n (by omega)
  have hmn := make_next n (by omega)
  have HL1 : Hid (([] : List Int).length + l.length ≤ 1000000) := hide (by rw [← unhide Hl]; simp; omega)
  have HL2 : Hid (([] ++ l : List Int).length ≤ 1000000) := hide (by rw [List.nil_append, ← unhide Hl]; omega)
  have HL3 : Hid ((List.replicate n (0 : Int)).length ≤ 1000000) := hide (by simp; omega)
  have HL4 : Hid ((List.replicate (n + 1) (0 : Int)).length ≤ 1000000) := hide (by simp; omega)
  have x1 := hx.lo
  have x2 := hx.hi
  clear hx
  go_enter Try.func7, Try.ntmps7
  go_wp2_with fail
  refine (unhide hal _).mono ?_
  rintro e w1 ⟨rfl, hb⟩
  have HB := hide (below_via (below1 w (.cells #[.slice a0 l0 c0, .int .i64 r, .int .u8 (n : Int), .int .i64 x] 37)) hb)
  have HA := hide ((Arg.new w (.slice a0 l0 c0) r n x).keep hb)
  have HY := hide (row_in (unhide hR))
  replace hR := hide ((unhide hR).alloc (.cells #[.slice a0 l0 c0, .int .i64 r, .int .u8 (n : Int), .int .i64 x] 37))
  replace hR := hide ((unhide hR).below hb (Nat.le_refl _))
  clear hb
  have c0' := (unhide HA).c0
  have c1' := (unhide HA).c1
  have c2' := (unhide HA).c2
  have c3' := (unhide HA).c3
  clear HA
  go_wp2_with fail
  go_quiet (fail)
  clear c0' c1' c2' c3'
  replace hR := hide ((unhide hR).later (w' := w1.drewN nq) (fun _ _ h => h))
  replace HB := hide (below_drewN (unhide HB) nq)
  generalize w1.drewN nq = W at *
  go_wp2_with fail
  refine (unhide HO1 _ (unhide hR)).mono ?_
  rintro e w2 ⟨rfl, hb⟩
  replace hR := hide ((unhide hR).below hb (Nat.le_refl _))
  replace HB := hide (below_via (unhide HB) hb)
  clear hb HO1
  have HF := hide (from_row ((unhide hR).alloc (.cells #[] 2)) (unhide hnil))
  go_wp2_with (at_builtin; refine list_from rfl _ _ rfl w2 _ _ _ [] l (Grow.empty _ _ (Below.refl _ _)) (unhide HF) rfl rfl (unhide HL1) (unhide HY) ?_)
  intro v3 w3 hG
  have HG := hide hG
  clear hG HF
  go_wp2_with (at_builtin; refine list_zeros rfl _ _ rfl w2 _ _ ([] ++ l) n (unhide HG) rfl rfl (by omega) (unhide HL2) ?_)
  intro v4 w4 hG
  replace HG := hide hG
  clear hG
  have HW := hide ((unhide HG).row (by rw [List.length_append, List.length_replicate, ← unhide Hl]; unfold maxLen; omega))
  replace HB := hide (below_via (unhide HB) (unhide HG).below)
  clear HG hR
  go_wp2_with fail
  refine (unhide HO2 _ _ (unhide HW)).mono ?_
  rintro e w5 ⟨rfl, hb⟩
  replace HB := hide (below_via (unhide HB) hb)
  clear hb HO2 HW
  go_wp2_with (at_builtin; refine push_law 2 22 Try.underlying22 info2 rfl _ _ rfl w5 _ _ (List.replicate n 0) x (grow_made (Below.refl _ _) n (by omega)) rfl (by simp [Act.eval, Act.put]) (unhide HL3) ⟨x1, x2⟩ ?_)
  intro v6 w6 hG
  have HG := hide hG
  clear hG
  have HW := hide ((unhide HG).row (by rw [len_one]; unfold maxLen; omega))
  replace HB := hide (below_via (unhide HB) (unhide HG).below)
  clear HG
  go_wp2_with fail
  refine (unhide HO3 _ _ (unhide HW)).mono ?_
  rintro e w7 ⟨rfl, hb⟩
  replace HB := hide (below_via (unhide HB) hb)
  clear hb HO3 HW
  go_wp2_with (at_builtin; refine push_law 2 22 Try.underlying22 info2 rfl _ _ rfl w7 _ _ (List.replicate (n + 1) 0) x (grow_made (Below.refl _ _) (n + 1) (by omega)) rfl (by simp [Act.eval, Act.put]) (unhide HL4) ⟨x1, x2⟩ ?_)
  intro v8 w8 hG
  have HG := hide hG
  clear hG
  have HW := hide ((unhide HG).row (by rw [len_one]; unfold maxLen; omega))
  replace HB := hide (below_via (unhide HB) (unhide HG).below)
  clear HG
  go_wp2_with fail
  refine (unhide HO4 _ _ (unhide HW)).mono ?_
  rintro e w9 ⟨rfl, hb⟩
  replace HB := hide (below_via (unhide HB) hb)
  clear hb HO4 HW
  go_wp2_with fail
  go_ret
  exact ⟨rfl, unhide HB⟩
set_option maxHeartbeats 2000000 in
set_option maxRecDepth 20000 in
theorem s_over (a0 : Option Addr) (l0 c0 : Nat) (l : List Int) (r : Int) (n : Nat) (x : Int) (d1 : decide ((60 : Int) < (l0 : Int)) = false) (d2 : decide ((60 : Int) < (n : Int)) = false) (hx : In64 x) (hnil : Hid (a0 = none → c0 = 0)) (hal : Hid Alive) (w : World) (hR : Hid (Row w (.slice a0 l0 c0) l)) (hg : valE 1 (List.replicate n 0 ++ [x]) r = 0) (hh : valE 1 (List.replicate (n + 1) 0 ++ [x]) r = 3) : Calls Try.prog 7 #[.agg #[.slice a0 l0 c0, .int .i64 r, .int .u8 (n : Int), .int .i64 x]] w fun e w' => e = .returned (.bool true) ∧ Below w.heap.size w w' := by
  have Hl := hide (row_len (unhide hR))
  have n1 : n ≤ 60 := by have := of_decide_eq_false d2; omega
  have l1 : l0 ≤ 60 := by have := of_decide_eq_false d1; omega
  have n2 : (n : Int) ≤ 60 := by omega
  have HO1 : Hid (∀ w', Row w' (.slice a0 l0 c0) l → NowA 11 w' #[.slice a0 l0 c0, .int .i64 r] (valN 1 l r) (valE 1 l r)) := hide (fun w' h => of_any r h)
  have HO2 : Hid (∀ w' v, Row w' v (l ++ List.replicate n 0) → NowA 11 w' #[v, .int .i64 r] (valN 1 l r) (valE 1 l r)) := hide (fun w' v h => by
    have := of_any r h
    have e := ends_more (r := r) (n := n) (l := l) (by rw [← unhide Hl]; exact l1) n1
    rwa [e.1, e.2] at this)
  obtain ⟨one, h1⟩ : ∃ y, valN 1 (List.replicate n 0 ++ [x]) r = y := ⟨_, rfl⟩
  obtain ⟨nx, h2⟩ : ∃ y, valN 1 (List.replicate (n + 1) 0 ++ [x]) r = y := ⟨_, rfl⟩
  obtain ⟨d, i, hD, _⟩ := ends_disc hg
  have HO3 : Hid (∀ w' v, Row w' v (List.replicate n 0 ++ [x]) → NowA 11 w' #[v, .int .i64 r] one 0) := hide (fun w' v h => by have := of_any r h; rwa [h1, hg] at this)
  have HO4 : Hid (∀ w' v, Row w' v (List.replicate (n + 1) 0 ++ [x]) → NowA 11 w' #[v, .int .i64 r] nx 3) := hide (fun w' v h => by have := of_any r h; rwa [h2, hh] at this)
  rw [h1] at hD
  unfold Ans at hD
  have HD := hide hD
  clear h1 h2 hg hh hD
  generalize valN 1 l r = A at *
  generalize valE 1 l r = E at *
  have t1 : (A != A) = false := by simp
  have t2 : (E != E) = false := by simp
  unfold NowA at HO1 HO2 HO3 HO4
  have hm8 := make_u8 n (by omega)
  have hmn := make_next n (by omega)
  have HL1 : Hid (([] : List Int).length + l.length ≤ 1000000) := hide (by rw [← unhide Hl]; simp; omega)
  have HL2 : Hid (([] ++ l : List Int).length ≤ 1000000) := hide (by rw [List.nil_append, ← unhide Hl]; omega)
  have HL3 : Hid ((List.replicate n (0 : Int)).length ≤ 1000000) := hide (by simp; omega)
  have HL4 : Hid ((List.replicate (n + 1) (0 : Int)).length ≤ 1000000) := hide (by simp; omega)
  have x1 := hx.lo
  have x2 := hx.hi
  clear hx
  go_enter Try.func7, Try.ntmps7
  go_wp2_with fail
  refine (unhide hal _).mono ?_
  rintro e w1 ⟨rfl, hb⟩
  have HB := hide (below_via (below1 w (.cells #[.slice a0 l0 c0, .int .i64 r, .int .u8 (n : Int), .int .i64 x] 37)) hb)
  have HA := hide ((Arg.new w (.slice a0 l0 c0) r n x).keep hb)
  have HY := hide (row_in (unhide hR))
  replace hR := hide ((unhide hR).alloc (.cells #[.slice a0 l0 c0, .int .i64 r, .int .u8 (n : Int), .int .i64 x] 37))
  replace hR := hide ((unhide hR).below hb (Nat.le_refl _))
  clear hb
  have c0' := (unhide HA).c0
  have c1' := (unhide HA).c1
  have c2' := (unhide HA).c2
  have c3' := (unhide HA).c3
  clear HA
  go_wp2_with fail
  go_quiet (fail)
  clear c0' c1' c2' c3'
  replace hR := hide ((unhide hR).later (w' := w1.drewN nq) (fun _ _ h => h))
  replace HB := hide (below_drewN (unhide HB) nq)
  generalize w1.drewN nq = W at *
  go_wp2_with fail
  refine (unhide HO1 _ (unhide hR)).mono ?_
  rintro e w2 ⟨rfl, hb⟩
  replace hR := hide ((unhide hR).below hb (Nat.le_refl _))
  replace HB := hide (below_via (unhide HB) hb)
  clear hb HO1
  have HF := hide (from_row ((unhide hR).alloc (.cells #[] 2)) (unhide hnil))
  go_wp2_with (at_builtin; refine list_from rfl _ _ rfl w2 _ _ _ [] l (Grow.empty _ _ (Below.refl _ _)) (unhide HF) rfl rfl (unhide HL1) (unhide HY) ?_)
  intro v3 w3 hG
  have HG := hide hG
  clear hG HF
  go_wp2_with (at_builtin; refine list_zeros rfl _ _ rfl w2 _ _ ([] ++ l) n (unhide HG) rfl rfl (by omega) (unhide HL2) ?_)
  intro v4 w4 hG
  replace HG := hide hG
  clear hG
  have HW := hide ((unhide HG).row (by rw [List.length_append, List.length_replicate, ← unhide Hl]; unfold maxLen; omega))
  replace HB := hide (below_via (unhide HB) (unhide HG).below)
  clear HG hR
  go_wp2_with fail
  refine (unhide HO2 _ _ (unhide HW)).mono ?_
  rintro e w5 ⟨rfl, hb⟩
  replace HB := hide (below_via (unhide HB) hb)
  clear hb HO2 HW
  go_wp2_with (at_builtin; refine push_law 2 22 Try.underlying22 info2 rfl _ _ rfl w5 _ _ (List.replicate n 0) x (grow_made (Below.refl _ _) n (by omega)) rfl (by simp [Act.eval, Act.put]) (unhide HL3) ⟨x1, x2⟩ ?_)
  intro v6 w6 hG
  have HG := hide hG
  clear hG
  have HW := hide ((unhide HG).row (by rw [len_one]; unfold maxLen; omega))
  replace HB := hide (below_via (unhide HB) (unhide HG).below)
  clear HG
  go_wp2_with fail
  refine (unhide HO3 _ _ (unhide HW)).mono ?_
  rintro e w7 ⟨rfl, hb⟩
  replace HB := hide (below_via (unhide HB) hb)
  clear hb HO3 HW
  go_wp2_with (at_builtin; refine push_law 2 22 Try.underlying22 info2 rfl _ _ rfl w7 _ _ (List.replicate (n + 1) 0) x (grow_made (Below.refl _ _) (n + 1) (by omega)) rfl (by simp [Act.eval, Act.put]) (unhide HL4) ⟨x1, x2⟩ ?_)
  intro v8 w8 hG
  have HG := hide hG
  clear hG
  have HW := hide ((unhide HG).row (by rw [len_one]; unfold maxLen; omega))
  replace HB := hide (below_via (unhide HB) (unhide HG).below)
  clear HG
  go_wp2_with fail
  refine (unhide HO4 _ _ (unhide HW)).mono ?_
  rintro e w9 ⟨rfl, hb⟩
  replace HB := hide (below_via (unhide HB) hb)
  clear hb HO4 HW
  go_wp2_with fail
  refine (unhide HD _).mono ?_
  rintro e w10 ⟨rfl, hb⟩
  replace HB := hide (below_via (unhide HB) hb)
  clear hb HD
  go_wp2_with fail
  go_ret
  exact ⟨rfl, unhide HB⟩
set_option maxHeartbeats 2000000 in
set_option maxRecDepth 20000 in
theorem s_ok (a0 : Option Addr) (l0 c0 : Nat) (l : List Int) (r : Int) (n : Nat) (x : Int) (d1 : decide ((60 : Int) < (l0 : Int)) = false) (d2 : decide ((60 : Int) < (n : Int)) = false) (hx : In64 x) (hnil : Hid (a0 = none → c0 = 0)) (hal : Hid Alive) (w : World) (hR : Hid (Row w (.slice a0 l0 c0) l)) (hg : valE 1 (List.replicate n 0 ++ [x]) r = 0) (hh : valE 1 (List.replicate (n + 1) 0 ++ [x]) r = 0) : Calls Try.prog 7 #[.agg #[.slice a0 l0 c0, .int .i64 r, .int .u8 (n : Int), .int .i64 x]] w fun e w' => e = .returned (.bool true) ∧ Below w.heap.size w w' := by
  have Hl := hide (row_len (unhide hR))
  have n1 : n ≤ 60 := by have := of_decide_eq_false d2; omega
  have l1 : l0 ≤ 60 := by have := of_decide_eq_false d1; omega
  have n2 : (n : Int) ≤ 60 := by omega
  have HO1 : Hid (∀ w', Row w' (.slice a0 l0 c0) l → NowA 11 w' #[.slice a0 l0 c0, .int .i64 r] (valN 1 l r) (valE 1 l r)) := hide (fun w' h => of_any r h)
  have HO2 : Hid (∀ w' v, Row w' v (l ++ List.replicate n 0) → NowA 11 w' #[v, .int .i64 r] (valN 1 l r) (valE 1 l r)) := hide (fun w' v h => by
    have := of_any r h
    have e := ends_more (r := r) (n := n) (l := l) (by rw [← unhide Hl]; exact l1) n1
    rwa [e.1, e.2] at this)
  obtain ⟨one, h1⟩ : ∃ y, valN 1 (List.replicate n 0 ++ [x]) r = y := ⟨_, rfl⟩
  obtain ⟨nx, h2⟩ : ∃ y, valN 1 (List.replicate (n + 1) 0 ++ [x]) r = y := ⟨_, rfl⟩
  obtain ⟨d, i, hD, hok⟩ := ends_disc hg
  obtain ⟨rfl, hd⟩ := hok hh
  rw [h2] at hd
  subst hd
  have HO3 : Hid (∀ w' v, Row w' v (List.replicate n 0 ++ [x]) → NowA 11 w' #[v, .int .i64 r] one 0) := hide (fun w' v h => by have := of_any r h; rwa [h1, hg] at this)
  have HO4 : Hid (∀ w' v, Row w' v (List.replicate (n + 1) 0 ++ [x]) → NowA 11 w' #[v, .int .i64 r] d 0) := hide (fun w' v h => by have := of_any r h; rwa [h2, hh] at this)
  rw [h1] at hD
  unfold Ans at hD
  have HD := hide hD
  have t3 : (d == d) = true := by simp
  clear h1 h2 hg hh hD hok
  generalize valN 1 l r = A at *
  generalize valE 1 l r = E at *
  have t1 : (A != A) = false := by simp
  have t2 : (E != E) = false := by simp
  unfold NowA at HO1 HO2 HO3 HO4
  have hm8 := make_u8 n (by omega)
  have hmn := make_next n (by omega)
  have HL1 : Hid (([] : List Int).length + l.length ≤ 1000000) := hide (by rw [← unhide Hl]; simp; omega)
  have HL2 : Hid (([] ++ l : List Int).length ≤ 1000000) := hide (by rw [List.nil_append, ← unhide Hl]; omega)
  have HL3 : Hid ((List.replicate n (0 : Int)).length ≤ 1000000) := hide (by simp; omega)
  have HL4 : Hid ((List.replicate (n + 1) (0 : Int)).length ≤ 1000000) := hide (by simp; omega)
  have x1 := hx.lo
  have x2 := hx.hi
  clear hx
  go_enter Try.func7, Try.ntmps7
  go_wp2_with fail
  refine (unhide hal _).mono ?_
  rintro e w1 ⟨rfl, hb⟩
  have HB := hide (below_via (below1 w (.cells #[.slice a0 l0 c0, .int .i64 r, .int .u8 (n : Int), .int .i64 x] 37)) hb)
  have HA := hide ((Arg.new w (.slice a0 l0 c0) r n x).keep hb)
  have HY := hide (row_in (unhide hR))
  replace hR := hide ((unhide hR).alloc (.cells #[.slice a0 l0 c0, .int .i64 r, .int .u8 (n : Int), .int .i64 x] 37))
  replace hR := hide ((unhide hR).below hb (Nat.le_refl _))
  clear hb
  have c0' := (unhide HA).c0
  have c1' := (unhide HA).c1
  have c2' := (unhide HA).c2
  have c3' := (unhide HA).c3
  clear HA
  go_wp2_with fail
  go_quiet (fail)
  clear c0' c1' c2' c3'
  replace hR := hide ((unhide hR).later (w' := w1.drewN nq) (fun _ _ h => h))
  replace HB := hide (below_drewN (unhide HB) nq)
  generalize w1.drewN nq = W at *
  go_wp2_with fail
  refine (unhide HO1 _ (unhide hR)).mono ?_
  rintro e w2 ⟨rfl, hb⟩
  replace hR := hide ((unhide hR).below hb (Nat.le_refl _))
  replace HB := hide (below_via (unhide HB) hb)
  clear hb HO1
  have HF := hide (from_row ((unhide hR).alloc (.cells #[] 2)) (unhide hnil))
  go_wp2_with (at_builtin; refine list_from rfl _ _ rfl w2 _ _ _ [] l (Grow.empty _ _ (Below.refl _ _)) (unhide HF) rfl rfl (unhide HL1) (unhide HY) ?_)
  intro v3 w3 hG
  have HG := hide hG
  clear hG HF
  go_wp2_with (at_builtin; refine list_zeros rfl _ _ rfl w2 _ _ ([] ++ l) n (unhide HG) rfl rfl (by omega) (unhide HL2) ?_)
  intro v4 w4 hG
  replace HG := hide hG
  clear hG
  have HW := hide ((unhide HG).row (by rw [List.length_append, List.length_replicate, ← unhide Hl]; unfold maxLen; omega))
  replace HB := hide (below_via (unhide HB) (unhide HG).below)
  clear HG hR
  go_wp2_with fail
  refine (unhide HO2 _ _ (unhide HW)).mono ?_
  rintro e w5 ⟨rfl, hb⟩
  replace HB := hide (below_via (unhide HB) hb)
  clear hb HO2 HW
  go_wp2_with (at_builtin; refine push_law 2 22 Try.underlying22 info2 rfl _ _ rfl w5 _ _ (List.replicate n 0) x (grow_made (Below.refl _ _) n (by omega)) rfl (by simp [Act.eval, Act.put]) (unhide HL3) ⟨x1, x2⟩ ?_)
  intro v6 w6 hG
  have HG := hide hG
  clear hG
  have HW := hide ((unhide HG).row (by rw [len_one]; unfold maxLen; omega))
  replace HB := hide (below_via (unhide HB) (unhide HG).below)
  clear HG
  go_wp2_with fail
  refine (unhide HO3 _ _ (unhide HW)).mono ?_
  rintro e w7 ⟨rfl, hb⟩
  replace HB := hide (below_via (unhide HB) hb)
  clear hb HO3 HW
  go_wp2_with (at_builtin; refine push_law 2 22 Try.underlying22 info2 rfl _ _ rfl w7 _ _ (List.replicate (n + 1) 0) x (grow_made (Below.refl _ _) (n + 1) (by omega)) rfl (by simp [Act.eval, Act.put]) (unhide HL4) ⟨x1, x2⟩ ?_)
  intro v8 w8 hG
  have HG := hide hG
  clear hG
  have HW := hide ((unhide HG).row (by rw [len_one]; unfold maxLen; omega))
  replace HB := hide (below_via (unhide HB) (unhide HG).below)
  clear HG
  go_wp2_with fail
  refine (unhide HO4 _ _ (unhide HW)).mono ?_
  rintro e w9 ⟨rfl, hb⟩
  replace HB := hide (below_via (unhide HB) hb)
  clear hb HO4 HW
  go_wp2_with fail
  refine (unhide HD _).mono ?_
  rintro e w10 ⟨rfl, hb⟩
  replace HB := hide (below_via (unhide HB) hb)
  clear hb HD
  go_wp2_with fail
  go_ret
  exact ⟨rfl, unhide HB⟩
theorem walk (a0 : Option Addr) (l0 c0 : Nat) (l : List Int) (r y x : Int) (w : World) (hR : Row w (.slice a0 l0 c0) l) (hnil : a0 = none → c0 = 0) (hy : (Lit.int .u8 y).wf = true) (hx : In64 x) : Calls Try.prog 7 #[.agg #[.slice a0 l0 c0, .int .i64 r, .int .u8 y, .int .i64 x]] w fun e w' => e = .returned (.bool true) ∧ Below w.heap.size w w' := by
  have hal := hide alive_any
  have hat : 0 ≤ y ∧ y ≤ 255 := by
    simp [Lit.wf, IntKind.min, IntKind.max, IntKind.signed, IntKind.bits] at hy
    omega
  obtain ⟨n, rfl⟩ : ∃ n : Nat, y = (n : Int) := ⟨y.toNat, by omega⟩
  by_cases q : (60 : Int) < (l0 : Int)
  · exact s_long1 a0 l0 c0 r n x (decide_eq_true q) hal w
  · by_cases q2 : (60 : Int) < (n : Int)
    · exact s_long2 a0 l0 c0 r n x (decide_eq_false q) (decide_eq_true q2) hal w
    · by_cases hg : valE 1 (List.replicate n 0 ++ [x]) r = 0
      · rcases ends_over (by omega) hg with hh | hh
        · exact s_ok a0 l0 c0 l r n x (decide_eq_false q) (decide_eq_false q2) hx (hide hnil) hal w (hide hR) hg hh
        · exact s_over a0 l0 c0 l r n x (decide_eq_false q) (decide_eq_false q2) hx (hide hnil) hal w (hide hR) hg hh
      · exact s_bad a0 l0 c0 l r n x (decide_eq_false q) (decide_eq_false q2) hx (hide hnil) hal w (hide hR) hg
theorem own : ownKnob Try.prog.godebug = none := by kernel_rfl
theorem laidOut : laidOutB Try.prog = true := by kernel_rfl
set_option linter.unusedVariables false in
set_option maxRecDepth 100000 in
theorem lifted (os : Os) (started : os.Started) (H : Type) (enc : TypeId × Value → H) :
    ReturnsInHanded {} Try.checked os 7 .any (Rows.valueEndsSpec.pre6 enc Try.prog Try.f7 Rows.valueEndsRow.domain false) (Rows.valueEndsSpec.post enc Try.prog Try.f7 false true false false) := by
  refine returnsInHanded_of_change (C := Try.checked) own started (by kernel_rfl) Try.func7
    (ChangeSpec.witness6 (enc := enc) (C := Try.checked) false ⟨#[], #[.agg #[.slice none 0 0, .int .i64 0, .int .u8 0, .int .i64 0]], []⟩ 8 (by kernel_rfl) (by kernel_rfl) (by kernel_rfl) (by kernel_rfl)) ?_
  intro W base args ds gs before hval0 hW hcnd _
  have hval : ∀ (j : Nat) t v, Try.f7.params[j]? = some t → args[j]? = some v → Value.okWide Try.prog W .any base t v := hval0
  have hW' := hW
  obtain ⟨p, q, hA0, hV, rfl, hfz, hnd⟩ := hW
  have hA : DataW.TrodAll enc Try.prog W 0 (fun _ => true) true Try.f7.params.toList args.toList ds p := hA0
  rw [Try.params7] at hA hval
  obtain ⟨v0, vs0, d0, ds0, p0, q0, hargs, rfl, rfl, h0, r0⟩ := trodAll_cons hA
  obtain ⟨rfl, rfl, rfl⟩ := trodAll_nil r0
  obtain rfl : args = #[v0] := by cases args; simp_all
  obtain ⟨rfl, rfl⟩ := trodVars_none hV
  have k0 := h0
  have lt0 : ∀ x ∈ p0, x.block < W.heap.size := by obtain ⟨m, hm⟩ := k0; exact DataW.trod_lt m _ _ _ hm
  obtain ⟨a0, len0, cap0, r0', n0, x0, z0, rfl, _, wn0, wx0, w0, _, nn0⟩ := open_ends (E := 2) Try.underlying37 (by kernel_rfl) rfl rfl rfl rfl (by kernel_rfl) (by kernel_rfl) (by kernel_rfl) (by kernel_rfl) Try.underlying22 Try.underlying2 Try.underlying5 Try.underlying2 Try.underlying2 (by kernel_rfl) (hval 0 37 v0 rfl rfl) h0
  clear hA0 hval0
  refine (walk a0 len0 cap0 z0 r0' n0 x0 W w0 nn0 wn0 wx0).mono fun e W' ⟨he, bel⟩ => ?_
  subst he
  exact ⟨_, rfl, _, _, _, [], _, [], hW', trodAll_mk1 (shut_bool Try.underlying4 _), (trodAll_cons_mk (Below.trod laidOut (by kernel_rfl) (of_decide_eq_true (by kernel_rfl)) k0 bel lt0) trodAll_mk0), rfl, bel.frame _, fun h => by cases h⟩
theorem over : Rows.valueEndsRow.holds Try.pinned (OpenSpec.ofChange Rows.valueEndsSpec) :=
  OpenClaim.holds_of_wide 7 Try.f7 rfl rfl rfl rfl rfl rfl rfl ⟨rfl, rfl, rfl, rfl, rfl⟩ rfl rfl rfl rfl rfl (by kernel_rfl) Try.func7 (by kernel_rfl)
    (of_decide_eq_true (by kernel_rfl)) (by unfold Func.isWrapper; first | (rw [if_pos (by decide +kernel)]; kernel_rfl) | (rw [if_neg (by decide +kernel)]; exact ⟨rfl, rfl⟩))
    (fun os started H enc _ => lifted os started H enc)
/-- The statement. -/
theorem proved : Rows.ValueEndsSaid := over
#print axioms proved
end Go.Proofs.Ytpncdjejngkpgaa.Mn.valueEnds
namespace Go.Proofs.Ytpncdjejngkpgaa
theorem valueEnds_holds : Rows.ValueEndsSaid := Mn.valueEnds.proved
end Go.Proofs.Ytpncdjejngkpgaa
