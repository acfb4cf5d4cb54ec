/- A table's next row: bears, rowOf, and Roll's closure. -/
import Derived.Test.YtpeoabopeihadaaWTMay
set_option linter.unusedVariables false
set_option linter.unusedSimpArgs false
set_option linter.unusedSectionVars false
namespace Go.Proofs.Ytpeoabopeihadaa.Mn
open Go.RowKit
attribute [local simp] Tri.typeInfo Tri.sizeOf Tri.underlying Tri.runUnderlying Tri.isAgg Tri.zeroValue Tri.depth Tri.stoodInHeld Tri.eqGuardType Tri.call15 Tri.call22 Tri.call23 Tri.call24 Tri.call25 Tri.call46 Tri.call49 Tri.call52 Tri.call54 Tri.call58 Tri.call59 Tri.call60 Tri.call61 Tri.call62 Tri.call63 Tri.call64 Tri.call65 Tri.call66 Tri.call67 Tri.call95 Tri.call106 Tri.call115 Tri.call116 Tri.call117 Tri.call118 Tri.call119 Tri.call120 Tri.call121 Tri.call122 Tri.call142 Tri.call143 Tri.call144 Tri.call145 Tri.call146 Tri.call147 Tri.call156 Tri.call157 Tri.call159 Tri.call160 Tri.call161 Tri.call162 Tri.call163 Tri.call164 Tri.call165 Tri.call175 Tri.call176 Tri.call186 Tri.call188 Tri.call205
theorem below1 (w : World) (o : Obj) : Below w.heap.size w (w.alloc o) := (Below.refl _ _).alloc (Nat.le_refl _) _
def BearA (x p r : Int) (last : Bool) (n e : Int) : Prop := ∀ w : World, Calls (Tri Try.prog) 63 #[.int .i64 x, .int .i64 p, .int .i64 r, .bool last] w fun z w' => z = .returned (.tuple #[.int .i64 n, .int .i64 e]) ∧ Below w.heap.size w w'
theorem bear_last {x p r : Int} (hx : In64 x) (hp : In64 p) : BearA x p r true (okN (p - x)) (okE (p - x)) := by
  intro w
  have H := hide (sub_any p x hp hx)
  clear hx hp
  go_enter (Tri.at (by decide) Try.func63), Try.ntmps63
  go_wp2_with fail
  refine (unhide H _).mono ?_
  rintro e w1 ⟨rfl, rfl⟩
  go_wp2_with fail
  go_ret2
  exact ⟨rfl, Below.refl _ _⟩
theorem bear_mid {x p r : Int} (hx : In64 x) (hr : May r) : BearA x p r false (okN (qI x r)) (okE (qI x r)) := by
  intro w
  have H := hide (interest_ok hx hr)
  unfold Ans at H
  clear hx hr
  go_enter (Tri.at (by decide) Try.func63), Try.ntmps63
  go_wp2_with fail
  refine (unhide H _).mono ?_
  rintro e w1 ⟨rfl, hb⟩
  go_wp2_with fail
  go_ret2
  exact ⟨rfl, hb⟩
theorem bear_any {x p r : Int} (hx : In64 x) (hp : In64 p) (hr : May r) (last : Bool) : BearA x p r last (okN (tI r last x p)) (okE (tI r last x p)) := by
  unfold tI
  cases last with
  | true => exact bear_last hx hp
  | false => exact bear_mid hx hr
abbrev rowV (a b c d : Int) : Value := .agg #[.int .i64 a, .int .i64 b, .int .i64 c, .int .i64 d]
def RowA (f : Nat) (args : Array Value) (w : World) (v : Value) (e : Int) : Prop := Calls (Tri Try.prog) f args w fun z w' => z = .returned (.tuple #[v, .int .i64 e]) ∧ Below w.heap.size w w'
theorem sum3 {a b c : Int} (ha : In64 a) (hb : In64 b) (hc : In64 c) (w : World) : Calls (Tri Try.prog) 115 #[.slice (some ⟨w.heap.size, 0, none⟩) 3 3] (w.alloc (.cells #[.int .i64 a, .int .i64 b, .int .i64 c] 2)) fun e w' => e = .returned (.tuple #[.int .i64 (okN (a + b + c)), .int .i64 (okE (a + b + c))]) ∧ w.alloc (.cells #[.int .i64 a, .int .i64 b, .int .i64 c] 2) = w' := by
  have h := tsum_any (.slice (some ⟨w.heap.size, 0, none⟩) 3 3) [a, b, c] (w.alloc (.cells #[.int .i64 a, .int .i64 b, .int .i64 c] 2)) (Or.inr ⟨w.heap.size, 0, 3, rfl, by simp, by simp [maxLen], fun j hj => by
    rw [World.cell?_alloc_at _ _ _ _ rfl]
    match j, hj with
    | 0, _ => rfl
    | 1, _ => rfl
    | 2, _ => rfl, fun z hz => by
      simp at hz
      rcases hz with rfl | rfl | rfl
      · exact ha
      · exact hb
      · exact hc⟩)
  have e : total [a, b, c] = a + b + c := by simp only [total]; omega
  rwa [e] at h
theorem row_out {x i p : Int} (hx : In64 x) (hi : In64 i) (hp0 : 0 ≤ p) (hp1 : p ≤ 10000000000000) (h : ¬ In64 (x + i + -p)) (w : World) : RowA 64 #[.int .i64 x, .int .i64 i, .int .i64 p] w (rowV 0 0 0 0) 3 := by
  unfold RowA
  have H := hide (sum3 hx hi (show In64 (-p) from ⟨by omega, by omega⟩) (w.alloc (.cells #[.int .i64 0, .int .i64 0, .int .i64 0, .int .i64 0] 49)))
  rw [show (w.alloc (.cells #[.int .i64 0, .int .i64 0, .int .i64 0, .int .i64 0] 49)).heap.size = w.heap.size + 1 from by simp] at H
  have ht : ¬ turn (x + i + -p) = 0 := fun c => h (in_of_turn c)
  rw [okN_out ht, okE_out ht] at H
  have t : ((3 : Int) != 0) = true := rfl
  clear h hx hi ht
  generalize x + i + -p = s at *
  go_enter (Tri.at (by decide) Try.func64), Try.ntmps64
  go_wp2_with fail
  refine (unhide H).mono ?_
  rintro e w1 ⟨rfl, rfl⟩
  go_wp2_with fail
  refine bodyPost_ret (v := .tuple #[(rowV 0 0 0 0), .int .i64 3]) (by simp [results, Try.results64, go_sem]) rfl ⟨rfl, (below1 w _).alloc (by simp) _⟩
theorem row_lo {x i p : Int} (hx : In64 x) (hi : In64 i) (hp0 : 0 ≤ p) (hp1 : p ≤ 10000000000000) (h : In64 (x + i + -p)) (h1 : x + i + -p < -4611686018427387904) (w : World) : RowA 64 #[.int .i64 x, .int .i64 i, .int .i64 p] w (rowV 0 0 0 0) 3 := by
  unfold RowA
  have H := hide (sum3 hx hi (show In64 (-p) from ⟨by omega, by omega⟩) (w.alloc (.cells #[.int .i64 0, .int .i64 0, .int .i64 0, .int .i64 0] 49)))
  rw [show (w.alloc (.cells #[.int .i64 0, .int .i64 0, .int .i64 0, .int .i64 0] 49)).heap.size = w.heap.size + 1 from by simp] at H
  rw [okN_in (turn_in h), okE_in (turn_in h)] at H
  have t : ((0 : Int) != 0) = false := rfl
  have d1 : decide (x + i + -p < -4611686018427387904) = true := decide_eq_true h1
  clear h hx hi h1
  generalize x + i + -p = s at *
  go_enter (Tri.at (by decide) Try.func64), Try.ntmps64
  go_wp2_with fail
  refine (unhide H).mono ?_
  rintro e w1 ⟨rfl, rfl⟩
  go_wp2_with fail
  refine bodyPost_ret (v := .tuple #[(rowV 0 0 0 0), .int .i64 3]) (by simp [results, Try.results64, go_sem]) rfl ⟨rfl, (below1 w _).alloc (by simp) _⟩
theorem row_hi {x i p : Int} (hx : In64 x) (hi : In64 i) (hp0 : 0 ≤ p) (hp1 : p ≤ 10000000000000) (h : In64 (x + i + -p)) (h1 : 4611686018427387904 < x + i + -p) (w : World) : RowA 64 #[.int .i64 x, .int .i64 i, .int .i64 p] w (rowV 0 0 0 0) 3 := by
  unfold RowA
  have H := hide (sum3 hx hi (show In64 (-p) from ⟨by omega, by omega⟩) (w.alloc (.cells #[.int .i64 0, .int .i64 0, .int .i64 0, .int .i64 0] 49)))
  rw [show (w.alloc (.cells #[.int .i64 0, .int .i64 0, .int .i64 0, .int .i64 0] 49)).heap.size = w.heap.size + 1 from by simp] at H
  rw [okN_in (turn_in h), okE_in (turn_in h)] at H
  have t : ((0 : Int) != 0) = false := rfl
  have d1 : decide (x + i + -p < -4611686018427387904) = false := decide_eq_false (by omega)
  have d2 : decide (4611686018427387904 < x + i + -p) = true := decide_eq_true h1
  clear h hx hi h1
  generalize x + i + -p = s at *
  go_enter (Tri.at (by decide) Try.func64), Try.ntmps64
  go_wp2_with fail
  refine (unhide H).mono ?_
  rintro e w1 ⟨rfl, rfl⟩
  go_wp2_with fail
  refine bodyPost_ret (v := .tuple #[(rowV 0 0 0 0), .int .i64 3]) (by simp [results, Try.results64, go_sem]) rfl ⟨rfl, (below1 w _).alloc (by simp) _⟩
theorem row_ok {x i p : Int} (hx : In64 x) (hi : In64 i) (hp0 : 0 ≤ p) (hp1 : p ≤ 10000000000000) (h : In64 (x + i + -p)) (h1 : -4611686018427387904 ≤ x + i + -p) (h2 : x + i + -p ≤ 4611686018427387904) (w : World) : RowA 64 #[.int .i64 x, .int .i64 i, .int .i64 p] w (rowV x i p (x + i + -p)) 0 := by
  unfold RowA
  have H := hide (sum3 hx hi (show In64 (-p) from ⟨by omega, by omega⟩) (w.alloc (.cells #[.int .i64 0, .int .i64 0, .int .i64 0, .int .i64 0] 49)))
  rw [show (w.alloc (.cells #[.int .i64 0, .int .i64 0, .int .i64 0, .int .i64 0] 49)).heap.size = w.heap.size + 1 from by simp] at H
  rw [okN_in (turn_in h), okE_in (turn_in h)] at H
  have t : ((0 : Int) != 0) = false := rfl
  have d1 : decide (x + i + -p < -4611686018427387904) = false := decide_eq_false (by omega)
  have d2 : decide (4611686018427387904 < x + i + -p) = false := decide_eq_false (by omega)
  clear h hx hi h1 h2
  generalize x + i + -p = s at *
  go_enter (Tri.at (by decide) Try.func64), Try.ntmps64
  go_wp2_with fail
  refine (unhide H).mono ?_
  rintro e w1 ⟨rfl, rfl⟩
  go_wp2_with fail
  refine bodyPost_ret (v := .tuple #[(rowV x i p s), .int .i64 0]) (by simp [results, Try.results64, go_sem]) rfl ⟨rfl, (below1 w _).alloc (by simp) _⟩
def R4 (w : World) (g : Nat) (T : TypeId) (a b c d : Int) : Prop := w.heap[g]? = some (.cells #[.int .i64 a, .int .i64 b, .int .i64 c, .int .i64 d] T (0, 0))
section
variable {w w' : World} {g : Nat} {T : TypeId} {a b c d : Int}
theorem R4.c0 (h : R4 w g T a b c d) : w.cell? ⟨g, 0, none⟩ = some (.int .i64 a) := by rw [cell_of_row w g 0 _ _ _ h]; rfl
theorem R4.c1 (h : R4 w g T a b c d) : w.cell? ⟨g, 1, none⟩ = some (.int .i64 b) := by rw [cell_of_row w g 1 _ _ _ h]; rfl
theorem R4.c2 (h : R4 w g T a b c d) : w.cell? ⟨g, 2, none⟩ = some (.int .i64 c) := by rw [cell_of_row w g 2 _ _ _ h]; rfl
theorem R4.c3 (h : R4 w g T a b c d) : w.cell? ⟨g, 3, none⟩ = some (.int .i64 d) := by rw [cell_of_row w g 3 _ _ _ h]; rfl
theorem R4.fz (h : R4 w g T a b c d) (j : Nat) : w.frozen? ⟨g, j, none⟩ = false := frozen_of_row w g j _ _ h
theorem R4.lt (h : R4 w g T a b c d) : g < w.heap.size := (Array.getElem?_eq_some_iff.1 h).1
theorem R4.keep (h : R4 w g T a b c d) (hb : Below w.heap.size w w') : R4 w' g T a b c d := (hb.block g h.lt).trans h
theorem R4.new (w : World) (T : TypeId) (a b c d : Int) : R4 (w.alloc (.cells #[.int .i64 a, .int .i64 b, .int .i64 c, .int .i64 d] T)) w.heap.size T a b c d := heap_alloc_new w _
theorem R4.alloc (h : R4 w g T a b c d) (o : Obj) : R4 (w.alloc o) g T a b c d := h.keep (below1 _ _)
end
abbrev put4 (w : World) (g o : Nat) (a b c d : Int) : World := (((w.setCell ⟨g, o, none⟩ (.int .i64 a)).setCell ⟨g, o + 1, none⟩ (.int .i64 b)).setCell ⟨g, o + 2, none⟩ (.int .i64 c)).setCell ⟨g, o + 3, none⟩ (.int .i64 d)
theorem below_put4 {B : Nat} {w0 w : World} {g o : Nat} {a b c d : Int} (h : Below B w0 w) (hg : B ≤ g) : Below B w0 (put4 w g o a b c d) :=
  (((h.setCell hg _).setCell hg _).setCell hg _).setCell hg _
theorem R4.put {w : World} {g : Nat} {T : TypeId} {a b c d : Int} (h : R4 w g T a b c d) (a' b' c' d' : Int) : R4 (put4 w g 0 a' b' c' d') g T a' b' c' d' := by
  have h0 : R4 (w.setCell ⟨g, 0, none⟩ (.int .i64 a')) g T a' b c d := by unfold R4; rw [Go.heap_setCell_same w g 0 _ _ _ h]; rfl
  have h1 : R4 ((w.setCell ⟨g, 0, none⟩ (.int .i64 a')).setCell ⟨g, 1, none⟩ (.int .i64 b')) g T a' b' c d := by unfold R4; rw [Go.heap_setCell_same _ g 1 _ _ _ h0]; rfl
  have h2 : R4 (((w.setCell ⟨g, 0, none⟩ (.int .i64 a')).setCell ⟨g, 1, none⟩ (.int .i64 b')).setCell ⟨g, 2, none⟩ (.int .i64 c')) g T a' b' c' d := by unfold R4; rw [Go.heap_setCell_same _ g 2 _ _ _ h1]; rfl
  exact (Go.heap_setCell_same _ g 3 _ _ _ h2).trans rfl
theorem blk_put4 {w : World} {g k o : Nat} {a b c d : Int} (h : k ≠ g) : (put4 w g o a b c d).heap[k]? = w.heap[k]? := by
  rw [Go.heap_setCell_other _ ⟨g, o + 3, none⟩ _ _ h, Go.heap_setCell_other _ ⟨g, o + 2, none⟩ _ _ h, Go.heap_setCell_other _ ⟨g, o + 1, none⟩ _ _ h, Go.heap_setCell_other _ ⟨g, o, none⟩ _ _ h]
theorem R4.other {w : World} {g k o : Nat} {T : TypeId} {a b c d : Int} (h : R4 w k T a b c d) (hne : k ≠ g) (a' b' c' d' : Int) : R4 (put4 w g o a' b' c' d') k T a b c d := (blk_put4 hne).trans h
def NextA (x p r : Int) (last : Bool) (v : Value) (e : Int) : Prop := ∀ (w : World) (a b c : Int) (br : Nat), w.cell? ⟨br, 0, none⟩ = some (.int .i64 r) → Calls (Tri Try.prog) 62 #[rowV a b c x, .int .i64 p, .bool last, .pointer (some ⟨br, 0, none⟩)] w fun z w' => z = .returned (.tuple #[v, .int .i64 e]) ∧ Below w.heap.size w w'
theorem next_no {x p r : Int} {last : Bool} (h : BearA x p r last 0 3) : NextA x p r last (rowV 0 0 0 0) 3 := by
  intro w a b c br hc
  have hlt := lt_of_cell hc
  have H := hide h
  unfold BearA at H
  have HR := hide (R4.new (w.alloc (.cells #[.int .i64 a, .int .i64 b, .int .i64 c, .int .i64 x] 49)) 49 0 0 0 0)
  rw [show (w.alloc (.cells #[.int .i64 a, .int .i64 b, .int .i64 c, .int .i64 x] 49)).heap.size = w.heap.size + 1 from by simp] at HR
  have HB := hide ((below1 w (.cells #[.int .i64 a, .int .i64 b, .int .i64 c, .int .i64 x] 49)).alloc (by simp) (.cells #[.int .i64 0, .int .i64 0, .int .i64 0, .int .i64 0] 49))
  have t : ((3 : Int) != 0) = true := rfl
  clear h
  go_enter (Tri.at (by decide) Try.func62), Try.ntmps62
  go_wp2_with fail
  refine (unhide H _).mono ?_
  rintro e w1 ⟨rfl, hb⟩
  replace HR := hide ((unhide HR).keep hb)
  replace HB := hide (below_via (unhide HB) hb)
  have k0 := (unhide HR).c0
  have k1 := (unhide HR).c1
  have k2 := (unhide HR).c2
  have k3 := (unhide HR).c3
  have z0 := (unhide HR).fz 0
  have z1 := (unhide HR).fz 1
  have z2 := (unhide HR).fz 2
  have z3 := (unhide HR).fz 3
  clear hb
  go_wp2_with fail
  refine bodyPost_ret (v := .tuple #[rowV 0 0 0 0, .int .i64 3]) (by
    have HP := (unhide HR).put 0 0 0 0
    simp [results, Try.results62, go_sem, HP.c0, HP.c1, HP.c2, HP.c3]) rfl ⟨rfl, below_put4 (unhide HB) (by omega)⟩
theorem next_on {x p r i v0 v1 v2 v3 e : Int} {last : Bool} (h : BearA x p r last i 0) (hr : ∀ w, RowA 64 #[.int .i64 x, .int .i64 i, .int .i64 p] w (rowV v0 v1 v2 v3) e) : NextA x p r last (rowV v0 v1 v2 v3) e := by
  intro w a b c br hc
  have hlt := lt_of_cell hc
  have H := hide h
  have H2 := hide hr
  unfold BearA at H
  unfold RowA at H2
  have HR := hide (R4.new (w.alloc (.cells #[.int .i64 a, .int .i64 b, .int .i64 c, .int .i64 x] 49)) 49 0 0 0 0)
  rw [show (w.alloc (.cells #[.int .i64 a, .int .i64 b, .int .i64 c, .int .i64 x] 49)).heap.size = w.heap.size + 1 from by simp] at HR
  have HB := hide ((below1 w (.cells #[.int .i64 a, .int .i64 b, .int .i64 c, .int .i64 x] 49)).alloc (by simp) (.cells #[.int .i64 0, .int .i64 0, .int .i64 0, .int .i64 0] 49))
  have HX := hide ((R4.new w 49 a b c x).alloc (.cells #[.int .i64 0, .int .i64 0, .int .i64 0, .int .i64 0] 49))
  have t : ((0 : Int) != 0) = false := rfl
  clear h hr
  go_enter (Tri.at (by decide) Try.func62), Try.ntmps62
  go_wp2_with fail
  refine (unhide H _).mono ?_
  rintro e1 w1 ⟨rfl, hb⟩
  replace HR := hide ((unhide HR).keep hb)
  replace HX := hide ((unhide HX).keep hb)
  replace HB := hide (below_via (unhide HB) hb)
  have x3 := (unhide HX).c3
  clear hb
  go_wp2_with fail
  refine (unhide H2 _).mono ?_
  rintro e1 w2 ⟨rfl, hb⟩
  replace HR := hide ((unhide HR).keep hb)
  replace HB := hide (below_via (unhide HB) hb)
  have k0 := (unhide HR).c0
  have k1 := (unhide HR).c1
  have k2 := (unhide HR).c2
  have k3 := (unhide HR).c3
  have z0 := (unhide HR).fz 0
  have z1 := (unhide HR).fz 1
  have z2 := (unhide HR).fz 2
  have z3 := (unhide HR).fz 3
  clear hb x3
  go_wp2_with fail
  refine bodyPost_ret (v := .tuple #[rowV v0 v1 v2 v3, .int .i64 e]) (by
    have HP := (unhide HR).put v0 v1 v2 v3
    simp [results, Try.results62, go_sem, HP.c0, HP.c1, HP.c2, HP.c3]) rfl ⟨rfl, below_put4 (unhide HB) (by omega)⟩
theorem next_fine {o r : Int} {l : List Int} {k : Nat} (hk : RollOk o l r) (ho : ∀ j, j < k + 1 → ¬ over o r l j) : NextA (st o r l k) (l.getD k 0) r (isLast l k) (rowV (st o r l k) (inr o r l k) (l.getD k 0) (st o r l (k + 1))) 0 := by
  have h1 := st_bd hk k (fun j hj => ho j (by omega))
  have h2 := hk.at k
  have h3 := ho k (by omega)
  have hi := inr_in h3
  have h4 := st_next h3
  have hx : In64 (st o r l k) := ⟨by omega, by omega⟩
  have hb := bear_any (p := l.getD k 0) hx ⟨by omega, by omega⟩ hk.may (isLast l k)
  have hi' : In64 (tI r (isLast l k) (st o r l k) (l.getD k 0)) := hi
  rw [okN_in (turn_in hi'), okE_in (turn_in hi')] at hb
  have e : st o r l (k + 1) = st o r l k + inr o r l k + -l.getD k 0 := by rw [st_succ]; omega
  rw [e] at h4 ⊢
  exact next_on hb (fun w => row_ok hx hi h2.1 h2.2 ⟨by omega, by omega⟩ h4.1 h4.2 w)
theorem next_over {o r : Int} {l : List Int} {k : Nat} (hk : RollOk o l r) (ho : ∀ j, j < k → ¬ over o r l j) (hv : over o r l k) : NextA (st o r l k) (l.getD k 0) r (isLast l k) (rowV 0 0 0 0) 3 := by
  have h1 := st_bd hk k ho
  have h2 := hk.at k
  have hx : In64 (st o r l k) := ⟨by omega, by omega⟩
  have hb := bear_any (p := l.getD k 0) hx ⟨by omega, by omega⟩ hk.may (isLast l k)
  by_cases hi : In64 (inr o r l k)
  · have hi' : In64 (tI r (isLast l k) (st o r l k) (l.getD k 0)) := hi
    rw [okN_in (turn_in hi'), okE_in (turn_in hi')] at hb
    have hf : far (st o r l (k + 1)) := by
      rcases hv with c | c
      · exact absurd hi c
      · exact c
    have e : st o r l (k + 1) = st o r l k + inr o r l k + -l.getD k 0 := by rw [st_succ]; omega
    rw [e] at hf
    refine next_on hb (fun w => ?_)
    by_cases hn : In64 (st o r l k + inr o r l k + -l.getD k 0)
    · rcases hf with c | c
      · exact row_lo hx hi h2.1 h2.2 hn c w
      · exact row_hi hx hi h2.1 h2.2 hn c w
    · exact row_out hx hi h2.1 h2.2 hn w
  · have ht : ¬ turn (tI r (isLast l k) (st o r l k) (l.getD k 0)) = 0 := fun c => hi (in_of_turn c)
    rw [okN_out ht, okE_out ht] at hb
    exact next_no hb
end Go.Proofs.Ytpeoabopeihadaa.Mn
