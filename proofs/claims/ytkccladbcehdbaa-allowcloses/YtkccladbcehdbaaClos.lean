/- Proved here: AllowCloses: if the stages begin with what all loans had, they end with what all have; nothing moves, where nothing changed. No condition. -/
import Derived.Test.YtkccladbcehdbaaAl
import Derived.Test.YtkccladbcehdbaaAr
import Derived.Test.YtkccladbcehdbaaEq
import Derived.Test.YtkccladbcehdbaaRb
import Derived.Test.YtkccladbcehdbaaCp
import Derived.Test.YtkccladbcehdbaaCr
import Derived.Deep.RegionHeld
import Derived.Deep.Cut
import Derived.Deep.CutRange
import Derived.BigQuiet
import Derived.Deep.QuietTactic
namespace Go.Proofs.Ytkccladbcehdbaa.allowCloses
open Go.ChangeShapes Go.WideShapes Go.ChangeAt Go.RowKit
set_option linter.unusedVariables false
set_option linter.unusedSimpArgs false
theorem anyH_at {P : Program} {md : Region.Mode} {ops : Array Oper} {Q : Exit → Act → World → Prop} {S : World → Prop} {i : Nat} {oi : Oper} {v : Value} {fuel : Nat} {listed : Array Bool} {a : Act} {w : World} (d : Nat) (hi : ops[i]? = some oi) (hd : oi.dst = some d)
    (hs : Region.noSelect ops = true) (hf : Region.free md ops listed i = true) (hr : (Region.ready md ops listed).contains i = true)
    (hQ : ∀ c a w, Q (.panic c) (a.put (some d) v) w → Q (.panic c) a w) (hy : YieldsIf P ops S oi v a) (hS : S w)
    (h : wpAnyH P md ops Q S fuel (listed.setIfInBounds i true) (a.put (some d) v) w) : wpAnyH P md ops Q S (fuel + 1) listed a w := by
  rw [← hd] at h
  exact wpAnyH_take hi hs hf hr (by rw [hd]; exact hQ) hy hS h
theorem mapS_take (l : List Ch) {k : Nat} (h : k < l.length) : ((l.take k).map fun c => chL (stillC c)) ++ [chL (stillC (chA l k))] = (l.take (k + 1)).map fun c => chL (stillC c) := by
  rw [← take_getD (d := ⟨0, 0, 0, 0, 0⟩) h, List.map_append]
  rfl
theorem rowG_grown {m : Nat} {W W' : World} {x : Option Addr} {n c g : Nat} {r : Option Nat} {l : List (List Value)} (h : RowG m W (.slice x n c) l) (k : W.grownBy W' r) (hf : ∀ y, x = some y → 0 < n → y.block < g) (hr : ∀ j, r = some j → g ≤ j) : RowG m W' (.slice x n c) l := by
  rcases h with h | ⟨b, off, cap, h1, h2, h3, h4, h5, h6⟩
  · exact Or.inl h
  · refine Or.inr ⟨b, off, cap, h1, h2, h3, h4, fun j hj t ht => ?_, h6⟩
    injection h1 with e1 e2 e3
    have hb : b < g := hf _ e1 (by omega)
    exact k.cell (h5 j hj t ht) (fun e => Nat.lt_irrefl b (Nat.lt_of_lt_of_le hb (hr b e.symm)))
theorem blk_grown {W W' : World} {b g : Nat} {r : Option Nat} {cs : Array Value} {T : TypeId} (h : Blk W b cs T) (k : W.grownBy W' r) (hb : b < g) (hr : ∀ j, r = some j → g ≤ j) : Blk W' b cs T := (k.block b h.lt (fun e => by have := hr b e.symm; omega)).trans h
theorem below_drewN {B : Nat} {w wr : World} (h : Below B w wr) (n : Nat) : Below B w (wr.drewN n) := h.trans ⟨rfl, rfl, rfl, Nat.le_refl _, fun _ _ => rfl⟩
theorem bd26c (a b : Int) (w : World) : Sem.run Try.prog (Instr.build 26 #[(0, .int .i64 a), (5, .int .i64 b)]) w = .ok (.agg #[.int .i64 a, .int .i64 0, .int .i64 0, .int .i64 0, .int .i64 0, .int .i64 b]) w := by kernel_rfl
theorem past_one (w : World) (b k : Nat) (v : Value) : Past w (w.setCell ⟨b, k, none⟩ v) b := past_setCells [v] k w
theorem s_long (x : Option Addr) (n cap : Nat) (d1 : decide ((300 : Int) < (n : Int)) = true) (hal : Hid Alive) (w : World) : Calls Try.prog 6 #[.slice x n cap] w fun e w' => e = .returned (.bool true) ∧ Below w.heap.size w w' := by
  go_enter Try.func6, Try.ntmps6
  go_wp2_with fail
  refine (unhide hal _).mono ?_
  rintro e w1 ⟨rfl, hb⟩
  replace hb := hide hb
  go_wp2_with fail
  go_ret
  exact ⟨rfl, unhide hb⟩
set_option maxHeartbeats 32000000 in
set_option maxRecDepth 20000 in
theorem s_ok (x : Option Addr) (n cap : Nat) (l : List Ch) (d1 : decide ((300 : Int) < (n : Int)) = false) (hn : n ≤ 300) (hl : Hid (l.length = n)) (hal : Hid Alive) (w : World) (hR : Hid (RowG 5 w (.slice x n cap) (l.map chL))) (hf0 : Hid (∀ y, x = some y → 0 < n → y.block < w.heap.size)) : Calls Try.prog 6 #[.slice x n cap] w fun e w' => e = .returned (.bool true) ∧ Below w.heap.size w w' := by
  go_enter Try.func6, Try.ntmps6
  go_wp2_with fail
  refine (unhide hal _).mono ?_
  rintro e w1 ⟨rfl, hb⟩
  have hsz := hide hb.size
  have HB : Hid (Below w.heap.size w ((w1.alloc (.cells #[.int .i64 0, .int .i64 0, .int .i64 0] 22)).alloc (.cells #[.int .i64 0, .int .i64 0, .int .i64 0] 22))) := hide (below_via hb (below_via (below1 w1 _) (below1 _ _)))
  have HU : Hid (RowG 5 ((w1.alloc (.cells #[.int .i64 0, .int .i64 0, .int .i64 0] 22)).alloc (.cells #[.int .i64 0, .int .i64 0, .int .i64 0] 22)) (.slice x n cap) (l.map chL)) := hide ((((show RowG _ _ _ _ from unhide hR).keep hb).alloc _).alloc _)
  have HO : Hid (O3 ((w1.alloc (.cells #[.int .i64 0, .int .i64 0, .int .i64 0] 22)).alloc (.cells #[.int .i64 0, .int .i64 0, .int .i64 0] 22)) w1.heap.size (hadG l 0)) := hide (show Blk _ _ #[.int .i64 0, .int .i64 0, .int .i64 0] 22 from (Blk.new w1 #[.int .i64 0, .int .i64 0, .int .i64 0] 22).alloc _)
  have HW : Hid (O3 ((w1.alloc (.cells #[.int .i64 0, .int .i64 0, .int .i64 0] 22)).alloc (.cells #[.int .i64 0, .int .i64 0, .int .i64 0] 22)) (w1.heap.size + 1) (hasG l 0)) := hide (show Blk _ _ #[.int .i64 0, .int .i64 0, .int .i64 0] 22 by have := Blk.new (w1.alloc (.cells #[.int .i64 0, .int .i64 0, .int .i64 0] 22)) #[.int .i64 0, .int .i64 0, .int .i64 0] 22; simpa using this)
  have hW2 : Hid (((w1.alloc (.cells #[.int .i64 0, .int .i64 0, .int .i64 0] 22)).alloc (.cells #[.int .i64 0, .int .i64 0, .int .i64 0] 22)).heap.size = w1.heap.size + 2) := hide (by simp)
  have HG : Hid (OwnG (w1.heap.size + 2) ((w1.alloc (.cells #[.int .i64 0, .int .i64 0, .int .i64 0] 22)).alloc (.cells #[.int .i64 0, .int .i64 0, .int .i64 0] 22)) (.slice none 0 0) []) := hide ⟨World.ownsRow_nil _ _ _ _, fun f hf => by cases hf⟩
  clear hb hR hal
  go_wp2_with fail
  generalize (w1.alloc (.cells #[.int .i64 0, .int .i64 0, .int .i64 0] 22)).alloc (.cells #[.int .i64 0, .int .i64 0, .int .i64 0] 22) = U0 at *
  have hob : Hid (w.heap.size ≤ w1.heap.size) := hsz
  have HF : Hid (∀ y, x = some y → 0 < n → y.block < w1.heap.size) := hide (fun y e h => by have := unhide hf0 y e h; have := unhide hsz; omega)
  clear hf0 hsz
  generalize w1.heap.size = ob at *
  have HT := hide (fun k => all_take (l := l) (k := k))
  have HMT := hide (fun k => mapS_take l (k := k))
  have HHN := hide (fun k j => hadG_next (l := l) (k := k) (j := j))
  have HSN := hide (fun k j => hasG_next (l := l) (k := k) (j := j))
  go_loopw [5, 20] (fun v i wr => ∃ k : Nat, k ≤ n ∧ i = .int .i64 k ∧ Hid (O3 wr ob (hadG l k)) ∧ Hid (O3 wr (ob + 1) (hasG l k)) ∧ Hid (Below w.heap.size w wr) ∧ Hid (RowG 5 wr (.slice x n cap) (l.map chL)) ∧ Hid (OwnG (ob + 2) wr v ((l.take k).map fun c => chL (stillC c))) ∧ Hid ((l.take k).all okC = true) ∧ Hid (ob + 2 ≤ wr.heap.size)) (fun _ i _ => n - (intOf i).toNat)
  case atStart => exact ⟨0, by omega, rfl, HO, HW, HB, HU, HG, hide rfl, hide (by have := unhide hW2; omega)⟩
  case round =>
    clear HO HW HB HU HG hW2
    obtain ⟨k, hk, rfl, HO, HW, HB, HU, HG, HK, HZ⟩ := hrel
    by_cases hlt : k < n
    · have hU2 : RowG 5 wr (.slice x n cap) (l.map chL) := unhide HU
      have hpos : 0 < (l.map chL).length := by rw [List.length_map, unhide hl]; exact Nat.lt_of_le_of_lt (Nat.zero_le k) hlt
      obtain ⟨bb, off, cap', hx, _, _⟩ := hU2.open hpos
      injection hx with hx1 hx2 hx3
      subst hx1
      obtain ⟨m0, m1, m2, m3, m4⟩ := hU2.ch (k := k) (by rw [unhide hl]; exact hlt)
      clear hU2 hpos
      have k1 : (k : Int) < (n : Int) := by omega
      have hk' : k < l.length := by rw [unhide hl]; exact hlt
      have HBx := hide (below_via (unhide HB) (below1 wr (.cells #[.int .i64 (chA l k).fr, .int .i64 (chA l k).to, .int .i64 (chA l k).was, .int .i64 (chA l k).now, .int .i64 (chA l k).wr] 47)))
      have HC := hide (Blk.new wr #[.int .i64 (chA l k).fr, .int .i64 (chA l k).to, .int .i64 (chA l k).was, .int .i64 (chA l k).now, .int .i64 (chA l k).wr] 47)
      have ht := hide (unhide HT k hk')
      have hmt : Hid (((l.take k).map fun c => chL (stillC c)) ++ [[.int .i64 (chA l k).fr, .int .i64 (chA l k).fr, .int .i64 (chA l k).was, .int .i64 (chA l k).was, .int .i64 0]] = (l.take (k + 1)).map fun c => chL (stillC c)) := hide (unhide HMT k hk')
      have hhn := hide (fun j => unhide HHN k j hk')
      have hsn := hide (fun j => unhide HSN k j hk')
      have hqq : Hid ((1 ≤ (chA l k).fr ∧ (chA l k).fr ≤ 3) → (1 ≤ (chA l k).to ∧ (chA l k).to ≤ 3) → (0 ≤ (chA l k).was ∧ (chA l k).was ≤ 562949953421312) → (0 ≤ (chA l k).now ∧ (chA l k).now ≤ 562949953421312) → (0 ≤ (chA l k).wr ∧ (chA l k).wr ≤ 562949953421312) → okC (chA l k) = true) := hide (fun h1 h2 h3 h4 h5 => okC_iff.2 ⟨h1, h2, h3, h4, h5⟩)
      have hbd : Hid ((l.take k).all okC = true → (∀ j, 0 ≤ hadG l k j ∧ hadG l k j ≤ 1152921504606846976) ∧ (∀ j, 0 ≤ hasG l k j ∧ hasG l k j ≤ 1152921504606846976)) := hide (fun h => ⟨fun j => by have := hadS_bd (allOk_of h) ((j : Int) + 1); rw [List.length_take] at this; unfold hadG; omega, fun j => by have := hasS_bd (allOk_of h) ((j : Int) + 1); rw [List.length_take] at this; unfold hasG; omega⟩)
      generalize okC (chA l k) = qk at *
      generalize (chA l k).fr = f at *
      generalize (chA l k).to = t at *
      generalize (chA l k).was = y0 at *
      generalize (chA l k).now = y1 at *
      generalize (chA l k).wr = y2 at *
      clear hx2 hx3 hk'
      by_cases p0 : f < 1
      · have q0 : decide (f < 1) = true := decide_eq_true p0
        clear p0 ht hmt hhn hsn hqq hbd HO HW HB HU HG HC HK HZ
        go_wp2_with fail
        go_ret
        exact ⟨rfl, unhide HBx⟩
      have q0 : decide (f < 1) = false := decide_eq_false p0
      by_cases p1 : 3 < f
      · have q1 : decide (3 < f) = true := decide_eq_true p1
        clear p1 ht hmt hhn hsn hqq hbd HO HW HB HU HG HC HK HZ
        go_wp2_with fail
        go_ret
        exact ⟨rfl, unhide HBx⟩
      have q1 : decide (3 < f) = false := decide_eq_false p1
      by_cases p2 : t < 1
      · have q2 : decide (t < 1) = true := decide_eq_true p2
        clear p2 ht hmt hhn hsn hqq hbd HO HW HB HU HG HC HK HZ
        go_wp2_with fail
        go_ret
        exact ⟨rfl, unhide HBx⟩
      have q2 : decide (t < 1) = false := decide_eq_false p2
      by_cases p3 : 3 < t
      · have q3 : decide (3 < t) = true := decide_eq_true p3
        clear p3 ht hmt hhn hsn hqq hbd HO HW HB HU HG HC HK HZ
        go_wp2_with fail
        go_ret
        exact ⟨rfl, unhide HBx⟩
      have q3 : decide (3 < t) = false := decide_eq_false p3
      by_cases p4 : y0 < 0
      · have q4 : decide (y0 < 0) = true := decide_eq_true p4
        clear p4 ht hmt hhn hsn hqq hbd HO HW HB HU HG HC HK HZ
        go_wp2_with fail
        go_ret
        exact ⟨rfl, unhide HBx⟩
      have q4 : decide (y0 < 0) = false := decide_eq_false p4
      by_cases p5 : 562949953421312 < y0
      · have q5 : decide (562949953421312 < y0) = true := decide_eq_true p5
        clear p5 ht hmt hhn hsn hqq hbd HO HW HB HU HG HC HK HZ
        go_wp2_with fail
        go_ret
        exact ⟨rfl, unhide HBx⟩
      have q5 : decide (562949953421312 < y0) = false := decide_eq_false p5
      by_cases p6 : y1 < 0
      · have q6 : decide (y1 < 0) = true := decide_eq_true p6
        clear p6 ht hmt hhn hsn hqq hbd HO HW HB HU HG HC HK HZ
        go_wp2_with fail
        go_ret
        exact ⟨rfl, unhide HBx⟩
      have q6 : decide (y1 < 0) = false := decide_eq_false p6
      by_cases p7 : 562949953421312 < y1
      · have q7 : decide (562949953421312 < y1) = true := decide_eq_true p7
        clear p7 ht hmt hhn hsn hqq hbd HO HW HB HU HG HC HK HZ
        go_wp2_with fail
        go_ret
        exact ⟨rfl, unhide HBx⟩
      have q7 : decide (562949953421312 < y1) = false := decide_eq_false p7
      by_cases p8 : y2 < 0
      · have q8 : decide (y2 < 0) = true := decide_eq_true p8
        clear p8 ht hmt hhn hsn hqq hbd HO HW HB HU HG HC HK HZ
        go_wp2_with fail
        go_ret
        exact ⟨rfl, unhide HBx⟩
      have q8 : decide (y2 < 0) = false := decide_eq_false p8
      by_cases p9 : 562949953421312 < y2
      · have q9 : decide (562949953421312 < y2) = true := decide_eq_true p9
        clear p9 ht hmt hhn hsn hqq hbd HO HW HB HU HG HC HK HZ
        go_wp2_with fail
        go_ret
        exact ⟨rfl, unhide HBx⟩
      have q9 : decide (562949953421312 < y2) = false := decide_eq_false p9
      have hqt : qk = true := unhide hqq ⟨by omega, by omega⟩ ⟨by omega, by omega⟩ ⟨by omega, by omega⟩ ⟨by omega, by omega⟩ ⟨by omega, by omega⟩
      subst hqt
      obtain ⟨hb1, hb2⟩ := unhide hbd (unhide HK)
      obtain ⟨j, rfl⟩ : ∃ j : Nat, f = (j : Int) + 1 := ⟨(f - 1).toNat, by omega⟩
      obtain ⟨i, rfl⟩ : ∃ i : Nat, t = (i : Int) + 1 := ⟨(t - 1).toNat, by omega⟩
      have hj3 : j < 3 := by omega
      have hi3 : i < 3 := by omega
      have hj4 : (j : Int) < 3 := by omega
      have hi4 : (i : Int) < 3 := by omega
      have hj1 : IntKind.i64.wrap ((j : Int) + 1 - 1) = (j : Int) := by rw [Int.add_sub_cancel]; exact wrap_in' ⟨by omega, by omega⟩
      have hi1 : IntKind.i64.wrap ((i : Int) + 1 - 1) = (i : Int) := by rw [Int.add_sub_cancel]; exact wrap_in' ⟨by omega, by omega⟩
      have hw1 := wrap_in' (n := hadG l k j + y0) (by have := hb1 j; exact ⟨by omega, by omega⟩)
      have hw2 := wrap_in' (n := hasG l k i + y1) (by have := hb2 i; exact ⟨by omega, by omega⟩)
      replace hhn := hide (unhide hhn j rfl)
      replace hsn := hide (unhide hsn i rfl)
      clear hb1 hb2 hbd hqq p0 p1 p2 p3 p4 p5 p6 p7 p8 p9
      replace HO := hide (show O3 _ _ _ from Blk.alloc (unhide HO) (.cells #[.int .i64 ((j : Int) + 1), .int .i64 ((i : Int) + 1), .int .i64 y0, .int .i64 y1, .int .i64 y2] 47))
      replace HW := hide (show O3 _ _ _ from Blk.alloc (unhide HW) (.cells #[.int .i64 ((j : Int) + 1), .int .i64 ((i : Int) + 1), .int .i64 y0, .int .i64 y1, .int .i64 y2] 47))
      replace HU := hide ((show RowG _ _ _ _ from unhide HU).alloc (.cells #[.int .i64 ((j : Int) + 1), .int .i64 ((i : Int) + 1), .int .i64 y0, .int .i64 y1, .int .i64 y2] 47))
      replace HG := hide ((show OwnG _ _ _ _ from unhide HG).below (below1 wr (.cells #[.int .i64 ((j : Int) + 1), .int .i64 ((i : Int) + 1), .int .i64 y0, .int .i64 y1, .int .i64 y2] 47)))
      have hcb : Hid (ob + 2 ≤ wr.heap.size) := HZ
      replace HZ : Hid (ob + 2 ≤ (wr.alloc (.cells #[.int .i64 ((j : Int) + 1), .int .i64 ((i : Int) + 1), .int .i64 y0, .int .i64 y1, .int .i64 y2] 47)).heap.size) := hide (by have := unhide HZ; simp; omega)
      go_wp2_with fail
      generalize wr.alloc (.cells #[.int .i64 ((j : Int) + 1), .int .i64 ((i : Int) + 1), .int .i64 y0, .int .i64 y1, .int .i64 y2] 47) = V0 at *
      generalize wr.heap.size = cb at *
      clear m0 m1 m2 m3 m4 HB
      have hu := (show O3 _ _ _ from unhide HO).c hj3
      have hz := (show O3 _ _ _ from unhide HO).fz j
      have c0 := (show Blk _ _ _ _ from unhide HC).at 0 (.int .i64 ((j : Int) + 1)) rfl
      have c2 := (show Blk _ _ _ _ from unhide HC).at 2 (.int .i64 y0) rfl
      refine clreg12 hj4 hj1 hu c0 c2 hz hw1 ?_
      try dsimp only [Exit.then]
      clear hu hz c0 c2
      have HP := hide (past_one V0 ob j (.int .i64 (hadG l k j + y0)))
      replace HO : Hid (O3 (V0.setCell ⟨ob, j, none⟩ (.int .i64 (hadG l k j + y0))).drew ob (hadG l (k + 1))) := hide (by rw [← unhide hhn]; exact (show O3 _ _ _ from unhide HO).set hj3 _)
      replace HW : Hid (O3 (V0.setCell ⟨ob, j, none⟩ (.int .i64 (hadG l k j + y0))).drew (ob + 1) (hasG l k)) := hide ((unhide HP).blk (by omega) (show Blk _ _ _ _ from unhide HW))
      replace HC : Hid (Blk (V0.setCell ⟨ob, j, none⟩ (.int .i64 (hadG l k j + y0))).drew cb #[.int .i64 ((j : Int) + 1), .int .i64 ((i : Int) + 1), .int .i64 y0, .int .i64 y1, .int .i64 y2] 47) := hide ((unhide HP).blk (by have := unhide hcb; omega) (show Blk _ _ _ _ from unhide HC))
      replace HBx : Hid (Below w.heap.size w (V0.setCell ⟨ob, j, none⟩ (.int .i64 (hadG l k j + y0))).drew) := hide ((unhide HP).bel (unhide hob) (unhide HBx)).drew
      replace HU : Hid (RowG 5 (V0.setCell ⟨ob, j, none⟩ (.int .i64 (hadG l k j + y0))).drew (.slice (some ⟨bb, off, none⟩) n cap) (l.map chL)) := hide ((rowG_past (unhide HU) (unhide HP) (unhide HF)).keep (Below.refl _ _).drew)
      replace HG := hide (((show OwnG _ _ _ _ from unhide HG).set (b := ob) (j := j) (u := .int .i64 (hadG l k j + y0)) (by omega)).below (Below.refl _ _).drew)
      replace HZ : Hid (ob + 2 ≤ (V0.setCell ⟨ob, j, none⟩ (.int .i64 (hadG l k j + y0))).drew.heap.size) := hide (by have := unhide HZ; exact Nat.le_trans this (by have q := ((unhide HP).bel (Nat.le_refl ob) (Below.refl ob V0)).size; exact q))
      clear HP hhn hw1 hj1
      generalize (V0.setCell ⟨ob, j, none⟩ (.int .i64 (hadG l k j + y0))).drew = V1 at *
      have hu := (show O3 _ _ _ from unhide HW).c hi3
      have hz := (show O3 _ _ _ from unhide HW).fz i
      have c1 := (show Blk _ _ _ _ from unhide HC).at 1 (.int .i64 ((i : Int) + 1)) rfl
      have c3 := (show Blk _ _ _ _ from unhide HC).at 3 (.int .i64 y1) rfl
      go_wp2_with fail
      refine clreg13 hi4 hi1 hu c1 c3 hz hw2 ?_
      try dsimp only [Exit.then]
      clear hu hz c1 c3
      have HP := hide (past_one V1 (ob + 1) i (.int .i64 (hasG l k i + y1)))
      replace HW : Hid (O3 (V1.setCell ⟨ob + 1, i, none⟩ (.int .i64 (hasG l k i + y1))).drew (ob + 1) (hasG l (k + 1))) := hide (by rw [← unhide hsn]; exact (show O3 _ _ _ from unhide HW).set hi3 _)
      replace HO : Hid (O3 (V1.setCell ⟨ob + 1, i, none⟩ (.int .i64 (hasG l k i + y1))).drew ob (hadG l (k + 1))) := hide ((unhide HP).blk (by omega) (show Blk _ _ _ _ from unhide HO))
      replace HC : Hid (Blk (V1.setCell ⟨ob + 1, i, none⟩ (.int .i64 (hasG l k i + y1))).drew cb #[.int .i64 ((j : Int) + 1), .int .i64 ((i : Int) + 1), .int .i64 y0, .int .i64 y1, .int .i64 y2] 47) := hide ((unhide HP).blk (by have := unhide hcb; omega) (show Blk _ _ _ _ from unhide HC))
      replace HBx : Hid (Below w.heap.size w (V1.setCell ⟨ob + 1, i, none⟩ (.int .i64 (hasG l k i + y1))).drew) := hide ((unhide HP).bel (by have := unhide hob; omega) (unhide HBx)).drew
      replace HU : Hid (RowG 5 (V1.setCell ⟨ob + 1, i, none⟩ (.int .i64 (hasG l k i + y1))).drew (.slice (some ⟨bb, off, none⟩) n cap) (l.map chL)) := hide ((rowG_past (unhide HU) (unhide HP) (fun y e h => by have := unhide HF y e h; omega)).keep (Below.refl _ _).drew)
      replace HG := hide (((show OwnG _ _ _ _ from unhide HG).set (b := ob + 1) (j := i) (u := .int .i64 (hasG l k i + y1)) (by omega)).below (Below.refl _ _).drew)
      replace HZ : Hid (ob + 2 ≤ (V1.setCell ⟨ob + 1, i, none⟩ (.int .i64 (hasG l k i + y1))).drew.heap.size) := hide (by have := unhide HZ; exact Nat.le_trans this (by have q := ((unhide HP).bel (Nat.le_refl (ob + 1)) (Below.refl (ob + 1) V1)).size; exact q))
      clear HP hsn hw2 hi1
      generalize (V1.setCell ⟨ob + 1, i, none⟩ (.int .i64 (hasG l k i + y1))).drew = V2 at *
      have c0 := (show Blk _ _ _ _ from unhide HC).at 0 (.int .i64 ((j : Int) + 1)) rfl
      have c2 := (show Blk _ _ _ _ from unhide HC).at 2 (.int .i64 y0) rfl
      have HB1 : Hid (∀ qq uu, [[Value.int .i64 ((j : Int) + 1), .int .i64 ((j : Int) + 1), .int .i64 y0, .int .i64 y0, .int .i64 0]].flatten[qq]? = some uu → (V2.alloc (.cells #[.int .i64 ((j : Int) + 1), .int .i64 ((j : Int) + 1), .int .i64 y0, .int .i64 y0, .int .i64 0] 47)).cell? ((⟨V2.heap.size, 0, none⟩ : Addr).add qq) = some uu) := hide (one_cells (Blk.new V2 #[.int .i64 ((j : Int) + 1), .int .i64 ((j : Int) + 1), .int .i64 y0, .int .i64 y0, .int .i64 0] 47))
      have HFt : Hid (Fit 5 [[Value.int .i64 ((j : Int) + 1), .int .i64 ((j : Int) + 1), .int .i64 y0, .int .i64 y0, .int .i64 0]]) := hide (fit_chs [⟨((j : Int) + 1), ((j : Int) + 1), y0, y0, 0⟩])
      have hll : Hid (((l.take k).map fun c => chL (stillC c)).length + 1 ≤ 1000000) := hide (by rw [List.length_map, List.length_take]; have := unhide hl; omega)
      replace HG := hide ((show OwnG _ _ _ _ from unhide HG).below (below1 V2 (.cells #[.int .i64 ((j : Int) + 1), .int .i64 ((j : Int) + 1), .int .i64 y0, .int .i64 y0, .int .i64 0] 47)))
      have hZ2 : Hid (ob + 2 ≤ (V2.alloc (.cells #[.int .i64 ((j : Int) + 1), .int .i64 ((j : Int) + 1), .int .i64 y0, .int .i64 y0, .int .i64 0] 47)).heap.size) := hide (by have := unhide HZ; simp; omega)
      replace HO := hide (show O3 _ _ _ from Blk.alloc (unhide HO) (.cells #[.int .i64 ((j : Int) + 1), .int .i64 ((j : Int) + 1), .int .i64 y0, .int .i64 y0, .int .i64 0] 47))
      replace HW := hide (show O3 _ _ _ from Blk.alloc (unhide HW) (.cells #[.int .i64 ((j : Int) + 1), .int .i64 ((j : Int) + 1), .int .i64 y0, .int .i64 y0, .int .i64 0] 47))
      replace HU := hide ((show RowG _ _ _ _ from unhide HU).alloc (.cells #[.int .i64 ((j : Int) + 1), .int .i64 ((j : Int) + 1), .int .i64 y0, .int .i64 y0, .int .i64 0] 47))
      replace HBx := hide (below_via (unhide HBx) (below1 V2 (.cells #[.int .i64 ((j : Int) + 1), .int .i64 ((j : Int) + 1), .int .i64 y0, .int .i64 y0, .int .i64 0] 47)))
      generalize ((l.take k).map fun c => chL (stillC c)) = zs at *
      go_wp2_with (at_builtin; refine pushO (ad := ⟨V2.heap.size, 0, none⟩) (c := 1) (n := 1) rfl _ _ rfl (ob + 2) _ _ zs [[Value.int .i64 ((j : Int) + 1), .int .i64 ((j : Int) + 1), .int .i64 y0, .int .i64 y0, .int .i64 0]] (unhide HG) (unhide hZ2) rfl rfl (by simp) (by simp [Act.eval, Act.put]) (unhide HB1) (unhide HFt) (unhide hll) ?_)
      intro v' w5 hG2 hgr
      have hown := (show OwnG _ _ _ _ from unhide HG).owns
      have hbk : ∀ j, Value.ownBlock _ = some j → ob + 2 ≤ j := fun j hj => (hown.lt j hj).1
      replace HO := hide (show O3 _ _ _ from blk_grown (unhide HO) hgr (g := ob + 2) (by omega) hbk)
      replace HW := hide (show O3 _ _ _ from blk_grown (unhide HW) hgr (g := ob + 2) (by omega) hbk)
      replace HU := hide (rowG_grown (unhide HU) hgr (g := ob + 2) (fun y e h => by have := unhide HF y e h; omega) hbk)
      have hbs := (unhide HBx).size
      replace HBx := hide ((unhide HBx).grown hgr hbs (fun j hj => by have := hbk j hj; have := unhide hob; omega))
      replace HZ := hide (Nat.le_trans (unhide hZ2) hgr.size)
      replace HG := hide hG2
      clear hG2 hgr hown hbk hbs hZ2 HB1 HFt hll c0 c2 HC
      go_wp2_with fail
      go_roundw
      case rel => exact ⟨k + 1, by omega, by go_num, HO, HW, HBx, HU, by rw [← unhide hmt]; exact HG, hide (by rw [unhide ht, unhide HK]; rfl), HZ⟩
      case measure => simp [intOf]; omega
    · obtain rfl : k = n := by omega
      have hml : l.take k = l := by rw [← unhide hl, List.take_length]
      have HOK := hide (allOk_of (by have := unhide HK; rw [hml] at this; exact this))
      replace HO : Hid (Blk wr ob #[.int .i64 (hadS l 1), .int .i64 (hadS l 2), .int .i64 (hadS l 3)] 22) := hide (by have q := (show O3 _ _ _ from unhide HO); unfold O3 hadG at q; rw [hml, show ((0 : Nat) : Int) + 1 = 1 from rfl, show ((1 : Nat) : Int) + 1 = 2 from rfl, show ((2 : Nat) : Int) + 1 = 3 from rfl] at q; exact q)
      replace HW : Hid (Blk wr (ob + 1) #[.int .i64 (hasS l 1), .int .i64 (hasS l 2), .int .i64 (hasS l 3)] 22) := hide (by have q := (show O3 _ _ _ from unhide HW); unfold O3 hasG at q; rw [hml, show ((0 : Nat) : Int) + 1 = 1 from rfl, show ((1 : Nat) : Int) + 1 = 2 from rfl, show ((2 : Nat) : Int) + 1 = 3 from rfl] at q; exact q)
      have HV := hide ((show OwnG _ _ _ _ from unhide HG).row)
      rw [hml, show (l.map fun c => chL (stillC c)) = (l.map stillC).map chL by rw [List.map_map]; rfl] at HV
      have hls : Hid ((l.map stillC).length = k) := hide (by rw [List.length_map]; exact unhide hl)
      clear HG HK HZ hml HT HMT HHN HSN HF hob
      generalize hA0 : hadS l 1 = a1 at *
      generalize hA1 : hadS l 2 = a2 at *
      generalize hA2 : hadS l 3 = a3 at *
      replace hA0 := hide hA0
      replace hA1 := hide hA1
      replace hA2 := hide hA2
      generalize hwr : wr = w2 at *
      clear hwr
      go_wp2_with fail
      go_cut [8, 9] from 13 to 147 (fun t5 t6 wx => ∃ nb r s t e, t5 = .pointer (some ⟨nb, 0, none⟩) ∧ t6 = .int .i64 e ∧ Hid (Blk wx nb (cells18 r s t) 27) ∧ Hid (RollR a1 a2 a3 l r s t e) ∧ Hid (Below w2.heap.size w2 wx))
      case first =>
        refine wp_region_held_drew (S := fun W => Below w2.heap.size w2 W) (by kernel_rfl) (Below.refl _ _).drew (fun hS => ?_)
        generalize hV : w2.drew = V0 at *
        clear hV
        refine anyH_at (i := 0) (v := .agg #[.int .i64 a1, .int .i64 a2, .int .i64 a3]) 104 rfl (by kernel_rfl) (by kernel_rfl) (by kernel_rfl) (by kernel_rfl) (fun _ _ _ h => h) (Or.inl ⟨by kernel_rfl, fun W hS => by have f0 := ((show Blk _ _ _ _ from unhide HO).keep hS).at 0 _ rfl; have f1 := ((show Blk _ _ _ _ from unhide HO).keep hS).at 1 _ rfl; have f2 := ((show Blk _ _ _ _ from unhide HO).keep hS).at 2 _ rfl; go_simp⟩) hS ?_
        try simp only [Act.put, List.setIfInBounds_toArray, List.set_cons_zero, List.set_cons_succ]
        refine anyH_at (i := 1) (v := .slice x k cap) 105 rfl (by kernel_rfl) (by kernel_rfl) (by kernel_rfl) (by kernel_rfl) (fun _ _ _ h => h) (Or.inl ⟨by kernel_rfl, fun W hS => by go_simp⟩) hS ?_
        try simp only [Act.put, List.setIfInBounds_toArray, List.set_cons_zero, List.set_cons_succ]
        refine wpAnyH_all (rs := [2, 7]) (by kernel_rfl) (by simp) (AllReadyH.cons (i := 2) rfl (fun KK hK => ?_) (AllReadyH.cons (i := 7) rfl (fun KK hK => ?_) AllReadyH.nil))
        · rw [if_pos (by kernel_rfl)]
          have HQ := hide (to_any _ _ V0 ((show RowG _ _ _ _ from unhide HU).keep hS) (by have := unhide hl; omega))
          have hzHG := hide hS.size
          have hS1 := hide hS
          clear hS
          go_wp2_with fail
          refine (unhide HQ).mono ?_
          rintro e Z1 ⟨uHG, rfl, hg⟩
          have hb := hg.below
          have HG := hide hg
          clear hg HQ
          have hS2 := hide (below_keep (unhide hS1) hb (unhide hS1).size)
          clear hS1 hb
          go_wp2_with fail
          refine hK.out _ _ (unhide hS2) (fun hS => ?_)
          clear hK hS2
          refine wpAnyH_all (rs := [3, 7]) (by kernel_rfl) (by simp) (AllReadyH.cons (i := 3) rfl (fun KK hK => ?_) (AllReadyH.cons (i := 7) rfl (fun KK hK => ?_) AllReadyH.nil))
          · rw [if_pos (by kernel_rfl)]
            have HQ := hide (roll_any Z1 _ a1 a2 a3 l ((show GrowG _ _ _ _ _ _ from unhide HG).row))
            have hS1 := hide hS
            clear hS
            go_wp2_with fail
            refine (unhide HQ).mono ?_
            rintro e Z2 ⟨r, s, t, e1, rfl, hb, hr⟩
            have HRR := hide hr
            clear hr HQ
            replace HG := hide ((show GrowG _ _ V0 _ _ _ from unhide HG).keep hb)
            have hS2 := hide (below_keep (unhide hS1) hb (unhide hS1).size)
            clear hS1 hb
            go_wp2_with fail
            refine hK.out _ _ (unhide hS2) (fun hS => ?_)
            clear hK hS2
            refine anyH_at (i := 4) (v := .tuple #[.agg (cells18 r s t), .int .i64 e1]) 103 rfl (by kernel_rfl) (by kernel_rfl) (by kernel_rfl) (by kernel_rfl) (fun _ _ _ h => h) (Or.inl ⟨by kernel_rfl, fun W hS => by go_simp⟩) hS ?_
            try simp only [Act.put, List.setIfInBounds_toArray, List.set_cons_zero, List.set_cons_succ]
            refine anyH_at (i := 5) (v := .agg (cells18 r s t)) 108 rfl (by kernel_rfl) (by kernel_rfl) (by kernel_rfl) (by kernel_rfl) (fun _ _ _ h => h) (Or.inl ⟨by kernel_rfl, fun W hS => by go_simp⟩) hS ?_
            try simp only [Act.put, List.setIfInBounds_toArray, List.set_cons_zero, List.set_cons_succ]
            refine anyH_at (i := 6) (v := .int .i64 e1) 109 rfl (by kernel_rfl) (by kernel_rfl) (by kernel_rfl) (by kernel_rfl) (fun _ _ _ h => h) (Or.inl ⟨by kernel_rfl, fun W hS => by go_simp⟩) hS ?_
            try simp only [Act.put, List.setIfInBounds_toArray, List.set_cons_zero, List.set_cons_succ]
            refine wpAnyH_all (rs := [7]) (by kernel_rfl) (by simp) (AllReadyH.cons (i := 7) rfl (fun KK hK => ?_) AllReadyH.nil)
            rw [if_pos (by kernel_rfl)]
            have HD := hide (Blk.new Z2 #[.int .i64 0, .int .i64 0, .int .i64 0, .int .i64 0, .int .i64 0, .int .i64 0, .int .i64 0, .int .i64 0, .int .i64 0, .int .i64 0, .int .i64 0, .int .i64 0, .int .i64 0, .int .i64 0, .int .i64 0, .int .i64 0, .int .i64 0, .int .i64 0] 27)
            have hlt := hide hS.size
            have hS1 := hide (below_keep hS (below1 Z2 (.cells #[.int .i64 0, .int .i64 0, .int .i64 0, .int .i64 0, .int .i64 0, .int .i64 0, .int .i64 0, .int .i64 0, .int .i64 0, .int .i64 0, .int .i64 0, .int .i64 0, .int .i64 0, .int .i64 0, .int .i64 0, .int .i64 0, .int .i64 0, .int .i64 0] 27)) hS.size)
            replace HG := hide ((show GrowG _ _ V0 _ _ _ from unhide HG).keep (below1 Z2 (.cells #[.int .i64 0, .int .i64 0, .int .i64 0, .int .i64 0, .int .i64 0, .int .i64 0, .int .i64 0, .int .i64 0, .int .i64 0, .int .i64 0, .int .i64 0, .int .i64 0, .int .i64 0, .int .i64 0, .int .i64 0, .int .i64 0, .int .i64 0, .int .i64 0] 27)))
            clear hS
            go_wp2_with fail
            refine hK.out _ _ (unhide hS1) (fun hS => ?_)
            clear hK hS1
            generalize Z2.alloc (.cells #[.int .i64 0, .int .i64 0, .int .i64 0, .int .i64 0, .int .i64 0, .int .i64 0, .int .i64 0, .int .i64 0, .int .i64 0, .int .i64 0, .int .i64 0, .int .i64 0, .int .i64 0, .int .i64 0, .int .i64 0, .int .i64 0, .int .i64 0, .int .i64 0] 27) = Z3 at *
            generalize Z2.heap.size = nb at *
            refine wpAnyH_all (rs := [8]) (by kernel_rfl) (by simp) (AllReadyH.cons (i := 8) rfl (fun KK hK => ?_) AllReadyH.nil)
            rw [if_pos (by kernel_rfl)]
            refine storeO_blk 27 _ _ rfl (show Blk _ _ _ _ from unhide HD) rfl rfl size27 rfl rfl rfl ?_
            intro Y1 k1 kp
            have hS1 := hide (kp.bel (unhide hlt) hS)
            have HX := hide k1
            clear hS kp k1 HD
            refine hK.out _ _ (unhide hS1) (fun hS => ?_)
            clear hK hS1
            refine wpAnyH_all (rs := [9]) (by kernel_rfl) (by simp) (AllReadyH.cons (i := 9) rfl (fun KK hK => ?_) AllReadyH.nil)
            rw [if_pos (by kernel_rfl)]
            have hS1 := hide hS
            clear hS
            go_wp2_with fail
            refine hK.out _ _ (unhide hS1) (fun hS => ?_)
            clear hK hS1
            refine wpAnyH_done (by kernel_rfl) ?_ _
            have hS1 := hide hS
            clear hS
            go_wp2_with fail
            go_meet
            exact ⟨_, r, s, t, e1, rfl, rfl, HX, HRR, hS1⟩
          · rw [if_pos (by kernel_rfl)]
            have HD := hide (Blk.new Z1 #[.int .i64 0, .int .i64 0, .int .i64 0, .int .i64 0, .int .i64 0, .int .i64 0, .int .i64 0, .int .i64 0, .int .i64 0, .int .i64 0, .int .i64 0, .int .i64 0, .int .i64 0, .int .i64 0, .int .i64 0, .int .i64 0, .int .i64 0, .int .i64 0] 27)
            have hlt := hide hS.size
            have hS1 := hide (below_keep hS (below1 Z1 (.cells #[.int .i64 0, .int .i64 0, .int .i64 0, .int .i64 0, .int .i64 0, .int .i64 0, .int .i64 0, .int .i64 0, .int .i64 0, .int .i64 0, .int .i64 0, .int .i64 0, .int .i64 0, .int .i64 0, .int .i64 0, .int .i64 0, .int .i64 0, .int .i64 0] 27)) hS.size)
            replace HG := hide ((show GrowG _ _ V0 _ _ _ from unhide HG).keep (below1 Z1 (.cells #[.int .i64 0, .int .i64 0, .int .i64 0, .int .i64 0, .int .i64 0, .int .i64 0, .int .i64 0, .int .i64 0, .int .i64 0, .int .i64 0, .int .i64 0, .int .i64 0, .int .i64 0, .int .i64 0, .int .i64 0, .int .i64 0, .int .i64 0, .int .i64 0] 27)))
            clear hS
            go_wp2_with fail
            refine hK.out _ _ (unhide hS1) (fun hS => ?_)
            clear hK hS1
            generalize Z1.alloc (.cells #[.int .i64 0, .int .i64 0, .int .i64 0, .int .i64 0, .int .i64 0, .int .i64 0, .int .i64 0, .int .i64 0, .int .i64 0, .int .i64 0, .int .i64 0, .int .i64 0, .int .i64 0, .int .i64 0, .int .i64 0, .int .i64 0, .int .i64 0, .int .i64 0] 27) = Z4 at *
            generalize Z1.heap.size = nb at *
            refine wpAnyH_all (rs := [3]) (by kernel_rfl) (by simp) (AllReadyH.cons (i := 3) rfl (fun KK hK => ?_) AllReadyH.nil)
            rw [if_pos (by kernel_rfl)]
            have HQ := hide (roll_any Z4 _ a1 a2 a3 l ((show GrowG _ _ _ _ _ _ from unhide HG).row))
            have hS1 := hide hS
            clear hS
            go_wp2_with fail
            refine (unhide HQ).mono ?_
            rintro e Z5 ⟨r, s, t, e1, rfl, hb, hr⟩
            have HRR := hide hr
            clear hr HQ
            replace HG := hide ((show GrowG _ _ V0 _ _ _ from unhide HG).keep hb)
            replace HD := hide ((show Blk _ _ _ _ from unhide HD).keep hb)
            have hS2 := hide (below_keep (unhide hS1) hb (unhide hS1).size)
            clear hS1 hb
            go_wp2_with fail
            refine hK.out _ _ (unhide hS2) (fun hS => ?_)
            clear hK hS2
            refine anyH_at (i := 4) (v := .tuple #[.agg (cells18 r s t), .int .i64 e1]) 103 rfl (by kernel_rfl) (by kernel_rfl) (by kernel_rfl) (by kernel_rfl) (fun _ _ _ h => h) (Or.inl ⟨by kernel_rfl, fun W hS => by go_simp⟩) hS ?_
            try simp only [Act.put, List.setIfInBounds_toArray, List.set_cons_zero, List.set_cons_succ]
            refine anyH_at (i := 5) (v := .agg (cells18 r s t)) 108 rfl (by kernel_rfl) (by kernel_rfl) (by kernel_rfl) (by kernel_rfl) (fun _ _ _ h => h) (Or.inl ⟨by kernel_rfl, fun W hS => by go_simp⟩) hS ?_
            try simp only [Act.put, List.setIfInBounds_toArray, List.set_cons_zero, List.set_cons_succ]
            refine anyH_at (i := 6) (v := .int .i64 e1) 109 rfl (by kernel_rfl) (by kernel_rfl) (by kernel_rfl) (by kernel_rfl) (fun _ _ _ h => h) (Or.inl ⟨by kernel_rfl, fun W hS => by go_simp⟩) hS ?_
            try simp only [Act.put, List.setIfInBounds_toArray, List.set_cons_zero, List.set_cons_succ]
            refine wpAnyH_all (rs := [8]) (by kernel_rfl) (by simp) (AllReadyH.cons (i := 8) rfl (fun KK hK => ?_) AllReadyH.nil)
            rw [if_pos (by kernel_rfl)]
            refine storeO_blk 27 _ _ rfl (show Blk _ _ _ _ from unhide HD) rfl rfl size27 rfl rfl rfl ?_
            intro Y1 k1 kp
            have hS1 := hide (kp.bel (unhide hlt) hS)
            have HX := hide k1
            clear hS kp k1 HD
            refine hK.out _ _ (unhide hS1) (fun hS => ?_)
            clear hK hS1
            refine wpAnyH_all (rs := [9]) (by kernel_rfl) (by simp) (AllReadyH.cons (i := 9) rfl (fun KK hK => ?_) AllReadyH.nil)
            rw [if_pos (by kernel_rfl)]
            have hS1 := hide hS
            clear hS
            go_wp2_with fail
            refine hK.out _ _ (unhide hS1) (fun hS => ?_)
            clear hK hS1
            refine wpAnyH_done (by kernel_rfl) ?_ _
            have hS1 := hide hS
            clear hS
            go_wp2_with fail
            go_meet
            exact ⟨_, r, s, t, e1, rfl, rfl, HX, HRR, hS1⟩
        · rw [if_pos (by kernel_rfl)]
          have HD := hide (Blk.new V0 #[.int .i64 0, .int .i64 0, .int .i64 0, .int .i64 0, .int .i64 0, .int .i64 0, .int .i64 0, .int .i64 0, .int .i64 0, .int .i64 0, .int .i64 0, .int .i64 0, .int .i64 0, .int .i64 0, .int .i64 0, .int .i64 0, .int .i64 0, .int .i64 0] 27)
          have hlt := hide hS.size
          have hS1 := hide (below_keep hS (below1 V0 (.cells #[.int .i64 0, .int .i64 0, .int .i64 0, .int .i64 0, .int .i64 0, .int .i64 0, .int .i64 0, .int .i64 0, .int .i64 0, .int .i64 0, .int .i64 0, .int .i64 0, .int .i64 0, .int .i64 0, .int .i64 0, .int .i64 0, .int .i64 0, .int .i64 0] 27)) hS.size)
          clear hS
          go_wp2_with fail
          refine hK.out _ _ (unhide hS1) (fun hS => ?_)
          clear hK hS1
          generalize V0.alloc (.cells #[.int .i64 0, .int .i64 0, .int .i64 0, .int .i64 0, .int .i64 0, .int .i64 0, .int .i64 0, .int .i64 0, .int .i64 0, .int .i64 0, .int .i64 0, .int .i64 0, .int .i64 0, .int .i64 0, .int .i64 0, .int .i64 0, .int .i64 0, .int .i64 0] 27) = Z6 at *
          generalize V0.heap.size = nb at *
          refine wpAnyH_all (rs := [2]) (by kernel_rfl) (by simp) (AllReadyH.cons (i := 2) rfl (fun KK hK => ?_) AllReadyH.nil)
          rw [if_pos (by kernel_rfl)]
          have HQ := hide (to_any _ _ Z6 ((show RowG _ _ _ _ from unhide HU).keep hS) (by have := unhide hl; omega))
          have hzHG := hide hS.size
          have hS1 := hide hS
          clear hS
          go_wp2_with fail
          refine (unhide HQ).mono ?_
          rintro e Z7 ⟨uHG, rfl, hg⟩
          have hb := hg.below
          have HG := hide hg
          clear hg HQ
          replace HD := hide ((show Blk _ _ _ _ from unhide HD).keep hb)
          have hS2 := hide (below_keep (unhide hS1) hb (unhide hS1).size)
          clear hS1 hb
          go_wp2_with fail
          refine hK.out _ _ (unhide hS2) (fun hS => ?_)
          clear hK hS2
          refine wpAnyH_all (rs := [3]) (by kernel_rfl) (by simp) (AllReadyH.cons (i := 3) rfl (fun KK hK => ?_) AllReadyH.nil)
          rw [if_pos (by kernel_rfl)]
          have HQ := hide (roll_any Z7 _ a1 a2 a3 l ((show GrowG _ _ _ _ _ _ from unhide HG).row))
          have hS1 := hide hS
          clear hS
          go_wp2_with fail
          refine (unhide HQ).mono ?_
          rintro e Z8 ⟨r, s, t, e1, rfl, hb, hr⟩
          have HRR := hide hr
          clear hr HQ
          replace HG := hide ((show GrowG _ _ Z6 _ _ _ from unhide HG).keep hb)
          replace HD := hide ((show Blk _ _ _ _ from unhide HD).keep hb)
          have hS2 := hide (below_keep (unhide hS1) hb (unhide hS1).size)
          clear hS1 hb
          go_wp2_with fail
          refine hK.out _ _ (unhide hS2) (fun hS => ?_)
          clear hK hS2
          refine anyH_at (i := 4) (v := .tuple #[.agg (cells18 r s t), .int .i64 e1]) 103 rfl (by kernel_rfl) (by kernel_rfl) (by kernel_rfl) (by kernel_rfl) (fun _ _ _ h => h) (Or.inl ⟨by kernel_rfl, fun W hS => by go_simp⟩) hS ?_
          try simp only [Act.put, List.setIfInBounds_toArray, List.set_cons_zero, List.set_cons_succ]
          refine anyH_at (i := 5) (v := .agg (cells18 r s t)) 108 rfl (by kernel_rfl) (by kernel_rfl) (by kernel_rfl) (by kernel_rfl) (fun _ _ _ h => h) (Or.inl ⟨by kernel_rfl, fun W hS => by go_simp⟩) hS ?_
          try simp only [Act.put, List.setIfInBounds_toArray, List.set_cons_zero, List.set_cons_succ]
          refine anyH_at (i := 6) (v := .int .i64 e1) 109 rfl (by kernel_rfl) (by kernel_rfl) (by kernel_rfl) (by kernel_rfl) (fun _ _ _ h => h) (Or.inl ⟨by kernel_rfl, fun W hS => by go_simp⟩) hS ?_
          try simp only [Act.put, List.setIfInBounds_toArray, List.set_cons_zero, List.set_cons_succ]
          refine wpAnyH_all (rs := [8]) (by kernel_rfl) (by simp) (AllReadyH.cons (i := 8) rfl (fun KK hK => ?_) AllReadyH.nil)
          rw [if_pos (by kernel_rfl)]
          refine storeO_blk 27 _ _ rfl (show Blk _ _ _ _ from unhide HD) rfl rfl size27 rfl rfl rfl ?_
          intro Y1 k1 kp
          have hS1 := hide (kp.bel (unhide hlt) hS)
          have HX := hide k1
          clear hS kp k1 HD
          refine hK.out _ _ (unhide hS1) (fun hS => ?_)
          clear hK hS1
          refine wpAnyH_all (rs := [9]) (by kernel_rfl) (by simp) (AllReadyH.cons (i := 9) rfl (fun KK hK => ?_) AllReadyH.nil)
          rw [if_pos (by kernel_rfl)]
          have hS1 := hide hS
          clear hS
          go_wp2_with fail
          refine hK.out _ _ (unhide hS1) (fun hS => ?_)
          clear hK hS1
          refine wpAnyH_done (by kernel_rfl) ?_ _
          have hS1 := hide hS
          clear hS
          go_wp2_with fail
          go_meet
          exact ⟨_, r, s, t, e1, rfl, rfl, HX, HRR, hS1⟩
      case rest =>
        obtain ⟨xb, r, s, t, e1, rfl, rfl, HX, HRR1, HWW⟩ := hcut
        replace HB := hide (below_via (unhide HB) (unhide HWW))
        replace HO := hide ((show Blk _ _ _ _ from unhide HO).keep (unhide HWW))
        replace HW := hide ((show Blk _ _ _ _ from unhide HW).keep (unhide HWW))
        replace HV := hide ((show RowG _ _ _ _ from unhide HV).keep (unhide HWW))
        clear HWW HU
        generalize hwc : wc = w3 at *
        clear hwc
        go_wp2_with fail
        go_cut [10, 11] from 13 to 147 (fun t5 t6 wx => ∃ nb r s t e, t5 = .pointer (some ⟨nb, 0, none⟩) ∧ t6 = .int .i64 e ∧ Hid (Blk wx nb (cells18 r s t) 27) ∧ Hid (RollR a1 a2 a3 (l.map stillC) r s t e) ∧ Hid (Below w3.heap.size w3 wx))
        case first =>
          refine wp_region_held_drew (S := fun W => Below w3.heap.size w3 W) (by kernel_rfl) (Below.refl _ _).drew (fun hS => ?_)
          generalize hV : w3.drew = V0 at *
          clear hV
          refine anyH_at (i := 0) (v := .agg #[.int .i64 a1, .int .i64 a2, .int .i64 a3]) 111 rfl (by kernel_rfl) (by kernel_rfl) (by kernel_rfl) (by kernel_rfl) (fun _ _ _ h => h) (Or.inl ⟨by kernel_rfl, fun W hS => by have f0 := ((show Blk _ _ _ _ from unhide HO).keep hS).at 0 _ rfl; have f1 := ((show Blk _ _ _ _ from unhide HO).keep hS).at 1 _ rfl; have f2 := ((show Blk _ _ _ _ from unhide HO).keep hS).at 2 _ rfl; go_simp⟩) hS ?_
          try simp only [Act.put, List.setIfInBounds_toArray, List.set_cons_zero, List.set_cons_succ]
          refine anyH_at (i := 1) (v := u5) 112 rfl (by kernel_rfl) (by kernel_rfl) (by kernel_rfl) (by kernel_rfl) (fun _ _ _ h => h) (Or.inl ⟨by kernel_rfl, fun W hS => by go_simp⟩) hS ?_
          try simp only [Act.put, List.setIfInBounds_toArray, List.set_cons_zero, List.set_cons_succ]
          refine wpAnyH_all (rs := [2, 7]) (by kernel_rfl) (by simp) (AllReadyH.cons (i := 2) rfl (fun KK hK => ?_) (AllReadyH.cons (i := 7) rfl (fun KK hK => ?_) AllReadyH.nil))
          · rw [if_pos (by kernel_rfl)]
            have HQ := hide (to_any _ _ V0 ((show RowG _ _ _ _ from unhide HV).keep hS) (by have := unhide hls; omega))
            have hzHG := hide hS.size
            have hS1 := hide hS
            clear hS
            go_wp2_with fail
            refine (unhide HQ).mono ?_
            rintro e Z1 ⟨uHG, rfl, hg⟩
            have hb := hg.below
            have HG := hide hg
            clear hg HQ
            have hS2 := hide (below_keep (unhide hS1) hb (unhide hS1).size)
            clear hS1 hb
            go_wp2_with fail
            refine hK.out _ _ (unhide hS2) (fun hS => ?_)
            clear hK hS2
            refine wpAnyH_all (rs := [3, 7]) (by kernel_rfl) (by simp) (AllReadyH.cons (i := 3) rfl (fun KK hK => ?_) (AllReadyH.cons (i := 7) rfl (fun KK hK => ?_) AllReadyH.nil))
            · rw [if_pos (by kernel_rfl)]
              have HQ := hide (roll_any Z1 _ a1 a2 a3 (l.map stillC) ((show GrowG _ _ _ _ _ _ from unhide HG).row))
              have hS1 := hide hS
              clear hS
              go_wp2_with fail
              refine (unhide HQ).mono ?_
              rintro e Z2 ⟨r, s, t, e1, rfl, hb, hr⟩
              have HRR := hide hr
              clear hr HQ
              replace HG := hide ((show GrowG _ _ V0 _ _ _ from unhide HG).keep hb)
              have hS2 := hide (below_keep (unhide hS1) hb (unhide hS1).size)
              clear hS1 hb
              go_wp2_with fail
              refine hK.out _ _ (unhide hS2) (fun hS => ?_)
              clear hK hS2
              refine anyH_at (i := 4) (v := .tuple #[.agg (cells18 r s t), .int .i64 e1]) 110 rfl (by kernel_rfl) (by kernel_rfl) (by kernel_rfl) (by kernel_rfl) (fun _ _ _ h => h) (Or.inl ⟨by kernel_rfl, fun W hS => by go_simp⟩) hS ?_
              try simp only [Act.put, List.setIfInBounds_toArray, List.set_cons_zero, List.set_cons_succ]
              refine anyH_at (i := 5) (v := .agg (cells18 r s t)) 115 rfl (by kernel_rfl) (by kernel_rfl) (by kernel_rfl) (by kernel_rfl) (fun _ _ _ h => h) (Or.inl ⟨by kernel_rfl, fun W hS => by go_simp⟩) hS ?_
              try simp only [Act.put, List.setIfInBounds_toArray, List.set_cons_zero, List.set_cons_succ]
              refine anyH_at (i := 6) (v := .int .i64 e1) 116 rfl (by kernel_rfl) (by kernel_rfl) (by kernel_rfl) (by kernel_rfl) (fun _ _ _ h => h) (Or.inl ⟨by kernel_rfl, fun W hS => by go_simp⟩) hS ?_
              try simp only [Act.put, List.setIfInBounds_toArray, List.set_cons_zero, List.set_cons_succ]
              refine wpAnyH_all (rs := [7]) (by kernel_rfl) (by simp) (AllReadyH.cons (i := 7) rfl (fun KK hK => ?_) AllReadyH.nil)
              rw [if_pos (by kernel_rfl)]
              have HD := hide (Blk.new Z2 #[.int .i64 0, .int .i64 0, .int .i64 0, .int .i64 0, .int .i64 0, .int .i64 0, .int .i64 0, .int .i64 0, .int .i64 0, .int .i64 0, .int .i64 0, .int .i64 0, .int .i64 0, .int .i64 0, .int .i64 0, .int .i64 0, .int .i64 0, .int .i64 0] 27)
              have hlt := hide hS.size
              have hS1 := hide (below_keep hS (below1 Z2 (.cells #[.int .i64 0, .int .i64 0, .int .i64 0, .int .i64 0, .int .i64 0, .int .i64 0, .int .i64 0, .int .i64 0, .int .i64 0, .int .i64 0, .int .i64 0, .int .i64 0, .int .i64 0, .int .i64 0, .int .i64 0, .int .i64 0, .int .i64 0, .int .i64 0] 27)) hS.size)
              replace HG := hide ((show GrowG _ _ V0 _ _ _ from unhide HG).keep (below1 Z2 (.cells #[.int .i64 0, .int .i64 0, .int .i64 0, .int .i64 0, .int .i64 0, .int .i64 0, .int .i64 0, .int .i64 0, .int .i64 0, .int .i64 0, .int .i64 0, .int .i64 0, .int .i64 0, .int .i64 0, .int .i64 0, .int .i64 0, .int .i64 0, .int .i64 0] 27)))
              clear hS
              go_wp2_with fail
              refine hK.out _ _ (unhide hS1) (fun hS => ?_)
              clear hK hS1
              generalize Z2.alloc (.cells #[.int .i64 0, .int .i64 0, .int .i64 0, .int .i64 0, .int .i64 0, .int .i64 0, .int .i64 0, .int .i64 0, .int .i64 0, .int .i64 0, .int .i64 0, .int .i64 0, .int .i64 0, .int .i64 0, .int .i64 0, .int .i64 0, .int .i64 0, .int .i64 0] 27) = Z3 at *
              generalize Z2.heap.size = nb at *
              refine wpAnyH_all (rs := [8]) (by kernel_rfl) (by simp) (AllReadyH.cons (i := 8) rfl (fun KK hK => ?_) AllReadyH.nil)
              rw [if_pos (by kernel_rfl)]
              refine storeO_blk 27 _ _ rfl (show Blk _ _ _ _ from unhide HD) rfl rfl size27 rfl rfl rfl ?_
              intro Y1 k1 kp
              have hS1 := hide (kp.bel (unhide hlt) hS)
              have HX := hide k1
              clear hS kp k1 HD
              refine hK.out _ _ (unhide hS1) (fun hS => ?_)
              clear hK hS1
              refine wpAnyH_all (rs := [9]) (by kernel_rfl) (by simp) (AllReadyH.cons (i := 9) rfl (fun KK hK => ?_) AllReadyH.nil)
              rw [if_pos (by kernel_rfl)]
              have hS1 := hide hS
              clear hS
              go_wp2_with fail
              refine hK.out _ _ (unhide hS1) (fun hS => ?_)
              clear hK hS1
              refine wpAnyH_done (by kernel_rfl) ?_ _
              have hS1 := hide hS
              clear hS
              go_wp2_with fail
              go_meet
              exact ⟨_, r, s, t, e1, rfl, rfl, HX, HRR, hS1⟩
            · rw [if_pos (by kernel_rfl)]
              have HD := hide (Blk.new Z1 #[.int .i64 0, .int .i64 0, .int .i64 0, .int .i64 0, .int .i64 0, .int .i64 0, .int .i64 0, .int .i64 0, .int .i64 0, .int .i64 0, .int .i64 0, .int .i64 0, .int .i64 0, .int .i64 0, .int .i64 0, .int .i64 0, .int .i64 0, .int .i64 0] 27)
              have hlt := hide hS.size
              have hS1 := hide (below_keep hS (below1 Z1 (.cells #[.int .i64 0, .int .i64 0, .int .i64 0, .int .i64 0, .int .i64 0, .int .i64 0, .int .i64 0, .int .i64 0, .int .i64 0, .int .i64 0, .int .i64 0, .int .i64 0, .int .i64 0, .int .i64 0, .int .i64 0, .int .i64 0, .int .i64 0, .int .i64 0] 27)) hS.size)
              replace HG := hide ((show GrowG _ _ V0 _ _ _ from unhide HG).keep (below1 Z1 (.cells #[.int .i64 0, .int .i64 0, .int .i64 0, .int .i64 0, .int .i64 0, .int .i64 0, .int .i64 0, .int .i64 0, .int .i64 0, .int .i64 0, .int .i64 0, .int .i64 0, .int .i64 0, .int .i64 0, .int .i64 0, .int .i64 0, .int .i64 0, .int .i64 0] 27)))
              clear hS
              go_wp2_with fail
              refine hK.out _ _ (unhide hS1) (fun hS => ?_)
              clear hK hS1
              generalize Z1.alloc (.cells #[.int .i64 0, .int .i64 0, .int .i64 0, .int .i64 0, .int .i64 0, .int .i64 0, .int .i64 0, .int .i64 0, .int .i64 0, .int .i64 0, .int .i64 0, .int .i64 0, .int .i64 0, .int .i64 0, .int .i64 0, .int .i64 0, .int .i64 0, .int .i64 0] 27) = Z4 at *
              generalize Z1.heap.size = nb at *
              refine wpAnyH_all (rs := [3]) (by kernel_rfl) (by simp) (AllReadyH.cons (i := 3) rfl (fun KK hK => ?_) AllReadyH.nil)
              rw [if_pos (by kernel_rfl)]
              have HQ := hide (roll_any Z4 _ a1 a2 a3 (l.map stillC) ((show GrowG _ _ _ _ _ _ from unhide HG).row))
              have hS1 := hide hS
              clear hS
              go_wp2_with fail
              refine (unhide HQ).mono ?_
              rintro e Z5 ⟨r, s, t, e1, rfl, hb, hr⟩
              have HRR := hide hr
              clear hr HQ
              replace HG := hide ((show GrowG _ _ V0 _ _ _ from unhide HG).keep hb)
              replace HD := hide ((show Blk _ _ _ _ from unhide HD).keep hb)
              have hS2 := hide (below_keep (unhide hS1) hb (unhide hS1).size)
              clear hS1 hb
              go_wp2_with fail
              refine hK.out _ _ (unhide hS2) (fun hS => ?_)
              clear hK hS2
              refine anyH_at (i := 4) (v := .tuple #[.agg (cells18 r s t), .int .i64 e1]) 110 rfl (by kernel_rfl) (by kernel_rfl) (by kernel_rfl) (by kernel_rfl) (fun _ _ _ h => h) (Or.inl ⟨by kernel_rfl, fun W hS => by go_simp⟩) hS ?_
              try simp only [Act.put, List.setIfInBounds_toArray, List.set_cons_zero, List.set_cons_succ]
              refine anyH_at (i := 5) (v := .agg (cells18 r s t)) 115 rfl (by kernel_rfl) (by kernel_rfl) (by kernel_rfl) (by kernel_rfl) (fun _ _ _ h => h) (Or.inl ⟨by kernel_rfl, fun W hS => by go_simp⟩) hS ?_
              try simp only [Act.put, List.setIfInBounds_toArray, List.set_cons_zero, List.set_cons_succ]
              refine anyH_at (i := 6) (v := .int .i64 e1) 116 rfl (by kernel_rfl) (by kernel_rfl) (by kernel_rfl) (by kernel_rfl) (fun _ _ _ h => h) (Or.inl ⟨by kernel_rfl, fun W hS => by go_simp⟩) hS ?_
              try simp only [Act.put, List.setIfInBounds_toArray, List.set_cons_zero, List.set_cons_succ]
              refine wpAnyH_all (rs := [8]) (by kernel_rfl) (by simp) (AllReadyH.cons (i := 8) rfl (fun KK hK => ?_) AllReadyH.nil)
              rw [if_pos (by kernel_rfl)]
              refine storeO_blk 27 _ _ rfl (show Blk _ _ _ _ from unhide HD) rfl rfl size27 rfl rfl rfl ?_
              intro Y1 k1 kp
              have hS1 := hide (kp.bel (unhide hlt) hS)
              have HX := hide k1
              clear hS kp k1 HD
              refine hK.out _ _ (unhide hS1) (fun hS => ?_)
              clear hK hS1
              refine wpAnyH_all (rs := [9]) (by kernel_rfl) (by simp) (AllReadyH.cons (i := 9) rfl (fun KK hK => ?_) AllReadyH.nil)
              rw [if_pos (by kernel_rfl)]
              have hS1 := hide hS
              clear hS
              go_wp2_with fail
              refine hK.out _ _ (unhide hS1) (fun hS => ?_)
              clear hK hS1
              refine wpAnyH_done (by kernel_rfl) ?_ _
              have hS1 := hide hS
              clear hS
              go_wp2_with fail
              go_meet
              exact ⟨_, r, s, t, e1, rfl, rfl, HX, HRR, hS1⟩
          · rw [if_pos (by kernel_rfl)]
            have HD := hide (Blk.new V0 #[.int .i64 0, .int .i64 0, .int .i64 0, .int .i64 0, .int .i64 0, .int .i64 0, .int .i64 0, .int .i64 0, .int .i64 0, .int .i64 0, .int .i64 0, .int .i64 0, .int .i64 0, .int .i64 0, .int .i64 0, .int .i64 0, .int .i64 0, .int .i64 0] 27)
            have hlt := hide hS.size
            have hS1 := hide (below_keep hS (below1 V0 (.cells #[.int .i64 0, .int .i64 0, .int .i64 0, .int .i64 0, .int .i64 0, .int .i64 0, .int .i64 0, .int .i64 0, .int .i64 0, .int .i64 0, .int .i64 0, .int .i64 0, .int .i64 0, .int .i64 0, .int .i64 0, .int .i64 0, .int .i64 0, .int .i64 0] 27)) hS.size)
            clear hS
            go_wp2_with fail
            refine hK.out _ _ (unhide hS1) (fun hS => ?_)
            clear hK hS1
            generalize V0.alloc (.cells #[.int .i64 0, .int .i64 0, .int .i64 0, .int .i64 0, .int .i64 0, .int .i64 0, .int .i64 0, .int .i64 0, .int .i64 0, .int .i64 0, .int .i64 0, .int .i64 0, .int .i64 0, .int .i64 0, .int .i64 0, .int .i64 0, .int .i64 0, .int .i64 0] 27) = Z6 at *
            generalize V0.heap.size = nb at *
            refine wpAnyH_all (rs := [2]) (by kernel_rfl) (by simp) (AllReadyH.cons (i := 2) rfl (fun KK hK => ?_) AllReadyH.nil)
            rw [if_pos (by kernel_rfl)]
            have HQ := hide (to_any _ _ Z6 ((show RowG _ _ _ _ from unhide HV).keep hS) (by have := unhide hls; omega))
            have hzHG := hide hS.size
            have hS1 := hide hS
            clear hS
            go_wp2_with fail
            refine (unhide HQ).mono ?_
            rintro e Z7 ⟨uHG, rfl, hg⟩
            have hb := hg.below
            have HG := hide hg
            clear hg HQ
            replace HD := hide ((show Blk _ _ _ _ from unhide HD).keep hb)
            have hS2 := hide (below_keep (unhide hS1) hb (unhide hS1).size)
            clear hS1 hb
            go_wp2_with fail
            refine hK.out _ _ (unhide hS2) (fun hS => ?_)
            clear hK hS2
            refine wpAnyH_all (rs := [3]) (by kernel_rfl) (by simp) (AllReadyH.cons (i := 3) rfl (fun KK hK => ?_) AllReadyH.nil)
            rw [if_pos (by kernel_rfl)]
            have HQ := hide (roll_any Z7 _ a1 a2 a3 (l.map stillC) ((show GrowG _ _ _ _ _ _ from unhide HG).row))
            have hS1 := hide hS
            clear hS
            go_wp2_with fail
            refine (unhide HQ).mono ?_
            rintro e Z8 ⟨r, s, t, e1, rfl, hb, hr⟩
            have HRR := hide hr
            clear hr HQ
            replace HG := hide ((show GrowG _ _ Z6 _ _ _ from unhide HG).keep hb)
            replace HD := hide ((show Blk _ _ _ _ from unhide HD).keep hb)
            have hS2 := hide (below_keep (unhide hS1) hb (unhide hS1).size)
            clear hS1 hb
            go_wp2_with fail
            refine hK.out _ _ (unhide hS2) (fun hS => ?_)
            clear hK hS2
            refine anyH_at (i := 4) (v := .tuple #[.agg (cells18 r s t), .int .i64 e1]) 110 rfl (by kernel_rfl) (by kernel_rfl) (by kernel_rfl) (by kernel_rfl) (fun _ _ _ h => h) (Or.inl ⟨by kernel_rfl, fun W hS => by go_simp⟩) hS ?_
            try simp only [Act.put, List.setIfInBounds_toArray, List.set_cons_zero, List.set_cons_succ]
            refine anyH_at (i := 5) (v := .agg (cells18 r s t)) 115 rfl (by kernel_rfl) (by kernel_rfl) (by kernel_rfl) (by kernel_rfl) (fun _ _ _ h => h) (Or.inl ⟨by kernel_rfl, fun W hS => by go_simp⟩) hS ?_
            try simp only [Act.put, List.setIfInBounds_toArray, List.set_cons_zero, List.set_cons_succ]
            refine anyH_at (i := 6) (v := .int .i64 e1) 116 rfl (by kernel_rfl) (by kernel_rfl) (by kernel_rfl) (by kernel_rfl) (fun _ _ _ h => h) (Or.inl ⟨by kernel_rfl, fun W hS => by go_simp⟩) hS ?_
            try simp only [Act.put, List.setIfInBounds_toArray, List.set_cons_zero, List.set_cons_succ]
            refine wpAnyH_all (rs := [8]) (by kernel_rfl) (by simp) (AllReadyH.cons (i := 8) rfl (fun KK hK => ?_) AllReadyH.nil)
            rw [if_pos (by kernel_rfl)]
            refine storeO_blk 27 _ _ rfl (show Blk _ _ _ _ from unhide HD) rfl rfl size27 rfl rfl rfl ?_
            intro Y1 k1 kp
            have hS1 := hide (kp.bel (unhide hlt) hS)
            have HX := hide k1
            clear hS kp k1 HD
            refine hK.out _ _ (unhide hS1) (fun hS => ?_)
            clear hK hS1
            refine wpAnyH_all (rs := [9]) (by kernel_rfl) (by simp) (AllReadyH.cons (i := 9) rfl (fun KK hK => ?_) AllReadyH.nil)
            rw [if_pos (by kernel_rfl)]
            have hS1 := hide hS
            clear hS
            go_wp2_with fail
            refine hK.out _ _ (unhide hS1) (fun hS => ?_)
            clear hK hS1
            refine wpAnyH_done (by kernel_rfl) ?_ _
            have hS1 := hide hS
            clear hS
            go_wp2_with fail
            go_meet
            exact ⟨_, r, s, t, e1, rfl, rfl, HX, HRR, hS1⟩
        case rest =>
          obtain ⟨yb, r', s', t', e', rfl, rfl, HY, HRR2, HWW⟩ := hcut
          replace HB := hide (below_via (unhide HB) (unhide HWW))
          replace HO := hide ((show Blk _ _ _ _ from unhide HO).keep (unhide HWW))
          replace HW := hide ((show Blk _ _ _ _ from unhide HW).keep (unhide HWW))
          replace HX := hide ((show Blk _ _ _ _ from unhide HX).keep (unhide HWW))
          obtain rfl := unhide hA0
          obtain rfl := unhide hA1
          obtain rfl := unhide hA2
          obtain ⟨rfl, rfl, h1, h2, h3, rfl, rfl, rfl⟩ := closes_ok (unhide HOK) (by have := unhide hl; omega) (unhide HRR1) (unhide HRR2)
          clear HWW HV HRR1 HRR2
          generalize hwc : wc = w4 at *
          clear hwc
          replace h1 := hide h1
          replace h2 := hide h2
          replace h3 := hide h3
          go_wp2_with fail
          refine wp_loop_rounds 4 ?_
          rw [rounds_succ]
          have x5 := (show Blk _ _ _ _ from unhide HX).at 5 (.int .i64 r.z) rfl
          have o0 := (show Blk _ _ _ _ from unhide HO).at 0 (.int .i64 (hadS l 1)) rfl
          have w0 := (show Blk _ _ _ _ from unhide HW).at 0 (.int .i64 (hasS l 1)) rfl
          have y0 := (show Blk _ _ _ _ from unhide HY).at 0 (.int .i64 (hadS l 1)) rfl
          have y1 := (show Blk _ _ _ _ from unhide HY).at 1 (.int .i64 0) rfl
          have y2 := (show Blk _ _ _ _ from unhide HY).at 2 (.int .i64 0) rfl
          have y3 := (show Blk _ _ _ _ from unhide HY).at 3 (.int .i64 0) rfl
          have y4 := (show Blk _ _ _ _ from unhide HY).at 4 (.int .i64 0) rfl
          have y5 := (show Blk _ _ _ _ from unhide HY).at 5 (.int .i64 (hadS l 1)) rfl
          have p1 : (r.z != hasS l 1) = false := by rw [unhide h1]; simp
          have p2 := bd26c (hadS l 1) (hadS l 1)
          have p3 : ∀ W, (Op.equalIn 10000 26 (.agg (cells6 ⟨(hadS l 1), 0, 0, 0, 0, (hadS l 1)⟩)) (.agg (cells6 ⟨(hadS l 1), 0, 0, 0, 0, (hadS l 1)⟩))).run Try.prog W = .ok true W := fun W => eqr26 9998 ⟨(hadS l 1), 0, 0, 0, 0, (hadS l 1)⟩ W
          go_wp2_with fail
          go_quiet (fail)
          go_wp2_with fail
          clear x5 o0 w0 y0 y1 y2 y3 y4 y5 p1 p2 p3
          replace HB := hide (below_drewN (unhide HB) nq)
          have HX0 : Hid (Blk (w4.drewN nq) xb (cells18 r s t) 27) := hide (unhide HX)
          clear HX
          have HX := HX0
          clear HX0
          have HY0 : Hid (Blk (w4.drewN nq) yb _ 27) := hide (unhide HY)
          clear HY
          have HY := HY0
          clear HY0
          have HO0 : Hid (Blk (w4.drewN nq) ob _ 22) := hide (unhide HO)
          clear HO
          have HO := HO0
          clear HO0
          have HW0 : Hid (Blk (w4.drewN nq) (ob + 1) _ 22) := hide (unhide HW)
          clear HW
          have HW := HW0
          clear HW0
          generalize w4.drewN nq = w5 at *
          clear nq
          rw [rounds_succ]
          have x5 := (show Blk _ _ _ _ from unhide HX).at 11 (.int .i64 s.z) rfl
          have o0 := (show Blk _ _ _ _ from unhide HO).at 1 (.int .i64 (hadS l 2)) rfl
          have w0 := (show Blk _ _ _ _ from unhide HW).at 1 (.int .i64 (hasS l 2)) rfl
          have y0 := (show Blk _ _ _ _ from unhide HY).at 6 (.int .i64 (hadS l 2)) rfl
          have y1 := (show Blk _ _ _ _ from unhide HY).at 7 (.int .i64 0) rfl
          have y2 := (show Blk _ _ _ _ from unhide HY).at 8 (.int .i64 0) rfl
          have y3 := (show Blk _ _ _ _ from unhide HY).at 9 (.int .i64 0) rfl
          have y4 := (show Blk _ _ _ _ from unhide HY).at 10 (.int .i64 0) rfl
          have y5 := (show Blk _ _ _ _ from unhide HY).at 11 (.int .i64 (hadS l 2)) rfl
          have p1 : (s.z != hasS l 2) = false := by rw [unhide h2]; simp
          have p2 := bd26c (hadS l 2) (hadS l 2)
          have p3 : ∀ W, (Op.equalIn 10000 26 (.agg (cells6 ⟨(hadS l 2), 0, 0, 0, 0, (hadS l 2)⟩)) (.agg (cells6 ⟨(hadS l 2), 0, 0, 0, 0, (hadS l 2)⟩))).run Try.prog W = .ok true W := fun W => eqr26 9998 ⟨(hadS l 2), 0, 0, 0, 0, (hadS l 2)⟩ W
          go_wp2_with fail
          go_quiet (fail)
          go_wp2_with fail
          clear x5 o0 w0 y0 y1 y2 y3 y4 y5 p1 p2 p3
          replace HB := hide (below_drewN (unhide HB) nq)
          have HX1 : Hid (Blk (w5.drewN nq) xb (cells18 r s t) 27) := hide (unhide HX)
          clear HX
          have HX := HX1
          clear HX1
          have HY1 : Hid (Blk (w5.drewN nq) yb _ 27) := hide (unhide HY)
          clear HY
          have HY := HY1
          clear HY1
          have HO1 : Hid (Blk (w5.drewN nq) ob _ 22) := hide (unhide HO)
          clear HO
          have HO := HO1
          clear HO1
          have HW1 : Hid (Blk (w5.drewN nq) (ob + 1) _ 22) := hide (unhide HW)
          clear HW
          have HW := HW1
          clear HW1
          generalize w5.drewN nq = w6 at *
          clear nq
          rw [rounds_succ]
          have x5 := (show Blk _ _ _ _ from unhide HX).at 17 (.int .i64 t.z) rfl
          have o0 := (show Blk _ _ _ _ from unhide HO).at 2 (.int .i64 (hadS l 3)) rfl
          have w0 := (show Blk _ _ _ _ from unhide HW).at 2 (.int .i64 (hasS l 3)) rfl
          have y0 := (show Blk _ _ _ _ from unhide HY).at 12 (.int .i64 (hadS l 3)) rfl
          have y1 := (show Blk _ _ _ _ from unhide HY).at 13 (.int .i64 0) rfl
          have y2 := (show Blk _ _ _ _ from unhide HY).at 14 (.int .i64 0) rfl
          have y3 := (show Blk _ _ _ _ from unhide HY).at 15 (.int .i64 0) rfl
          have y4 := (show Blk _ _ _ _ from unhide HY).at 16 (.int .i64 0) rfl
          have y5 := (show Blk _ _ _ _ from unhide HY).at 17 (.int .i64 (hadS l 3)) rfl
          have p1 : (t.z != hasS l 3) = false := by rw [unhide h3]; simp
          have p2 := bd26c (hadS l 3) (hadS l 3)
          have p3 : ∀ W, (Op.equalIn 10000 26 (.agg (cells6 ⟨(hadS l 3), 0, 0, 0, 0, (hadS l 3)⟩)) (.agg (cells6 ⟨(hadS l 3), 0, 0, 0, 0, (hadS l 3)⟩))).run Try.prog W = .ok true W := fun W => eqr26 9998 ⟨(hadS l 3), 0, 0, 0, 0, (hadS l 3)⟩ W
          go_wp2_with fail
          go_quiet (fail)
          go_wp2_with fail
          clear x5 o0 w0 y0 y1 y2 y3 y4 y5 p1 p2 p3
          replace HB := hide (below_drewN (unhide HB) nq)
          have HX2 : Hid (Blk (w6.drewN nq) xb (cells18 r s t) 27) := hide (unhide HX)
          clear HX
          have HX := HX2
          clear HX2
          have HY2 : Hid (Blk (w6.drewN nq) yb _ 27) := hide (unhide HY)
          clear HY
          have HY := HY2
          clear HY2
          have HO2 : Hid (Blk (w6.drewN nq) ob _ 22) := hide (unhide HO)
          clear HO
          have HO := HO2
          clear HO2
          have HW2 : Hid (Blk (w6.drewN nq) (ob + 1) _ 22) := hide (unhide HW)
          clear HW
          have HW := HW2
          clear HW2
          generalize w6.drewN nq = w7 at *
          clear nq
          rw [rounds_succ]
          go_wp2_with fail
          go_ret
          exact ⟨rfl, unhide HB⟩
theorem walk (x : Option Addr) (n cap : Nat) (l : List Ch) (w : World) (hR : RowG 5 w (.slice x n cap) (l.map chL)) : Calls Try.prog 6 #[.slice x n cap] w fun e w' => e = .returned (.bool true) ∧ Below w.heap.size w w' := by
  have hl := rowG_len hR
  rw [List.length_map] at hl
  by_cases h1 : 300 < n
  · exact s_long x n cap (decide_eq_true (by omega)) (hide alive_any) w
  · have hf : ∀ y, x = some y → 0 < n → y.block < w.heap.size := fun y e h0 => by
      obtain ⟨b, off, cap', hx, _⟩ := hR.open (by rw [List.length_map]; omega)
      injection hx with e1 e2 e3
      rw [e1] at e
      cases e
      subst e1
      exact lt_of_cell (hR.cells (j := 0) (t := 0) (by rw [List.length_map]; omega) (by decide))
    exact s_ok x n cap l (decide_eq_false (by omega)) (by omega) (hide hl.symm) (hide alive_any) w (hide hR) (hide hf)
theorem own : ownKnob Try.prog.godebug = none := by kernel_rfl
theorem laidOut : laidOutB Try.prog = true := by kernel_rfl
set_option linter.unusedVariables false in
set_option maxRecDepth 100000 in
theorem lifted (os : Os) (started : os.Started) (H : Type) (enc : TypeId × Value → H) :
    ReturnsInHanded {} Try.checked os 6 .any (Rows.allowClosesSpec.pre6 enc Try.prog Try.f6 Rows.allowClosesRow.domain false) (Rows.allowClosesSpec.post enc Try.prog Try.f6 false true false false) := by
  refine returnsInHanded_of_change (C := Try.checked) own started (by kernel_rfl) Try.func6
    (ChangeSpec.witness6 (enc := enc) (C := Try.checked) false ⟨#[], #[.slice none 0 0], []⟩ 8 (by kernel_rfl) (by kernel_rfl) (by kernel_rfl) (by kernel_rfl)) ?_
  intro W base args ds gs before hval0 hW hcnd _
  have hval : ∀ (j : Nat) t v, Try.f6.params[j]? = some t → args[j]? = some v → Value.okWide Try.prog W .any base t v := hval0
  have hW' := hW
  obtain ⟨p, q, hA0, hV, rfl, hfz, hnd⟩ := hW
  have hA : DataW.TrodAll enc Try.prog W 0 (fun _ => true) true Try.f6.params.toList args.toList ds p := hA0
  rw [Try.params6] at hA hval
  obtain ⟨v0, vs0, d0, ds0, p0, q0, hargs, rfl, rfl, h0, r0⟩ := trodAll_cons hA
  obtain ⟨rfl, rfl, rfl⟩ := trodAll_nil r0
  obtain rfl : args = #[v0] := by cases args; simp_all
  obtain ⟨rfl, rfl⟩ := trodVars_none hV
  have k0 := h0
  have lt0 : ∀ x ∈ p0, x.block < W.heap.size := by obtain ⟨m, hm⟩ := k0; exact DataW.trod_lt m _ _ _ hm
  obtain ⟨a0, len0, cap0, rfl⟩ := okWide_slice Try.underlying23 (hval 0 23 v0 rfl rfl)
  obtain ⟨l0, hr0⟩ : ∃ l : List Ch, RowG 5 W (.slice a0 len0 cap0) (l.map chL) := by
    obtain ⟨fuel, hf⟩ := h0
    exact chs_open hf
  clear hA0 hval0
  refine (walk a0 len0 cap0 l0 W hr0).mono fun e W' ⟨he, bel⟩ => ?_
  subst he
  exact ⟨_, rfl, _, _, _, [], _, [], hW', trodAll_mk1 (shut_bool Try.underlying4 _), (trodAll_cons_mk (Below.trod laidOut (by kernel_rfl) (of_decide_eq_true (by kernel_rfl)) k0 bel lt0) trodAll_mk0), rfl, bel.frame _, fun h => by cases h⟩
theorem over : Rows.allowClosesRow.holds Try.pinned (OpenSpec.ofChange Rows.allowClosesSpec) :=
  OpenClaim.holds_of_wide 6 Try.f6 rfl rfl rfl rfl rfl rfl rfl ⟨rfl, rfl, rfl, rfl, rfl⟩ rfl rfl rfl rfl rfl (by kernel_rfl) Try.func6 (by kernel_rfl)
    (of_decide_eq_true (by kernel_rfl)) (by unfold Func.isWrapper; first | (rw [if_pos (by decide +kernel)]; kernel_rfl) | (rw [if_neg (by decide +kernel)]; exact ⟨rfl, rfl⟩))
    (fun os started H enc _ => lifted os started H enc)
theorem proved : Rows.AllowClosesSaid := over
end Go.Proofs.Ytkccladbcehdbaa.allowCloses
namespace Go.Proofs.Ytkccladbcehdbaa
theorem allowCloses_holds : Rows.AllowClosesSaid := allowCloses.proved
end Go.Proofs.Ytkccladbcehdbaa
