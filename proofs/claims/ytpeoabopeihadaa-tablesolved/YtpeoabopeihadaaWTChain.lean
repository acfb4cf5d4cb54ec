/- All of a table's rows: chain, and Roll. -/
import Derived.Test.YtpeoabopeihadaaWTStep
import Derived.Deep.CutRange
import Derived.Deep.CutBlock
set_option linter.unusedVariables false
set_option linter.unusedSimpArgs false
set_option linter.unusedSectionVars false
namespace Go.Proofs.Ytpeoabopeihadaa.Mn
open Go.RowKit
attribute [local simp] Tri.typeInfo Tri.sizeOf Tri.underlying Tri.runUnderlying Tri.isAgg Tri.zeroValue Tri.depth Tri.stoodInHeld Tri.eqGuardType Tri.call15 Tri.call22 Tri.call23 Tri.call24 Tri.call25 Tri.call46 Tri.call49 Tri.call52 Tri.call54 Tri.call58 Tri.call59 Tri.call60 Tri.call61 Tri.call62 Tri.call63 Tri.call64 Tri.call65 Tri.call66 Tri.call67 Tri.call95 Tri.call106 Tri.call115 Tri.call116 Tri.call117 Tri.call118 Tri.call119 Tri.call120 Tri.call121 Tri.call122 Tri.call142 Tri.call143 Tri.call144 Tri.call145 Tri.call146 Tri.call147 Tri.call156 Tri.call157 Tri.call159 Tri.call160 Tri.call161 Tri.call162 Tri.call163 Tri.call164 Tri.call165 Tri.call175 Tri.call176 Tri.call186 Tri.call188 Tri.call205
theorem info49 : ((Tri Try.prog).info? 49).map (fun i => (i.zero, i.size, i.bytes)) = some (some (.agg #[.int .i64 0, .int .i64 0, .int .i64 0, .int .i64 0]), 4, 32) := by kernel_rfl
theorem make_rows (n : Nat) (hn : n ≤ 1000) (w : World) : (Instr.makeSlice 43 (.int .i64 (n : Int)) (.int .i64 (n : Int))).run (Tri Try.prog) w = .ok (.slice (some ⟨w.heap.size, 0, none⟩) n n) (w.alloc (.cells (madeCells #[.int .i64 0, .int .i64 0, .int .i64 0, .int .i64 0] (n * 4)) 49)) := by
  obtain ⟨i, hi, hz, hs, hb⟩ := info_parts info49
  have hr := run_make (P := (Tri Try.prog)) w 43 49 i _ (Tri.und Try.underlying43) hi hz .i64 .i64 n n (by omega) (Int.le_refl _) (by rw [hb]; omega) (by omega)
  simp only [Int.toNat_natCast, hs] at hr
  exact hr
theorem made_zero (w : World) (n : Nat) : (w.alloc (.cells (madeCells #[.int .i64 0, .int .i64 0, .int .i64 0, .int .i64 0] (n * 4)) 49)).rowIs w.heap.size 49 (n * 4) (fun _ => .int .i64 0) := by
  have hs : (madeCells #[Value.int .i64 0, .int .i64 0, .int .i64 0, .int .i64 0] (n * 4)).size = n * 4 := size_madeCells _ _
  have h := World.rowIs_alloc w (madeCells #[.int .i64 0, .int .i64 0, .int .i64 0, .int .i64 0] (n * 4)) 49 (fun _ => .int .i64 0) (fun i hi => by
    rw [hs] at hi
    have h4 : i % 4 = 0 ∨ i % 4 = 1 ∨ i % 4 = 2 ∨ i % 4 = 3 := by omega
    rcases h4 with e | e | e | e <;> simp [madeCells, hi, e])
  rwa [hs] at h
def fl (o r : Int) (l : List Int) (j : Nat) : Int := (rowAt o r l (j / 4)).getD (j % 4) 0
theorem fl_at (o r : Int) (l : List Int) (k t : Nat) (ht : t < 4) : fl o r l (k * 4 + t) = (rowAt o r l k).getD t 0 := by
  unfold fl
  rw [show (k * 4 + t) / 4 = k from by omega, show (k * 4 + t) % 4 = t from by omega]
structure CS (w wr : World) (o r : Int) (l : List Int) (n k : Nat) : Prop where
  bel : Below w.heap.size w wr
  made : wr.rowIs (w.heap.size + 1) 49 (n * 4) (fun j => .int .i64 (if j < k * 4 then fl o r l j else 0))
  box : ∃ a b c, R4 wr w.heap.size 49 a b c (st o r l k)
section
variable {w wr wr' : World} {o r : Int} {l : List Int} {n k : Nat}
theorem CS.keep (h : CS w wr o r l n k) (hb : Below wr.heap.size wr wr') : CS w wr' o r l n k := by
  obtain ⟨a, b, c, h3⟩ := h.box
  exact ⟨below_via h.bel hb, h.made.of_block (hb.block _ h.made.lt), a, b, c, h3.keep hb⟩
theorem tmade_put {f : Nat → Int} {g : Nat} (h : wr.rowIs g 49 (n * 4) (fun j => .int .i64 (f j))) (a b c d : Int) (F : Nat → Int) (hF : ∀ j, j < n * 4 → F j = if j = k * 4 + 3 then d else if j = k * 4 + 2 then c else if j = k * 4 + 1 then b else if j = k * 4 then a else f j) : (put4 wr g (k * 4) a b c d).rowIs g 49 (n * 4) (fun j => .int .i64 (F j)) :=
  ((((h.set (k * 4) _).set (k * 4 + 1) _).set (k * 4 + 2) _).set (k * 4 + 3) _).congr (fun j hj => by
    rw [hF j hj]
    by_cases e3 : j = k * 4 + 3
    · simp only [e3, if_true]
    · by_cases e2 : j = k * 4 + 2
      · rw [if_neg e3, if_pos e2, if_neg e3, if_pos e2]
      · by_cases e1 : j = k * 4 + 1
        · rw [if_neg e3, if_neg e2, if_pos e1, if_neg e3, if_neg e2, if_pos e1]
        · by_cases e0 : j = k * 4
          · rw [if_neg e3, if_neg e2, if_neg e1, if_pos e0, if_neg e3, if_neg e2, if_neg e1, if_pos e0]
          · rw [if_neg e3, if_neg e2, if_neg e1, if_neg e0, if_neg e3, if_neg e2, if_neg e1, if_neg e0])
theorem fl_step (o r : Int) (l : List Int) (k j : Nat) : (if j < (k + 1) * 4 then fl o r l j else 0) = if j = k * 4 + 3 then st o r l (k + 1) else if j = k * 4 + 2 then l.getD k 0 else if j = k * 4 + 1 then inr o r l k else if j = k * 4 then st o r l k else if j < k * 4 then fl o r l j else 0 := by
  by_cases e3 : j = k * 4 + 3
  · subst e3; rw [if_pos (by omega), if_pos rfl, fl_at _ _ _ _ _ (by omega)]; rfl
  rw [if_neg e3]
  by_cases e2 : j = k * 4 + 2
  · subst e2; rw [if_pos (by omega), if_pos rfl, fl_at _ _ _ _ _ (by omega)]; rfl
  rw [if_neg e2]
  by_cases e1 : j = k * 4 + 1
  · subst e1; rw [if_pos (by omega), if_pos rfl, fl_at _ _ _ _ _ (by omega)]; rfl
  rw [if_neg e1]
  by_cases e0 : j = k * 4
  · subst e0
    rw [if_pos (by omega), if_pos rfl]
    have := fl_at o r l k 0 (by omega)
    rw [Nat.add_zero] at this
    rw [this]; rfl
  rw [if_neg e0]
  by_cases c : j < k * 4
  · rw [if_pos c, if_pos (by omega)]
  · rw [if_neg c, if_neg (by omega)]
theorem CS.put1 (h : CS w wr o r l n k) : CS w (put4 (put4 wr (w.heap.size + 1) (k * 4) (st o r l k) (inr o r l k) (l.getD k 0) (st o r l (k + 1))) w.heap.size 0 (st o r l k) (inr o r l k) (l.getD k 0) (st o r l (k + 1))) o r l n (k + 1) := by
  obtain ⟨a, b, c, h3⟩ := h.box
  refine ⟨below_put4 (below_put4 h.bel (by omega)) (Nat.le_refl _), ?_, _, _, _, (h3.other (by omega) _ _ _ _).put _ _ _ _⟩
  exact (tmade_put h.made _ _ _ _ (fun j => if j < (k + 1) * 4 then fl o r l j else 0) (fun j _ => fl_step o r l k j)).of_block (blk_put4 (by omega))
theorem CS.put2 (h : CS w wr o r l n k) : CS w (put4 (put4 wr w.heap.size 0 (st o r l k) (inr o r l k) (l.getD k 0) (st o r l (k + 1))) (w.heap.size + 1) (k * 4) (st o r l k) (inr o r l k) (l.getD k 0) (st o r l (k + 1))) o r l n (k + 1) := by
  obtain ⟨a, b, c, h3⟩ := h.box
  refine ⟨below_put4 (below_put4 h.bel (Nat.le_refl _)) (by omega), ?_, _, _, _, (h3.put _ _ _ _).other (by omega) _ _ _ _⟩
  exact tmade_put (h.made.of_block (blk_put4 (by omega))) _ _ _ _ (fun j => if j < (k + 1) * 4 then fl o r l j else 0) (fun j _ => fl_step o r l k j)
theorem CS.drewN (h : CS w wr o r l n k) (m : Nat) : CS w (wr.drewN m) o r l n k := ⟨below_drewN h.bel m, h.made, h.box⟩
theorem CS.start (w : World) (o r : Int) (l : List Int) (n : Nat) : CS w ((w.alloc (.cells #[.int .i64 0, .int .i64 0, .int .i64 0, .int .i64 o] 49)).alloc (.cells (madeCells #[.int .i64 0, .int .i64 0, .int .i64 0, .int .i64 0] (n * 4)) 49)) o r l n 0 := by
  have h := made_zero (w.alloc (.cells #[.int .i64 0, .int .i64 0, .int .i64 0, .int .i64 o] 49)) n
  rw [show (w.alloc (.cells #[.int .i64 0, .int .i64 0, .int .i64 0, .int .i64 o] 49)).heap.size = w.heap.size + 1 from by simp] at h
  exact ⟨(below1 w _).alloc (by simp) _, h.congr (fun j _ => by rw [Nat.zero_mul, if_neg (Nat.not_lt_zero j)]), 0, 0, 0, (R4.new w 49 0 0 0 o).alloc _⟩
theorem CS.row (h : CS w wr o r l n k) (hn : n ≤ 1000) (hk : k = n) (hs : SmallN 4 (rowsUp o r l n)) : RowN 4 wr (.slice (some ⟨w.heap.size + 1, 0, none⟩) n n) (rowsUp o r l n) := by
  subst hk
  by_cases h0 : k = 0
  · subst h0
    exact Or.inl ⟨_, _, rfl, rfl, fun c => (by cases c)⟩
  · refine Or.inr ⟨w.heap.size + 1, 0, k, by rw [rowsUp_len], by rw [rowsUp_len]; omega, by rw [rowsUp_len]; exact Nat.le_refl _, by unfold maxLen; omega, fun j hj t ht => ?_, hs⟩
    rw [rowsUp_len] at hj
    have hlt : j * 4 + t < k * 4 := by omega
    rw [Nat.zero_add, h.made.cell hlt, getN_rows hj]
    show some (Value.int .i64 (if j * 4 + t < k * 4 then fl o r l (j * 4 + t) else 0)) = _
    rw [if_pos hlt, fl_at _ _ _ _ _ ht]
end
def ChainA (w : World) (o : Int) (v : Value) (br : Nat) (rows : List (List Int)) (e : Int) : Prop := Calls (Tri Try.prog) 61 #[rowV 0 0 0 o, v, .func (.func 62) #[] #[.pointer (some ⟨br, 0, none⟩)]] w fun z w' => ∃ u, z = .returned (.tuple #[u, .int .i64 e]) ∧ RowN 4 w' u rows ∧ Below w.heap.size w w'
set_option maxRecDepth 20000 in
set_option maxHeartbeats 4000000 in
theorem chain_any {o r : Int} {l : List Int} {b off cap br : Nat} {w : World} {rows : List (List Int)} {e : Int} (hk : RollOk o l r) (hr : w.cell? ⟨br, 0, none⟩ = some (.int .i64 r)) (hc : ∀ j, j < l.length → w.cell? ⟨b, off + j, none⟩ = some (.int .i64 (l.getD j 0)))
    (he : (e = 0 ∧ rows = rowsUp o r l l.length ∧ ∀ j, j < l.length → ¬ over o r l j) ∨ (e = 3 ∧ rows = [] ∧ ∃ j, j < l.length ∧ over o r l j)) : ChainA w o (.slice (some ⟨b, off, none⟩) l.length cap) br rows e := by
  unfold ChainA
  have HK := hide hk
  have HC := hide hc
  have HE := hide he
  have HR := hide hr
  have HS := hide (CS.start w o r l l.length)
  have hlast : Hid (∀ k : Nat, ((k : Int) == (l.length : Int) - 1) = isLast l k) := hide (fun k => by
    unfold isLast
    have := hk.n0
    by_cases q : k + 1 = l.length
    · rw [decide_eq_true q, beq_iff_eq]; omega
    · rw [decide_eq_false q, beq_eq_false_iff_ne]; omega)
  have n0 := hk.n0
  have n1 := hk.n1
  have hmk := make_rows l.length (by omega)
  clear hk hc he hr
  generalize hlen : l.length = n at *
  have HN := hide hlen
  clear hlen
  go_enter (Tri.at (by decide) Try.func61), Try.ntmps61
  go_wp2_with fail
  clear hmk
  go_loopw [18] (fun i wr => ∃ k : Nat, k ≤ n ∧ i = .int .i64 k ∧ Hid (CS w wr o r l n k) ∧ Hid (∀ j, j < k → ¬ over o r l j)) (fun i _ => n - (intOf i).toNat)
  case atStart => exact ⟨0, Nat.zero_le _, rfl, HS, hide (fun j hj => absurd hj (Nat.not_lt_zero j))⟩
  case round =>
    clear HS
    obtain ⟨k, hk, rfl, HS, HO⟩ := hrel
    by_cases hlt : k < n
    · have k1 : (k : Int) < (n : Int) := by omega
      have ck := ((unhide HS).bel.cell (p := ⟨b, off + k, none⟩) (lt_of_cell (unhide HC k hlt))).trans (unhide HC k hlt)
      have cr := ((unhide HS).bel.cell (p := ⟨br, 0, none⟩) (lt_of_cell (unhide HR))).trans (unhide HR)
      obtain ⟨a0, a1, a2, hbx⟩ := (unhide HS).box
      have x0 := hbx.c0
      have x1 := hbx.c1
      have x2 := hbx.c2
      have x3 := hbx.c3
      have tl := unhide hlast k
      have hcr := hide cr
      clear hbx cr
      by_cases hov : over o r l k
      · have HX := hide (next_over (unhide HK) (unhide HO) hov)
        have HF : Hid (e = 3 ∧ rows = []) := hide (by
          rcases unhide HE with ⟨_, _, h⟩ | ⟨h1, h2, _⟩
          · exact absurd hov (h k hlt)
          · exact ⟨h1, h2⟩)
        unfold NextA at HX
        have HQ := hide (unhide HX _ a0 a1 a2 br (unhide hcr))
        generalize st o r l k = x at *
        generalize l.getD k 0 = p at *
        generalize isLast l k = q at *
        have t : ((3 : Int) != 0) = true := rfl
        clear HX hov HO
        go_wp2_with fail
        refine (unhide HQ).mono ?_
        rintro e1 w1 ⟨rfl, hb⟩
        have HB := hide (below_via (unhide HS).bel hb)
        clear hb
        go_wp2_with fail
        go_ret2
        exact ⟨_, by rw [(unhide HF).1]; rfl, by rw [(unhide HF).2]; exact rowN_nil _ _, (unhide HB).alloc (unhide HB).size _⟩
      · have HO2 : Hid (∀ j, j < k + 1 → ¬ over o r l j) := hide (fun j hj => by
          by_cases c : j = k
          · rw [c]; exact hov
          · exact unhide HO j (by omega))
        have HX := hide (next_fine (unhide HK) (unhide HO2))
        unfold NextA at HX
        have HQ := hide (unhide HX _ a0 a1 a2 br (unhide hcr))
        have HP1 := hide (fun (W : World) (h : CS w W o r l n k) => h.put1)
        have HP2 := hide (fun (W : World) (h : CS w W o r l n k) => h.put2)
        generalize st o r l (k + 1) = y at *
        generalize inr o r l k = i at *
        generalize l.getD k 0 = p at *
        generalize isLast l k = q at *
        have t : ((0 : Int) != 0) = false := rfl
        obtain ⟨x, hx⟩ : ∃ x, st o r l k = x := ⟨_, rfl⟩
        rw [hx] at HQ x3 HP1 HP2
        clear HX hov HO
        go_wp2_with fail
        refine (unhide HQ).mono ?_
        rintro e1 w1 ⟨rfl, hb⟩
        have HS1 := hide ((unhide HS).keep hb)
        have HS2 := hide ((unhide HS1).keep (below1 w1 (.cells #[.int .i64 x, .int .i64 i, .int .i64 p, .int .i64 y] 49)))
        clear hb x0 x1 x2 x3 HS ck
        have m0 := (unhide HS1).made.cell (show k * 4 < n * 4 by omega)
        have m1 := (unhide HS1).made.cell (show k * 4 + 1 < n * 4 by omega)
        have m2 := (unhide HS1).made.cell (show k * 4 + 2 < n * 4 by omega)
        have m3 := (unhide HS1).made.cell (show k * 4 + 3 < n * 4 by omega)
        have f0 := (unhide HS1).made.frozen (k * 4)
        have f1 := (unhide HS1).made.frozen (k * 4 + 1)
        have f2 := (unhide HS1).made.frozen (k * 4 + 2)
        have f3 := (unhide HS1).made.frozen (k * 4 + 3)
        obtain ⟨b0, b1, b2, hbx⟩ := (unhide HS1).box
        have x0 := hbx.c0
        have x1 := hbx.c1
        have x2 := hbx.c2
        have x3 := hbx.c3
        have z0 := hbx.fz 0
        have z1 := hbx.fz 1
        have z2 := hbx.fz 2
        have z3 := hbx.fz 3
        have hl0 : w.heap.size < w1.heap.size := hbx.lt
        have hl1 : w.heap.size + 1 < w1.heap.size := (unhide HS1).made.lt
        have HX := hide hx
        have q0 : ¬ w.heap.size = w1.heap.size := by omega
        have q1 : ¬ w.heap.size + 1 = w1.heap.size := by omega
        clear hbx hx
        go_wp2_with fail
        go_region
        have HD := hide (((unhide HP1 _ (unhide HS1)).keep (below1 _ (.cells #[.int .i64 x, .int .i64 i, .int .i64 p, .int .i64 y] 49))).drewN 1)
        clear m0 m1 m2 m3 f0 f1 f2 f3 x0 x1 x2 x3 z0 z1 z2 z3
        go_wp2_with fail
        go_roundw
        case rel => exact ⟨k + 1, by omega, by go_num, HD, HO2⟩
        case measure => simp [intOf]; omega
    · have ek : k = n := by omega
      subst ek
      have HF : Hid (e = 0 ∧ rows = rowsUp o r l k) := hide (by
        rcases unhide HE with ⟨h1, h2, _⟩ | ⟨_, _, j, h1, h2⟩
        · exact ⟨h1, h2⟩
        · exact absurd h2 (unhide HO j h1))
      have HW := hide ((unhide HS).row (by omega) rfl (rows_small (unhide HK) (unhide HO)))
      go_wp2_with fail
      go_ret2
      exact ⟨_, by rw [(unhide HF).1]; rfl, by rw [(unhide HF).2]; exact unhide HW, (unhide HS).bel⟩
def RollA (f : Nat) (w : World) (o : Int) (v : Value) (r : Int) (rows : List (List Int)) (e : Int) : Prop := Calls (Tri Try.prog) f #[.int .i64 o, v, .int .i64 r] w fun z w' => ∃ u, z = .returned (.tuple #[u, .int .i64 e]) ∧ RowN 4 w' u rows ∧ Below w.heap.size w w'
theorem roll_no {w : World} {o r : Int} {v : Value} {l : List Int} (h : Row w v l) (hk : ¬ RollOk o l r) : RollA 23 w o v r [] 2 := by
  unfold RollA
  have HM := hide (tmay_no' (h.alloc (.cells #[.int .i64 r] 2)) hk)
  unfold tMayA at HM
  clear h hk
  go_enter (Tri.at (by decide) Try.func23), Try.ntmps23
  go_wp2_with fail
  refine (unhide HM).mono ?_
  rintro e w1 ⟨rfl, rfl⟩
  go_wp2_with fail
  go_ret2
  exact ⟨_, rfl, rowN_nil _ _, below1 _ _⟩
theorem roll_yes {w : World} {o r : Int} {v : Value} {l : List Int} {rows : List (List Int)} {e : Int} (h : Row w v l) (hk : RollOk o l r) (he : (e = 0 ∧ rows = rowsUp o r l l.length ∧ ∀ j, j < l.length → ¬ over o r l j) ∨ (e = 3 ∧ rows = [] ∧ ∃ j, j < l.length ∧ over o r l j)) : RollA 23 w o v r rows e := by
  unfold RollA
  have HM := hide (tmay_yes' (h.alloc (.cells #[.int .i64 r] 2)) hk)
  unfold tMayA at HM
  have HC : Hid (ChainA (w.alloc (.cells #[.int .i64 r] 2)) o v w.heap.size rows e) := by
    rcases h.alloc (.cells #[.int .i64 r] 2) with ⟨a, cap, rfl, rfl⟩ | ⟨b, off, cap, rfl, _, _, hc, _⟩
    · have := hk.n0; simp at this
    · exact hide (chain_any hk (by rw [World.cell?_alloc_at _ _ _ _ rfl]; rfl) hc he)
  unfold ChainA at HC
  clear h hk he
  go_enter (Tri.at (by decide) Try.func23), Try.ntmps23
  go_wp2_with fail
  refine (unhide HM).mono ?_
  rintro e1 w1 ⟨rfl, rfl⟩
  go_wp2_with fail
  refine (unhide HC).mono ?_
  rintro e1 w1 ⟨u, rfl, hu, hb⟩
  have HB := hide (below_via (below1 w (.cells #[.int .i64 r] 2)) hb)
  have HU := hide hu
  clear hb hu
  go_wp2_with fail
  go_ret2
  exact ⟨_, rfl, unhide HU, unhide HB⟩
theorem roll_any {w : World} {o r : Int} {v : Value} {l : List Int} {rows : List (List Int)} {e : Int} (h : Row w v l) (hr : Res o l r rows e) : RollA 23 w o v r rows e := by
  rcases hr with ⟨rfl, rfl, hk⟩ | ⟨hk, he⟩
  · exact roll_no h hk
  · exact roll_yes h hk he
end Go.Proofs.Ytpeoabopeihadaa.Mn
