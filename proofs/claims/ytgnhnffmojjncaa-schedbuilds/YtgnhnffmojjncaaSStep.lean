/- One period of a loan, as sched takes it. -/
import Derived.Test.YtgnhnffmojjncaaSPart
namespace Go.Proofs.Ytgnhnffmojjncaa.Mn
open Go.RowKit
set_option linter.unusedSimpArgs false
theorem pays_1 {w : World} {b : Nat} {v : Int} {R : World → Prop} (c0 : w.cell? ⟨b, 0, none⟩ = some (.int .i64 1)) (H : Hid (∀ W, Below w.heap.size w W → Calls Try.prog 41 #[.pointer (some ⟨b, 0, none⟩)] W fun e w' => e = .returned (.int .i64 v) ∧ R w')) :
    Calls Try.prog 35 #[.pointer (some ⟨b, 0, none⟩)] w fun e w' => e = .returned (.int .i64 v) ∧ R w' := by
  have hb := lt_of_cell c0
  go_enter Try.func35, Try.ntmps35
  go_wp2_with fail
  refine (unhide H _ ((Below.refl _ _).alloc (Nat.le_refl _) _)).mono ?_
  rintro e w1 ⟨rfl, hr⟩
  have HR := hide hr
  clear hr
  go_wp2_with fail
  go_ret
  exact ⟨rfl, unhide HR⟩
theorem pays_2 {w : World} {b : Nat} {v : Int} {R : World → Prop} (c0 : w.cell? ⟨b, 0, none⟩ = some (.int .i64 2)) (H : Hid (∀ W, Below w.heap.size w W → Calls Try.prog 42 #[.pointer (some ⟨b, 0, none⟩)] W fun e w' => e = .returned (.int .i64 v) ∧ R w')) :
    Calls Try.prog 35 #[.pointer (some ⟨b, 0, none⟩)] w fun e w' => e = .returned (.int .i64 v) ∧ R w' := by
  have hb := lt_of_cell c0
  go_enter Try.func35, Try.ntmps35
  go_wp2_with fail
  refine (unhide H _ ((Below.refl _ _).alloc (Nat.le_refl _) _)).mono ?_
  rintro e w1 ⟨rfl, hr⟩
  have HR := hide hr
  clear hr
  go_wp2_with fail
  go_ret
  exact ⟨rfl, unhide HR⟩
theorem pays_3 {w : World} {b : Nat} {v : Int} {R : World → Prop} (c0 : w.cell? ⟨b, 0, none⟩ = some (.int .i64 3)) (H : Hid (∀ W, Below w.heap.size w W → Calls Try.prog 43 #[.pointer (some ⟨b, 0, none⟩)] W fun e w' => e = .returned (.int .i64 v) ∧ R w')) :
    Calls Try.prog 35 #[.pointer (some ⟨b, 0, none⟩)] w fun e w' => e = .returned (.int .i64 v) ∧ R w' := by
  have hb := lt_of_cell c0
  go_enter Try.func35, Try.ntmps35
  go_wp2_with fail
  refine (unhide H _ ((Below.refl _ _).alloc (Nat.le_refl _) _)).mono ?_
  rintro e w1 ⟨rfl, hr⟩
  have HR := hide hr
  clear hr
  go_wp2_with fail
  go_ret
  exact ⟨rfl, unhide HR⟩
theorem pays_4 {w : World} {b : Nat} {v : Int} {R : World → Prop} (c0 : w.cell? ⟨b, 0, none⟩ = some (.int .i64 4)) (H : Hid (∀ W, Below w.heap.size w W → Calls Try.prog 44 #[.pointer (some ⟨b, 0, none⟩)] W fun e w' => e = .returned (.int .i64 v) ∧ R w')) :
    Calls Try.prog 35 #[.pointer (some ⟨b, 0, none⟩)] w fun e w' => e = .returned (.int .i64 v) ∧ R w' := by
  have hb := lt_of_cell c0
  go_enter Try.func35, Try.ntmps35
  go_wp2_with fail
  refine (unhide H _ ((Below.refl _ _).alloc (Nat.le_refl _) _)).mono ?_
  rintro e w1 ⟨rfl, hr⟩
  have HR := hide hr
  clear hr
  go_wp2_with fail
  go_ret
  exact ⟨rfl, unhide HR⟩
theorem Row.ne_new {w : World} {v : Value} {zs : List Int} (h : Row w v zs) : zs = [] ∨ v.ownBlock ≠ some w.heap.size := by
  rcases h with ⟨a, c, _, h⟩ | ⟨b, off, c, rfl, h0, _, h4, _⟩
  · exact Or.inl h
  · refine Or.inr (fun q => ?_)
    have := lt_of_cell (h4 0 h0)
    have e : b = w.heap.size := Option.some.inj q
    omega
/-- Block g is a row of a period. -/
def Rw (w : World) (g : Nat) (p q r s : Int) : Prop := w.heap[g]? = some (.cells #[.int .i64 p, .int .i64 q, .int .i64 r, .int .i64 s] 43 (0, 0))
theorem gb_row4 (w : World) (g : Nat) (p q r s : Int) : w.grownBy ((((w.setCell ⟨g, 0, none⟩ (.int .i64 p)).setCell ⟨g, 1, none⟩ (.int .i64 q)).setCell ⟨g, 2, none⟩ (.int .i64 r)).setCell ⟨g, 3, none⟩ (.int .i64 s)).drew (some g) :=
  gb_trans (gb_trans (gb_trans (gb_trans (gb_set _ _ _ _) (gb_set _ _ _ _)) (gb_set _ _ _ _)) (gb_set _ _ _ _)) (gb_drewN _ 1 _)
theorem Rw.put4 {w : World} {g : Nat} {a b c d : Int} (h : Rw w g a b c d) (p q r s : Int) : Rw ((((w.setCell ⟨g, 0, none⟩ (.int .i64 p)).setCell ⟨g, 1, none⟩ (.int .i64 q)).setCell ⟨g, 2, none⟩ (.int .i64 r)).setCell ⟨g, 3, none⟩ (.int .i64 s)).drew g p q r s := by
  have h1 : Rw (w.setCell ⟨g, 0, none⟩ (.int .i64 p)) g p b c d := by unfold Rw; rw [Go.heap_setCell_same w g 0 _ _ _ h]; rfl
  have h2 : Rw ((w.setCell ⟨g, 0, none⟩ (.int .i64 p)).setCell ⟨g, 1, none⟩ (.int .i64 q)) g p q c d := by unfold Rw; rw [Go.heap_setCell_same _ g 1 _ _ _ h1]; rfl
  have h3 : Rw (((w.setCell ⟨g, 0, none⟩ (.int .i64 p)).setCell ⟨g, 1, none⟩ (.int .i64 q)).setCell ⟨g, 2, none⟩ (.int .i64 r)) g p q r d := by unfold Rw; rw [Go.heap_setCell_same _ g 2 _ _ _ h2]; rfl
  show Rw _ g p q r s
  unfold Rw
  exact (Go.heap_setCell_same _ g 3 _ _ _ h3).trans rfl
/-- A block that is new since w does not count. -/
theorem gb_past {w W w' : World} {b g : Nat} (h : w.grownBy W (some b)) (k : W.grownBy w' (some g)) (hg : w.heap.size ≤ g) : w.grownBy w' (some b) :=
  ⟨k.os.trans h.os, k.tape.trans h.tape, k.output.trans h.output, Nat.le_trans h.size k.size, fun i hi hne => (k.block i (Nat.lt_of_lt_of_le hi h.size) (fun c => by have := Option.some.inj c; omega)).trans (h.block i hi hne)⟩
/-- Since w, in w' nothing but block b has turned; block b is that loan, with some interest; the rates are there, and the parts; block g is an empty row. -/
structure TS (w w' : World) (b g : Nat) (kd P : Int) (rv : Value) (rs : List Int) (n : Nat) (i x l : Int) (pv : Value) (pr : Prop) : Prop where
  ex : ∃ q, Crs w' b kd P rv n i x q l pv
  row : Row w' rv rs
  parts : pr → PRow w' pv P n
  blk : Rw w' g 0 0 0 0
  gb : w.grownBy w' (some b)
section
variable {w w' w2 : World} {b g : Nat} {kd P : Int} {rv : Value} {rs : List Int} {n : Nat} {i x l : Int} {pv : Value} {pr : Prop}
theorem Rw.c0 {p q r s : Int} (h : Rw w g p q r s) : w.cell? ⟨g, 0, none⟩ = some (.int .i64 p) := by rw [cell_of_row w g 0 _ _ _ h]; rfl
theorem Rw.c1 {p q r s : Int} (h : Rw w g p q r s) : w.cell? ⟨g, 1, none⟩ = some (.int .i64 q) := by rw [cell_of_row w g 1 _ _ _ h]; rfl
theorem Rw.c2 {p q r s : Int} (h : Rw w g p q r s) : w.cell? ⟨g, 2, none⟩ = some (.int .i64 r) := by rw [cell_of_row w g 2 _ _ _ h]; rfl
theorem Rw.c3 {p q r s : Int} (h : Rw w g p q r s) : w.cell? ⟨g, 3, none⟩ = some (.int .i64 s) := by rw [cell_of_row w g 3 _ _ _ h]; rfl
theorem Rw.fz {p q r s : Int} (h : Rw w g p q r s) (j : Nat) : w.frozen? ⟨g, j, none⟩ = false := frozen_of_row w g j _ _ h
theorem Rw.lt {p q r s : Int} (h : Rw w g p q r s) : g < w.heap.size := (Array.getElem?_eq_some_iff.1 h).1
theorem TS.s (h : TS w w' b g kd P rv rs n i x l pv pr) : w'.cell? ⟨b, 5, none⟩ = some (.int .i64 x) ∧ Hid (TS w w' b g kd P rv rs n i x l pv pr) := by
  obtain ⟨q, hl⟩ := h.ex
  exact ⟨hl.c5, hide h⟩
theorem TS.keep (h : TS w w' b g kd P rv rs n i x l pv pr) (hb : Below w'.heap.size w' w2) : TS w w2 b g kd P rv rs n i x l pv pr := by
  obtain ⟨q, hl⟩ := h.ex
  exact ⟨⟨q, hl.keep hb⟩, h.row.below hb (Nat.le_refl _), fun z => (h.parts z).keep hb, (hb.block g h.blk.lt).trans h.blk, gb_trans h.gb (gb_below hb _)⟩
theorem TS.drewN (h : TS w w' b g kd P rv rs n i x l pv pr) (m : Nat) : TS w (w'.drewN m) b g kd P rv rs n i x l pv pr := by
  obtain ⟨q, hl⟩ := h.ex
  exact ⟨⟨q, hl.drewN m⟩, h.row.drewN m, fun z => (h.parts z).drewN m, h.blk, gb_trans h.gb (gb_drewN _ m _)⟩
theorem TS.put (h : TS w w' b g kd P rv rs n i x l pv pr) (hg : g ≠ b) (hne : rv.ownBlock ≠ some b) (v : Int) : TS w (w'.setCell ⟨b, 6, none⟩ (.int .i64 v)) b g kd P rv rs n i x l pv pr := by
  obtain ⟨q, hl⟩ := h.ex
  exact ⟨⟨v, hl.set6 v⟩, h.row.far (gb_set _ _ _ _) hne, fun z => (h.parts z).gb (gb_set _ _ _ _) hl (by decide), ((gb_set w' b 6 (.int .i64 v)).block g h.blk.lt (fun c => hg (Option.some.inj c))).trans h.blk, gb_trans h.gb (gb_set _ _ _ _)⟩
end
/-- What the loan's block is behind a period: what is left, the interest, the level payment; the parts, if there are to be some; the rates; nothing else has turned. -/
def After (w w' : World) (b : Nat) (kd P : Int) (rv : Value) (rs : List Int) (n : Nat) (i x q l : Int) (pr : Prop) : Prop :=
  ∃ pv, Crs w' b kd P rv n i x q l pv ∧ (pr → PRow w' pv P n) ∧ Row w' rv rs ∧ w.grownBy w' (some b)
set_option maxHeartbeats 2000000 in
theorem step_mid {w : World} {b : Nat} {kd P : Int} {rv : Value} {rs : List Int} {n i : Nat} {i0 x q0 l l' v r : Int} {pv : Value} {pr pr' : Prop} (hC : Crs w b kd P rv n i0 x q0 l pv) (hR : Row w rv rs) (hP : pr → PRow w pv P n) (hne : rv.ownBlock ≠ some b) (h0 : 0 < rs.length) (h1 : rs.length ≤ 600)
    (x0 : 0 ≤ x) (x1 : x ≤ 10000000000000) (n0 : i + 1 < n) (n1 : n ≤ 600) (er : rtAt rs i = r) (hr : bearB r = true) (v0 : 0 ≤ v) (v1 : v ≤ 40000000000000)
    (H : ∀ W, Crs W b kd P rv n i x (qI x r) l pv → Row W rv rs → (pr → PRow W pv P n) → Calls Try.prog 35 #[.pointer (some ⟨b, 0, none⟩)] W fun e w' => e = .returned (.int .i64 v) ∧ After W w' b kd P rv rs n i x (qI x r) l' pr') :
    Calls Try.prog 21 #[.pointer (some ⟨b, 0, none⟩), .int .i64 i] w fun e w' => e = .returned (.agg #[.int .i64 (qI x r), .int .i64 v, .int .i64 (v - qI x r), .int .i64 (x - (v - qI x r))]) ∧ After w w' b kd P rv rs n i (x - (v - qI x r)) (qI x r) l' pr' := by
  obtain ⟨r0, r1⟩ := bearB_bd hr
  have hI := hide (int1_any x0 (by omega) r0 r1)
  obtain ⟨q1, q2⟩ := qI_bd x0 r0 r1
  unfold Int1 at hI
  generalize qI x r = q at *
  have HRt : Hid (∀ w', Crs w' b kd P rv n i x q0 l pv → Row w' rv rs → Calls Try.prog 34 #[.pointer (some ⟨b, 0, none⟩), .int .i64 i] w' fun e w'' => e = .returned (.int .i64 r) ∧ ∃ m, w'' = w'.drewN m) := hide (fun w' a c => by rw [← er]; exact rateAt_any a c h0 h1 i)
  replace H := hide H
  have hlt := hC.lt
  have hg : w.heap.size ≠ b := by omega
  have hrg : rv.ownBlock ≠ some w.heap.size := (hR.ne_new).resolve_left (fun c => by rw [c] at h0; exact absurd h0 (by decide))
  have c4 := hC.c4
  have f4 := hC.fz 4
  have HC := hide ((hC.set4 i).alloc (.cells #[.int .i64 0, .int .i64 0, .int .i64 0, .int .i64 0] 43))
  have HL : Hid (TS w ((w.setCell ⟨b, 4, none⟩ (.int .i64 i)).alloc (.cells #[.int .i64 0, .int .i64 0, .int .i64 0, .int .i64 0] 43)) b w.heap.size kd P rv rs n i x l pv pr) := hide (by
    have g2 := gb_set w b 4 (.int .i64 i)
    have g1 : (w.setCell ⟨b, 4, none⟩ (.int .i64 i)).grownBy ((w.setCell ⟨b, 4, none⟩ (.int .i64 i)).alloc (.cells #[.int .i64 0, .int .i64 0, .int .i64 0, .int .i64 0] 43)) (some b) := gb_below ((Below.refl _ _).alloc (Nat.le_refl _) _) _
    refine ⟨⟨q0, unhide HC⟩, (hR.far g2 hne).alloc _, fun z => ((hP z).gb g2 hC (by decide)).keep ((Below.refl _ _).alloc (Nat.le_refl _) _), ?_, gb_trans g2 g1⟩
    have h := heap_alloc_new (w.setCell ⟨b, 4, none⟩ (.int .i64 i)) (.cells #[.int .i64 0, .int .i64 0, .int .i64 0, .int .i64 0] 43)
    rwa [show (w.setCell ⟨b, 4, none⟩ (.int .i64 i)).heap.size = w.heap.size from by simp [World.setCell]] at h)
  clear hC hR hP er hr
  go_enter Try.func21, Try.ntmps21
  go_wp2_with fail
  clear c4 f4
  generalize (w.setCell ⟨b, 4, none⟩ (.int .i64 i)).alloc (.cells #[.int .i64 0, .int .i64 0, .int .i64 0, .int .i64 0] 43) = W1 at *
  have hgw : w.heap.size ≤ w.heap.size := Nat.le_refl _
  generalize hgz : w.heap.size = g at HL hg hlt hrg ⊢
  replace hgw : w.heap.size ≤ g := by omega
  clear hgz
  obtain ⟨c5, _⟩ := (unhide HL).s
  have HLd : Hid (TS w W1.drew b g kd P rv rs n i x l pv pr) := hide ((unhide HL).drewN 1)
  go_region_held3 (fun w' => w'.cell? ⟨b, 5, none⟩ = some (.int .i64 x) ∧ Hid (TS w w' b g kd P rv rs n i x l pv pr))
    (first
      | exact (unhide HL).s
      | exact (unhide HLd).s
      | exact (unhide HL2).s
      | exact (unhide HL3).s
      | exact ((unhide HL3).put hg hne q).s)
    (first
      | (go_at_call 34; refine (unhide HRt _ (unhide HC).drew (unhide HLd).row).mono ?_; rintro e w2 ⟨rfl, m, rfl⟩; have HL2 := hide ((unhide HLd).drewN m); have HC2 := hide ((unhide HC).drew.drewN m); generalize W1.drew.drewN m = W2 at HL2 HC2 ⊢)
      | (go_at_call 27; refine (unhide hI _).mono ?_; rintro e w3 ⟨rfl, hb⟩; have HC3 := hide ((unhide HC2).keep hb); have HL3 := hide ((unhide HL2).keep hb); have c6 := (unhide HC3).c6; have f6 := (unhide HC3).fz 6))
  rename_i hH
  have HC4 := hide ((unhide HC3).set6 q)
  have HL4 := hide (unhide hH.2)
  clear hH c6 f6 c5 hb HL HLd HL2 HL3 HC HC2 HC3 hI HRt
  generalize w3.setCell ⟨b, 6, none⟩ (.int .i64 q) = W4 at *
  have c5 := (unhide HC4).c5
  have c6 := (unhide HC4).c6
  go_wp2_with fail
  go_quiet (fail)
  replace HC4 := hide ((unhide HC4).drewN nq)
  replace HL4 := hide ((unhide HL4).drewN nq)
  clear c5 c6
  generalize W4.drewN nq = W5 at *
  have c3 := (unhide HC4).c3
  have t1 : (i : Int) < (n : Int) - 1 := by omega
  go_wp2_with fail
  refine (unhide H W5 (unhide HC4) (unhide HL4).row (unhide HL4).parts).mono ?_
  rintro e w6 ⟨rfl, pv6, hC6, hP6, hR6, hg6⟩
  have HG : Hid (w.grownBy w6 (some b)) := hide (gb_trans (unhide HL4).gb hg6)
  have HW : Hid (Rw w6 g 0 0 0 0) := hide ((hg6.block g (unhide HL4).blk.lt (fun c => hg (Option.some.inj c))).trans (unhide HL4).blk)
  have HC6 := hide hC6
  have HR6 := hide (hR6.far (gb_set w6 b 5 (.int .i64 (x - (v - q)))) hne)
  have HP6 : Hid (pr' → PRow (w6.setCell ⟨b, 5, none⟩ (.int .i64 (x - (v - q)))) pv6 P n) := hide (fun z => (hP6 z).gb (gb_set w6 b 5 (.int .i64 (x - (v - q)))) hC6 (by decide))
  clear hC6 hP6 hR6 hg6 HC4 HL4 c3 t1 H
  have c5 := (unhide HC6).c5
  have c6 := (unhide HC6).c6
  have f5 := (unhide HC6).fz 5
  go_wp2_with fail
  have HC7 := hide ((unhide HC6).set5 (x - (v - q)))
  have HW7 : Hid (Rw (w6.setCell ⟨b, 5, none⟩ (.int .i64 (x - (v - q)))) g 0 0 0 0) := hide (((gb_set w6 b 5 (.int .i64 (x - (v - q)))).block g (unhide HW).lt (fun c => hg (Option.some.inj c))).trans (unhide HW))
  have HG7 := hide (gb_trans (unhide HG) (gb_set w6 b 5 (.int .i64 (x - (v - q)))))
  clear HC6 HW HG c5 c6 f5
  generalize w6.setCell ⟨b, 5, none⟩ (.int .i64 (x - (v - q))) = W7 at *
  have c5 := (unhide HC7).c5
  have c6 := (unhide HC7).c6
  have g0 := (unhide HW7).c0
  have g1 := (unhide HW7).c1
  have g2 := (unhide HW7).c2
  have g3 := (unhide HW7).c3
  have gz0 := (unhide HW7).fz 0
  have gz1 := (unhide HW7).fz 1
  have gz2 := (unhide HW7).fz 2
  have gz3 := (unhide HW7).fz 3
  have G8 := hide (gb_row4 W7 g q v (v - q) (x - (v - q)))
  have hbl := (unhide HC7).lt
  have HB8 := hide ((unhide G8).block b hbl (fun c => hg (Option.some.inj c).symm))
  go_region_held3 (fun w' => w'.cell? ⟨b, 5, none⟩ = some (.int .i64 (x - (v - q))) ∧ w'.cell? ⟨b, 6, none⟩ = some (.int .i64 q))
    (first
      | exact ⟨c5, c6⟩
      | exact ⟨(World.cell?_of_block (a := ⟨b, 5, none⟩) (unhide HB8)).trans c5, (World.cell?_of_block (a := ⟨b, 6, none⟩) (unhide HB8)).trans c6⟩)
    (fail)
  have HW8 := hide ((unhide HW7).put4 q v (v - q) (x - (v - q)))
  have HC8 := hide ((unhide HB8).trans (unhide HC7))
  have HA : Hid (After w _ b kd P rv rs n i (x - (v - q)) q l' pr') := hide ⟨pv6, (unhide HB8).trans (unhide HC7), fun z => (unhide HP6 z).gb (unhide G8) (unhide HW7) (by decide), (unhide HR6).far (unhide G8) hrg, gb_past (unhide HG7) (unhide G8) hgw⟩
  clear HC8 HB8 G8 HG7 HC7 HR6 HP6 HW7 g0 g1 g2 g3 gz0 gz1 gz2 gz3 c5 c6
  rename_i hH
  clear hH
  generalize ((((W7.setCell ⟨g, 0, none⟩ (.int .i64 q)).setCell ⟨g, 1, none⟩ (.int .i64 v)).setCell ⟨g, 2, none⟩ (.int .i64 (v - q))).setCell ⟨g, 3, none⟩ (.int .i64 (x - (v - q)))).drew = W8 at *
  have g0 := (unhide HW8).c0
  have g1 := (unhide HW8).c1
  have g2 := (unhide HW8).c2
  have g3 := (unhide HW8).c3
  go_wp2_with fail
  exact bodyPost_ret (v := .agg #[.int .i64 q, .int .i64 v, .int .i64 (v - q), .int .i64 (x - (v - q))]) (by simp [results, Try.results21, go_sem, g0, g1, g2, g3]) rfl ⟨rfl, unhide HA⟩
set_option maxHeartbeats 2000000 in
theorem step_last {w : World} {b : Nat} {kd P : Int} {rv : Value} {rs : List Int} {n i : Nat} {i0 x q0 l r : Int} {pv : Value} {pr : Prop} (hC : Crs w b kd P rv n i0 x q0 l pv) (hR : Row w rv rs) (hP : pr → PRow w pv P n) (hne : rv.ownBlock ≠ some b) (h0 : 0 < rs.length) (h1 : rs.length ≤ 600)
    (x0 : 0 ≤ x) (x1 : x ≤ 10000000000000) (n0 : i + 1 = n) (n1 : n ≤ 600) (er : rtAt rs i = r) (hr : bearB r = true) :
    Calls Try.prog 21 #[.pointer (some ⟨b, 0, none⟩), .int .i64 i] w fun e w' => e = .returned (.agg #[.int .i64 (qI x r), .int .i64 (x + qI x r), .int .i64 x, .int .i64 0]) ∧ After w w' b kd P rv rs n i (0) (qI x r) l pr := by
  obtain ⟨r0, r1⟩ := bearB_bd hr
  have hI := hide (int1_any x0 (by omega) r0 r1)
  obtain ⟨q1, q2⟩ := qI_bd x0 r0 r1
  unfold Int1 at hI
  generalize qI x r = q at *
  have HRt : Hid (∀ w', Crs w' b kd P rv n i x q0 l pv → Row w' rv rs → Calls Try.prog 34 #[.pointer (some ⟨b, 0, none⟩), .int .i64 i] w' fun e w'' => e = .returned (.int .i64 r) ∧ ∃ m, w'' = w'.drewN m) := hide (fun w' a c => by rw [← er]; exact rateAt_any a c h0 h1 i)
  have hlt := hC.lt
  have hg : w.heap.size ≠ b := by omega
  have hrg : rv.ownBlock ≠ some w.heap.size := (hR.ne_new).resolve_left (fun c => by rw [c] at h0; exact absurd h0 (by decide))
  have c4 := hC.c4
  have f4 := hC.fz 4
  have HC := hide ((hC.set4 i).alloc (.cells #[.int .i64 0, .int .i64 0, .int .i64 0, .int .i64 0] 43))
  have HL : Hid (TS w ((w.setCell ⟨b, 4, none⟩ (.int .i64 i)).alloc (.cells #[.int .i64 0, .int .i64 0, .int .i64 0, .int .i64 0] 43)) b w.heap.size kd P rv rs n i x l pv pr) := hide (by
    have g2 := gb_set w b 4 (.int .i64 i)
    have g1 : (w.setCell ⟨b, 4, none⟩ (.int .i64 i)).grownBy ((w.setCell ⟨b, 4, none⟩ (.int .i64 i)).alloc (.cells #[.int .i64 0, .int .i64 0, .int .i64 0, .int .i64 0] 43)) (some b) := gb_below ((Below.refl _ _).alloc (Nat.le_refl _) _) _
    refine ⟨⟨q0, unhide HC⟩, (hR.far g2 hne).alloc _, fun z => ((hP z).gb g2 hC (by decide)).keep ((Below.refl _ _).alloc (Nat.le_refl _) _), ?_, gb_trans g2 g1⟩
    have h := heap_alloc_new (w.setCell ⟨b, 4, none⟩ (.int .i64 i)) (.cells #[.int .i64 0, .int .i64 0, .int .i64 0, .int .i64 0] 43)
    rwa [show (w.setCell ⟨b, 4, none⟩ (.int .i64 i)).heap.size = w.heap.size from by simp [World.setCell]] at h)
  clear hC hR hP er hr
  go_enter Try.func21, Try.ntmps21
  go_wp2_with fail
  clear c4 f4
  generalize (w.setCell ⟨b, 4, none⟩ (.int .i64 i)).alloc (.cells #[.int .i64 0, .int .i64 0, .int .i64 0, .int .i64 0] 43) = W1 at *
  have hgw : w.heap.size ≤ w.heap.size := Nat.le_refl _
  generalize hgz : w.heap.size = g at HL hg hlt hrg ⊢
  replace hgw : w.heap.size ≤ g := by omega
  clear hgz
  obtain ⟨c5, _⟩ := (unhide HL).s
  have HLd : Hid (TS w W1.drew b g kd P rv rs n i x l pv pr) := hide ((unhide HL).drewN 1)
  go_region_held3 (fun w' => w'.cell? ⟨b, 5, none⟩ = some (.int .i64 x) ∧ Hid (TS w w' b g kd P rv rs n i x l pv pr))
    (first
      | exact (unhide HL).s
      | exact (unhide HLd).s
      | exact (unhide HL2).s
      | exact (unhide HL3).s
      | exact ((unhide HL3).put hg hne q).s)
    (first
      | (go_at_call 34; refine (unhide HRt _ (unhide HC).drew (unhide HLd).row).mono ?_; rintro e w2 ⟨rfl, m, rfl⟩; have HL2 := hide ((unhide HLd).drewN m); have HC2 := hide ((unhide HC).drew.drewN m); generalize W1.drew.drewN m = W2 at HL2 HC2 ⊢)
      | (go_at_call 27; refine (unhide hI _).mono ?_; rintro e w3 ⟨rfl, hb⟩; have HC3 := hide ((unhide HC2).keep hb); have HL3 := hide ((unhide HL2).keep hb); have c6 := (unhide HC3).c6; have f6 := (unhide HC3).fz 6))
  rename_i hH
  have HC4 := hide ((unhide HC3).set6 q)
  have HL4 := hide (unhide hH.2)
  clear hH c6 f6 c5 hb HL HLd HL2 HL3 HC HC2 HC3 hI HRt
  generalize w3.setCell ⟨b, 6, none⟩ (.int .i64 q) = W4 at *
  have c5 := (unhide HC4).c5
  have c6 := (unhide HC4).c6
  go_wp2_with fail
  go_quiet (fail)
  replace HC4 := hide ((unhide HC4).drewN nq)
  replace HL4 := hide ((unhide HL4).drewN nq)
  clear c5 c6
  generalize W4.drewN nq = W5 at *
  have c3 := (unhide HC4).c3
  have t1 : ¬ (i : Int) < (n : Int) - 1 := by omega
  have HG := hide (unhide HL4).gb
  have HW := hide (unhide HL4).blk
  have HC6 := HC4
  have HR6 := hide ((unhide HL4).row.far (gb_set W5 b 5 (.int .i64 0)) hne)
  have HP6 : Hid (pr → PRow (W5.setCell ⟨b, 5, none⟩ (.int .i64 0)) pv P n) := hide (fun z => ((unhide HL4).parts z).gb (gb_set W5 b 5 (.int .i64 0)) (unhide HC4) (by decide))
  clear HC4 HL4
  have c5 := (unhide HC6).c5
  have c6 := (unhide HC6).c6
  have f5 := (unhide HC6).fz 5
  go_wp2_with fail
  have HC7 := hide ((unhide HC6).set5 (0))
  have HW7 : Hid (Rw (W5.setCell ⟨b, 5, none⟩ (.int .i64 0)) g 0 0 0 0) := hide (((gb_set W5 b 5 (.int .i64 0)).block g (unhide HW).lt (fun c => hg (Option.some.inj c))).trans (unhide HW))
  have HG7 := hide (gb_trans (unhide HG) (gb_set W5 b 5 (.int .i64 0)))
  clear HC6 HW HG c5 c6 f5
  generalize W5.setCell ⟨b, 5, none⟩ (.int .i64 0) = W7 at *
  have c5 := (unhide HC7).c5
  have c6 := (unhide HC7).c6
  have g0 := (unhide HW7).c0
  have g1 := (unhide HW7).c1
  have g2 := (unhide HW7).c2
  have g3 := (unhide HW7).c3
  have gz0 := (unhide HW7).fz 0
  have gz1 := (unhide HW7).fz 1
  have gz2 := (unhide HW7).fz 2
  have gz3 := (unhide HW7).fz 3
  have G8 := hide (gb_row4 W7 g q (x + q) (x) (0))
  have hbl := (unhide HC7).lt
  have HB8 := hide ((unhide G8).block b hbl (fun c => hg (Option.some.inj c).symm))
  go_region_held3 (fun w' => w'.cell? ⟨b, 5, none⟩ = some (.int .i64 0) ∧ w'.cell? ⟨b, 6, none⟩ = some (.int .i64 q))
    (first
      | exact ⟨c5, c6⟩
      | exact ⟨(World.cell?_of_block (a := ⟨b, 5, none⟩) (unhide HB8)).trans c5, (World.cell?_of_block (a := ⟨b, 6, none⟩) (unhide HB8)).trans c6⟩)
    (fail)
  have HW8 := hide ((unhide HW7).put4 q (x + q) (x) (0))
  have HC8 := hide ((unhide HB8).trans (unhide HC7))
  have HA : Hid (After w _ b kd P rv rs n i (0) q l pr) := hide ⟨pv, (unhide HB8).trans (unhide HC7), fun z => (unhide HP6 z).gb (unhide G8) (unhide HW7) (by decide), (unhide HR6).far (unhide G8) hrg, gb_past (unhide HG7) (unhide G8) hgw⟩
  clear HC8 HB8 G8 HG7 HC7 HR6 HP6 HW7 g0 g1 g2 g3 gz0 gz1 gz2 gz3 c5 c6
  rename_i hH
  clear hH
  generalize ((((W7.setCell ⟨g, 0, none⟩ (.int .i64 q)).setCell ⟨g, 1, none⟩ (.int .i64 (x + q))).setCell ⟨g, 2, none⟩ (.int .i64 x)).setCell ⟨g, 3, none⟩ (.int .i64 0)).drew = W8 at *
  have g0 := (unhide HW8).c0
  have g1 := (unhide HW8).c1
  have g2 := (unhide HW8).c2
  have g3 := (unhide HW8).c3
  go_wp2_with fail
  exact bodyPost_ret (v := .agg #[.int .i64 q, .int .i64 (x + q), .int .i64 x, .int .i64 0]) (by simp [results, Try.results21, go_sem, g0, g1, g2, g3]) rfl ⟨rfl, unhide HA⟩
end Go.Proofs.Ytgnhnffmojjncaa.Mn
