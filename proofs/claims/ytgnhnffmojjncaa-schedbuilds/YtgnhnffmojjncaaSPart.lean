/- What a linear loan pays ahead of the last period, as sched reckons it. -/
import Derived.Test.YtgnhnffmojjncaaSKind
namespace Go.Proofs.Ytgnhnffmojjncaa.Mn
open Go.RowKit
set_option linter.unusedSimpArgs false
/-- The parts of a principal, one a period. -/
def pts (P : Int) (n : Nat) : List Int := (List.range n).map (pt1 P n)
theorem pts_len (P : Int) (n : Nat) : (pts P n).length = n := by simp [pts]
theorem pts_at {P : Int} {n j : Nat} (h : j < n) : (pts P n).getD j 0 = pt1 P n j := by simp [pts, List.getD, h]
theorem pt1_bd {P : Int} {n j : Nat} (P0 : 0 ≤ P) (P1 : P ≤ 10000000000000) (_n0 : 0 < n) : 0 ≤ pt1 P n j ∧ pt1 P n j ≤ 10000000000001 := by
  refine ⟨pt1_pos P0, ?_⟩
  have h := Int.ediv_le_self (b := (n : Int)) P0
  unfold pt1
  split <;> omega
theorem ones_good {n : Nat} (n0 : 0 < n) (n1 : n ≤ 600) : good (ones n) = true := good_of (by rw [ones_len]; omega) (by rw [ones_len]; omega) (fun j hj => by rw [ones_at (by rwa [ones_len] at hj)]; omega)
theorem ones_map (n : Nat) : (List.range n).map (upTo n) = ones n := by
  refine List.ext_getElem (by simp [ones_len]) (fun j h1 h2 => ?_)
  have hj : j < n := by simpa using h1
  simp [ones, upTo, hj]
theorem split_ones {P : Int} {n : Nat} (P0 : 0 ≤ P) (P1 : P ≤ 10000000000000) (n0 : 0 < n) (n1 : n ≤ 600) {v : Value} {w : World} (hv : Row w v (ones n)) :
    Calls Try.prog 55 #[.int .i64 P, v] w fun e w' => e = .returned (.tuple #[.slice (some ⟨w.heap.size, 0, none⟩) n n, .int .i64 0]) ∧ Own w w' w.heap.size n (pt1 P n) := by
  have hg := ones_good n0 n1
  have ht : total (ones n) ≠ 0 := by rw [ones_total]; omega
  have hm : may P = true := by simp [may]; omega
  have hv' := hv
  rcases hv with ⟨a, cap, rfl, h⟩ | ⟨b, off, cap, rfl, _, _, hc, _⟩
  · have := ones_len n
    rw [h] at this
    simp at this
    omega
  · have h := split_row P b off cap (ones n) w hg ht hm hc hv' (fun j _ => div_ok hg ht hm j)
    rw [ones_len] at h
    rw [ones_len]
    exact h.mono fun e w' k => ⟨k.1, ⟨k.2.below, k.2.row.congr (fun j hj => by rw [ones_part P0 hj])⟩⟩
/-- The slice value pv is a row of numbers of its own, the parts. -/
def PRow (w : World) (pv : Value) (P : Int) (n : Nat) : Prop := ∃ g, pv = .slice (some ⟨g, 0, none⟩) n n ∧ w.rowIs g 2 n (fun j => .int .i64 (pt1 P n j))
theorem PRow.drewN {w : World} {pv : Value} {P : Int} {n : Nat} (h : PRow w pv P n) (m : Nat) : PRow (w.drewN m) pv P n := h
theorem PRow.keep {w w' : World} {pv : Value} {P : Int} {n : Nat} (h : PRow w pv P n) (hb : Below w.heap.size w w') : PRow w' pv P n := by
  obtain ⟨g, e, c, h1, h2, h3⟩ := h
  exact ⟨g, e, c, (hb.block g (Array.getElem?_eq_some_iff.1 h1).1).trans h1, h2, h3⟩
/-- Another block, of another type, is written. -/
theorem PRow.gb {w w' : World} {pv : Value} {P : Int} {n b : Nat} {arr : Array Value} {T : TypeId} {fz : Nat × Nat} (h : PRow w pv P n) (hg : w.grownBy w' (some b)) (hb : w.heap[b]? = some (.cells arr T fz)) (hT : T ≠ 2) : PRow w' pv P n := by
  obtain ⟨g, e, c, h1, h2, h3⟩ := h
  refine ⟨g, e, c, (hg.block g (Array.getElem?_eq_some_iff.1 h1).1 (fun q => ?_)).trans h1, h2, h3⟩
  cases q
  rw [h1] at hb
  have := Option.some.inj hb
  injection this with _ t _
  exact hT t.symm
theorem PRow.cell {w : World} {g n c j : Nat} {P : Int} (h : PRow w (.slice (some ⟨g, 0, none⟩) n c) P n) (hj : j < n) : w.cell? ⟨g, j, none⟩ = some (.int .i64 (pt1 P n j)) := by
  obtain ⟨g', e, h⟩ := h
  cases e
  exact h.cell hj
/-- What payPart answers: what is paid; the block then, with its parts. -/
def PartA (w : World) (b : Nat) (kd P : Int) (rv : Value) (rs : List Int) (n : Nat) (i x q l : Int) (v : Int) : Prop :=
  Calls Try.prog 42 #[.pointer (some ⟨b, 0, none⟩)] w fun e w' => e = .returned (.int .i64 v) ∧ ∃ pv, Crs w' b kd P rv n i x q l pv ∧ PRow w' pv P n ∧ Row w' rv rs ∧ w.grownBy w' (some b)
set_option maxHeartbeats 1000000 in
theorem payPart_next {w : World} {b : Nat} {kd P : Int} {rv : Value} {rs : List Int} {n i : Nat} {x q l : Int} {pv : Value} (hC : Crs w b kd P rv n i x q l pv) (hR : Row w rv rs) (hP : PRow w pv P n)
    (P0 : 0 ≤ P) (P1 : P ≤ 10000000000000) (x1 : x ≤ 10000000000000) (q0 : 0 ≤ q) (q1 : q ≤ x) (i0 : 0 < i) (n0 : i < n) : PartA w b kd P rv rs n i x q l (q + pt1 P n i) := by
  have hP' := hide hP
  have HR := hide hR
  have HC := hide hC
  obtain ⟨z0, z1⟩ := pt1_bd (j := i) P0 P1 (show 0 < n by omega)
  obtain ⟨pb, rfl, _⟩ := hP
  have cz := (unhide hP').cell n0
  have c3 := hC.c3
  have c4 := hC.c4
  have c6 := hC.c6
  have c8 := hC.c8
  have t8 : ((i : Int) == 0) = false := by rw [beq_eq_false_iff_ne]; omega
  have k1 : (i : Int) < (n : Int) := by omega
  generalize pt1 P n i = z at *
  clear hC hR i0
  unfold PartA
  go_enter Try.func42, Try.ntmps42
  go_wp2_with fail
  go_quiet (fail)
  go_wp2_with fail
  go_ret
  exact ⟨rfl, _, (unhide HC).drewN _, (unhide hP').drewN _, (unhide HR).drewN _, gb_drewN _ _ _⟩
/-- Since w nothing but block b has turned; block b is that loan, with some parts; the rates are there. -/
structure PS (w w' : World) (b : Nat) (kd P : Int) (rv : Value) (rs : List Int) (n i x q l : Int) : Prop where
  ex : ∃ pv, Crs w' b kd P rv n i x q l pv
  row : Row w' rv rs
  gb : w.grownBy w' (some b)
def PSS (w w' : World) (b : Nat) (kd P : Int) (rv : Value) (rs : List Int) (n i x q l : Int) : Prop :=
  w'.cell? ⟨b, 1, none⟩ = some (.int .i64 P) ∧ w'.cell? ⟨b, 3, none⟩ = some (.int .i64 n) ∧ Hid (PS w w' b kd P rv rs n i x q l)
section
variable {w w' w2 : World} {b : Nat} {kd P : Int} {rv : Value} {rs : List Int} {n i x q l : Int}
theorem PS.s (h : PS w w' b kd P rv rs n i x q l) : PSS w w' b kd P rv rs n i x q l := by
  obtain ⟨l, hl⟩ := h.ex
  exact ⟨hl.c1, hl.c3, hide h⟩
theorem PS.keep (h : PS w w' b kd P rv rs n i x q l) (hb : Below w'.heap.size w' w2) : PS w w2 b kd P rv rs n i x q l := by
  obtain ⟨l, hl⟩ := h.ex
  exact ⟨⟨l, hl.keep hb⟩, h.row.below hb (Nat.le_refl _), gb_trans h.gb (gb_below hb _)⟩
theorem PS.alloc (h : PS w w' b kd P rv rs n i x q l) (o : Obj) : PS w (w'.alloc o) b kd P rv rs n i x q l := h.keep ((Below.refl _ _).alloc (Nat.le_refl _) _)
theorem PS.drew (h : PS w w' b kd P rv rs n i x q l) : PS w w'.drew b kd P rv rs n i x q l := by
  obtain ⟨l, hl⟩ := h.ex
  exact ⟨⟨l, hl.drew⟩, h.row.drewN 1, gb_trans h.gb (gb_drewN _ 1 _)⟩
theorem PS.put (h : PS w w' b kd P rv rs n i x q l) (hne : rv.ownBlock ≠ some b) (v : Value) : PS w (w'.setCell ⟨b, 8, none⟩ v) b kd P rv rs n i x q l := by
  obtain ⟨pv, hl⟩ := h.ex
  exact ⟨⟨v, hl.set8 v⟩, h.row.far (gb_set _ _ _ _) hne, gb_trans h.gb (gb_set _ _ _ _)⟩
end
theorem one_made (w : World) : (w.alloc (.cells #[.int .i64 1] 2)).cell? ⟨w.heap.size, 0, none⟩ = some (.int .i64 1) := cell_new w _ _
set_option maxHeartbeats 2000000 in
theorem payPart_first {w : World} {b : Nat} {kd P : Int} {rv : Value} {rs : List Int} {n : Nat} {x q l : Int} {pv : Value} (hC : Crs w b kd P rv n 0 x q l pv) (hR : Row w rv rs) (hne : rv.ownBlock ≠ some b)
    (P0 : 0 ≤ P) (P1 : P ≤ 10000000000000) (x1 : x ≤ 10000000000000) (q0 : 0 ≤ q) (q1 : q ≤ x) (n0 : 0 < n) (n1 : n ≤ 600) : PartA w b kd P rv rs n 0 x q l (q + pt1 P n 0) := by
  have HL : Hid (PS w w b kd P rv rs n 0 x q l) := hide ⟨⟨pv, hC⟩, hR, World.grownBy.refl _ _⟩
  have hS := (unhide HL).s
  obtain ⟨c1, c3, _⟩ := hS
  have c4 := hC.c4
  have HC := hide hC
  have hlt := hC.lt
  have HRep : Hid (Calls Try.prog 56 #[.slice (some ⟨w.heap.size, 0, none⟩) 1 1, .int .i64 n] (w.drew.alloc (.cells #[.int .i64 1] 2)) fun e w' => e = .returned (.slice (some ⟨w.heap.size + 1, 0, none⟩) n n) ∧ Below (w.drew.alloc (.cells #[.int .i64 1] 2)).heap.size (w.drew.alloc (.cells #[.int .i64 1] 2)) w' ∧ Row w' (.slice (some ⟨w.heap.size + 1, 0, none⟩) n n) (ones n)) := hide (by
    have h := repeat_any w.heap.size 0 1 n n0 n1 (w.drew.alloc (.cells #[.int .i64 1] 2)) (one_made w.drew)
    rw [show (w.drew.alloc (.cells #[.int .i64 1] 2)).heap.size = w.heap.size + 1 from by simp] at h ⊢
    refine h.mono fun e w' k => ⟨k.1, k.2.below, ?_⟩
    have hr := k.2.asRow (cap := n) (by unfold maxLen; omega) (fun j => by unfold upTo; split <;> exact ⟨by omega, by omega⟩)
    rwa [ones_map] at hr)
  have k2 : 0 < n := n0
  have HK := hide (pt1_bd (j := 0) P0 P1 n0)
  unfold PartA
  clear hC hR
  go_enter Try.func42, Try.ntmps42
  go_wp2_with fail
  go_region_held3 (fun w' => w'.cell? ⟨b, 1, none⟩ = some (.int .i64 P) ∧ w'.cell? ⟨b, 3, none⟩ = some (.int .i64 n) ∧ Hid (PS w w' b kd P rv rs n 0 x q l))
    (first
      | exact (unhide HL).drew.s
      | exact ((unhide HL).drew.alloc _).s
      | exact (((unhide HL).drew.alloc _).keep ho).s
      | exact ((((unhide HL).drew.alloc _).keep ho).keep hp.below).s
      | exact (((((unhide HL).drew.alloc _).keep ho).keep hp.below).put hne _).s
      | exact (unhide HL).s)
    (first
      | (go_at_call 56; refine (unhide HRep).mono ?_; rintro e w1 ⟨rfl, ho, hrow⟩)
      | (go_at_call 55; refine (split_ones P0 P1 n0 n1 hrow).mono ?_; rintro e w2 ⟨rfl, hp⟩; have HC1 := hide ((((unhide HC).drew.alloc (.cells #[.int .i64 1] 2)).keep ho).keep hp.below); have c8 := (unhide HC1).c8; have f8 := (unhide HC1).fz 8))
  rename_i hH
  have HC2 := hide ((unhide HC1).set8 (.slice (some ⟨w1.heap.size, 0, none⟩) n n))
  have HP2 : Hid (PRow (w2.setCell ⟨b, 8, none⟩ (.slice (some ⟨w1.heap.size, 0, none⟩) n n)) (.slice (some ⟨w1.heap.size, 0, none⟩) n n) P n) := hide (PRow.gb ⟨_, rfl, hp.row⟩ (gb_set w2 b 8 _) (unhide HC1) (by decide))
  have HL2 := hide (unhide hH.2.2)
  clear hH HC1 c8 f8 c1 c3 c4 hp hrow ho HL HC HRep
  generalize w2.setCell ⟨b, 8, none⟩ (.slice (some ⟨w1.heap.size, 0, none⟩) n n) = W5 at *
  generalize w1.heap.size = g at *
  have c4 := (unhide HC2).c4
  have c6 := (unhide HC2).c6
  have c8 := (unhide HC2).c8
  have cz := (unhide HP2).cell n0
  obtain ⟨z0, z1⟩ := unhide HK
  clear HK
  obtain ⟨z, hz⟩ : ∃ z, pt1 P n 0 = z := ⟨_, rfl⟩
  rw [hz] at cz z0 z1
  have HZ := hide hz
  clear hz
  have k1 : (0 : Int) < (n : Int) := by omega
  go_wp2_with fail
  go_quiet (fail)
  go_wp2_with fail
  go_ret
  exact ⟨ret_int (by rw [unhide HZ]), _, (unhide HC2).drewN _, (unhide HP2).drewN _, (unhide HL2).row.drewN _, gb_trans (unhide HL2).gb (gb_drewN _ _ _)⟩
end Go.Proofs.Ytgnhnffmojjncaa.Mn
