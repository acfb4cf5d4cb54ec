/- A loan on its way, as sched keeps it in memory: one block of nine cells; what may become of it; the rate of a period. -/
import Derived.Test.YtgnhnffmojjncaaSLevel
import Derived.Test.YtgnhnffmojjncaaSRep
import Derived.Deep.QuietTactic
import Derived.BigQuiet
namespace Go.Proofs.Ytgnhnffmojjncaa.Mn
open Go.RowKit
set_option linter.unusedSimpArgs false
theorem gb_trans {a b c : World} {row : Option Nat} (h : a.grownBy b row) (k : b.grownBy c row) : a.grownBy c row :=
  ⟨k.os.trans h.os, k.tape.trans h.tape, k.output.trans h.output, Nat.le_trans h.size k.size, fun i hi hne => (k.block i (Nat.lt_of_lt_of_le hi h.size) hne).trans (h.block i hi hne)⟩
theorem gb_below {a c : World} (h : Below a.heap.size a c) (row : Option Nat) : a.grownBy c row := ⟨h.os, h.tape, h.output, h.size, fun k hk _ => h.block k hk⟩
theorem gb_set (w : World) (b o : Nat) (v : Value) : w.grownBy (w.setCell ⟨b, o, none⟩ v) (some b) :=
  ⟨rfl, rfl, rfl, by simp [World.setCell], fun k _ hne => Below.heap_setCell _ _ _ _ (fun c => hne (by rw [c]))⟩
theorem gb_drewN (w : World) (n : Nat) (row : Option Nat) : w.grownBy (w.drewN n) row := ⟨rfl, rfl, rfl, Nat.le_refl _, fun _ _ _ => rfl⟩
/-- A row that lies in another block than the one that is written is as it was. -/
theorem Row.far {w w' : World} {v : Value} {zs : List Int} {b : Nat} (h : Row w v zs) (hg : w.grownBy w' (some b)) (hne : v.ownBlock ≠ some b) : Row w' v zs := by
  rcases h with h | ⟨c, off, cap, h1, h2, h3, h4, h5⟩
  · exact Or.inl h
  · refine Or.inr ⟨c, off, cap, h1, h2, h3, fun j hj => ?_, h5⟩
    have e := hg.block c (lt_of_cell (h4 j hj)) (fun q => hne (by rw [h1, ← q]; rfl))
    exact (World.cell?_of_block (a := ⟨c, off + j, none⟩) e).trans (h4 j hj)
theorem Row.drewN {w : World} {v : Value} {zs : List Int} (h : Row w v zs) (n : Nat) : Row (w.drewN n) v zs := h.later (fun _ _ q => q)
/-- Block b is a loan on its way: kind, principal, rates, periods; the period, what is left, its interest, the level payment, the parts. -/
def Crs (w : World) (b : Nat) (kd P : Int) (rv : Value) (n i x q l : Int) (pv : Value) : Prop :=
  w.heap[b]? = some (.cells #[.int .i64 kd, .int .i64 P, rv, .int .i64 n, .int .i64 i, .int .i64 x, .int .i64 q, .int .i64 l, pv] 50 (0, 0))
section
variable {w w' : World} {b : Nat} {kd P : Int} {rv : Value} {n i x q l : Int} {pv : Value}
theorem Crs.c0 (h : Crs w b kd P rv n i x q l pv) : w.cell? ⟨b, 0, none⟩ = some (.int .i64 kd) := by rw [cell_of_row w b 0 _ _ _ h]; rfl
theorem Crs.c1 (h : Crs w b kd P rv n i x q l pv) : w.cell? ⟨b, 1, none⟩ = some (.int .i64 P) := by rw [cell_of_row w b 1 _ _ _ h]; rfl
theorem Crs.c2 (h : Crs w b kd P rv n i x q l pv) : w.cell? ⟨b, 2, none⟩ = some rv := by rw [cell_of_row w b 2 _ _ _ h]; rfl
theorem Crs.c3 (h : Crs w b kd P rv n i x q l pv) : w.cell? ⟨b, 3, none⟩ = some (.int .i64 n) := by rw [cell_of_row w b 3 _ _ _ h]; rfl
theorem Crs.c4 (h : Crs w b kd P rv n i x q l pv) : w.cell? ⟨b, 4, none⟩ = some (.int .i64 i) := by rw [cell_of_row w b 4 _ _ _ h]; rfl
theorem Crs.c5 (h : Crs w b kd P rv n i x q l pv) : w.cell? ⟨b, 5, none⟩ = some (.int .i64 x) := by rw [cell_of_row w b 5 _ _ _ h]; rfl
theorem Crs.c6 (h : Crs w b kd P rv n i x q l pv) : w.cell? ⟨b, 6, none⟩ = some (.int .i64 q) := by rw [cell_of_row w b 6 _ _ _ h]; rfl
theorem Crs.c7 (h : Crs w b kd P rv n i x q l pv) : w.cell? ⟨b, 7, none⟩ = some (.int .i64 l) := by rw [cell_of_row w b 7 _ _ _ h]; rfl
theorem Crs.c8 (h : Crs w b kd P rv n i x q l pv) : w.cell? ⟨b, 8, none⟩ = some pv := by rw [cell_of_row w b 8 _ _ _ h]; rfl
theorem Crs.fz (h : Crs w b kd P rv n i x q l pv) (j : Nat) : w.frozen? ⟨b, j, none⟩ = false := frozen_of_row w b j _ _ h
theorem Crs.lt (h : Crs w b kd P rv n i x q l pv) : b < w.heap.size := (Array.getElem?_eq_some_iff.1 h).1
theorem Crs.set4 (h : Crs w b kd P rv n i x q l pv) (j : Int) : Crs (w.setCell ⟨b, 4, none⟩ (.int .i64 j)) b kd P rv n j x q l pv := by unfold Crs; rw [Go.heap_setCell_same w b 4 _ _ _ h]; rfl
theorem Crs.set5 (h : Crs w b kd P rv n i x q l pv) (j : Int) : Crs (w.setCell ⟨b, 5, none⟩ (.int .i64 j)) b kd P rv n i j q l pv := by unfold Crs; rw [Go.heap_setCell_same w b 5 _ _ _ h]; rfl
theorem Crs.set6 (h : Crs w b kd P rv n i x q l pv) (j : Int) : Crs (w.setCell ⟨b, 6, none⟩ (.int .i64 j)) b kd P rv n i x j l pv := by unfold Crs; rw [Go.heap_setCell_same w b 6 _ _ _ h]; rfl
theorem Crs.set7 (h : Crs w b kd P rv n i x q l pv) (j : Int) : Crs (w.setCell ⟨b, 7, none⟩ (.int .i64 j)) b kd P rv n i x q j pv := by unfold Crs; rw [Go.heap_setCell_same w b 7 _ _ _ h]; rfl
theorem Crs.set8 (h : Crs w b kd P rv n i x q l pv) (v : Value) : Crs (w.setCell ⟨b, 8, none⟩ v) b kd P rv n i x q l v := by unfold Crs; rw [Go.heap_setCell_same w b 8 _ _ _ h]; rfl
theorem Crs.keep (h : Crs w b kd P rv n i x q l pv) (hb : Below w.heap.size w w') : Crs w' b kd P rv n i x q l pv := (hb.block b h.lt).trans h
theorem Crs.alloc (h : Crs w b kd P rv n i x q l pv) (o : Obj) : Crs (w.alloc o) b kd P rv n i x q l pv := (Below.heap_alloc w o b h.lt).trans h
theorem Crs.drew (h : Crs w b kd P rv n i x q l pv) : Crs w.drew b kd P rv n i x q l pv := h
theorem Crs.drewN (h : Crs w b kd P rv n i x q l pv) (m : Nat) : Crs (w.drewN m) b kd P rv n i x q l pv := h
end
/-- The rate of a period: the one at its place, or the last one. -/
def rtAt (rs : List Int) (i : Nat) : Int := rs.getD (min i (rs.length - 1)) 0
set_option maxHeartbeats 1000000 in
theorem rateAt_any {w : World} {b : Nat} {kd P : Int} {rv : Value} {n i x q l : Int} {pv : Value} {rs : List Int} (hC : Crs w b kd P rv n i x q l pv) (hR : Row w rv rs) (h0 : 0 < rs.length) (h1 : rs.length ≤ 600) (j : Nat) :
    Calls Try.prog 34 #[.pointer (some ⟨b, 0, none⟩), .int .i64 j] w fun e w' => e = .returned (.int .i64 (rtAt rs j)) ∧ ∃ m, w' = w.drewN m := by
  rcases hR with ⟨a, cap, rfl, rfl⟩ | ⟨rb, ro, cap, rfl, _, _, hc, _⟩
  · exact absurd h0 (by decide)
  · have c2 := hC.c2
    unfold rtAt
    obtain ⟨m, hm⟩ : ∃ m, rs.length = m + 1 := ⟨rs.length - 1, by omega⟩
    rw [hm] at hc h1 c2 ⊢
    by_cases c : j ≤ m
    · have hv := hc j (by omega)
      rw [show min j (m + 1 - 1) = j from by omega]
      generalize rs.getD j 0 = z at *
      have k1 : (j : Int) ≤ (m : Int) := by omega
      have k2 : (j : Int) < (m : Int) + 1 := by omega
      clear hc hC hm
      go_enter Try.func34, Try.ntmps34
      go_wp2_with fail
      go_quiet (fail)
      go_wp2_with fail
      go_ret
      exact ⟨rfl, _, rfl⟩
    · have hv := hc m (by omega)
      rw [show min j (m + 1 - 1) = m from by omega]
      generalize rs.getD m 0 = z at *
      have k1 : (m : Int) < (j : Int) := by omega
      clear hc hC hm
      go_enter Try.func34, Try.ntmps34
      go_wp2_with fail
      go_quiet (fail)
      go_wp2_with fail
      go_ret
      exact ⟨rfl, _, rfl⟩
end Go.Proofs.Ytgnhnffmojjncaa.Mn
