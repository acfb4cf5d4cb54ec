/- The document's rows, by and by (plain). -/
import Derived.Test.YtkccladbcehdbaaRo
namespace Go.Proofs.Ytkccladbcehdbaa
open Go.RowKit
set_option linter.unusedVariables false
set_option linter.unusedSimpArgs false
/-- The out block: three rows. -/
def OB (W : World) (ob : Nat) (g : Nat → Rw) : Prop := Blk W ob (cells18 (g 0) (g 1) (g 2)) 34
def setG (g : Nat → Rw) (i : Nat) (r : Rw) : Nat → Rw := fun j => if j = i then r else g j
theorem lt3 {i : Nat} (h : i < 3) : i = 0 ∨ i = 1 ∨ i = 2 := by omega
section
variable {W : World} {ob i : Nat} {g : Nat → Rw}
theorem OB.c_o (h : OB W ob g) (hi : i < 3) : W.cell? ⟨ob, i * 6, none⟩ = some (.int .i64 (g i).o) := by
  rcases lt3 hi with rfl | rfl | rfl
  · exact Blk.at h 0 _ rfl
  · exact Blk.at h 6 _ rfl
  · exact Blk.at h 12 _ rfl
theorem OB.set_o (h : OB W ob g) (hi : i < 3) (v : Int) : OB (W.setCell ⟨ob, i * 6, none⟩ (.int .i64 v)) ob (setG g i ⟨v, (g i).i, (g i).u, (g i).n, (g i).x, (g i).z⟩) := by
  rcases lt3 hi with rfl | rfl | rfl
  · exact Blk.set h 0 (.int .i64 v)
  · exact Blk.set h 6 (.int .i64 v)
  · exact Blk.set h 12 (.int .i64 v)
theorem OB.c_i (h : OB W ob g) (hi : i < 3) : W.cell? ⟨ob, i * 6 + 1, none⟩ = some (.int .i64 (g i).i) := by
  rcases lt3 hi with rfl | rfl | rfl
  · exact Blk.at h 1 _ rfl
  · exact Blk.at h 7 _ rfl
  · exact Blk.at h 13 _ rfl
theorem OB.set_i (h : OB W ob g) (hi : i < 3) (v : Int) : OB (W.setCell ⟨ob, i * 6 + 1, none⟩ (.int .i64 v)) ob (setG g i ⟨(g i).o, v, (g i).u, (g i).n, (g i).x, (g i).z⟩) := by
  rcases lt3 hi with rfl | rfl | rfl
  · exact Blk.set h 1 (.int .i64 v)
  · exact Blk.set h 7 (.int .i64 v)
  · exact Blk.set h 13 (.int .i64 v)
theorem OB.c_u (h : OB W ob g) (hi : i < 3) : W.cell? ⟨ob, i * 6 + 2, none⟩ = some (.int .i64 (g i).u) := by
  rcases lt3 hi with rfl | rfl | rfl
  · exact Blk.at h 2 _ rfl
  · exact Blk.at h 8 _ rfl
  · exact Blk.at h 14 _ rfl
theorem OB.set_u (h : OB W ob g) (hi : i < 3) (v : Int) : OB (W.setCell ⟨ob, i * 6 + 2, none⟩ (.int .i64 v)) ob (setG g i ⟨(g i).o, (g i).i, v, (g i).n, (g i).x, (g i).z⟩) := by
  rcases lt3 hi with rfl | rfl | rfl
  · exact Blk.set h 2 (.int .i64 v)
  · exact Blk.set h 8 (.int .i64 v)
  · exact Blk.set h 14 (.int .i64 v)
theorem OB.c_n (h : OB W ob g) (hi : i < 3) : W.cell? ⟨ob, i * 6 + 3, none⟩ = some (.int .i64 (g i).n) := by
  rcases lt3 hi with rfl | rfl | rfl
  · exact Blk.at h 3 _ rfl
  · exact Blk.at h 9 _ rfl
  · exact Blk.at h 15 _ rfl
theorem OB.set_n (h : OB W ob g) (hi : i < 3) (v : Int) : OB (W.setCell ⟨ob, i * 6 + 3, none⟩ (.int .i64 v)) ob (setG g i ⟨(g i).o, (g i).i, (g i).u, v, (g i).x, (g i).z⟩) := by
  rcases lt3 hi with rfl | rfl | rfl
  · exact Blk.set h 3 (.int .i64 v)
  · exact Blk.set h 9 (.int .i64 v)
  · exact Blk.set h 15 (.int .i64 v)
theorem OB.c_x (h : OB W ob g) (hi : i < 3) : W.cell? ⟨ob, i * 6 + 4, none⟩ = some (.int .i64 (g i).x) := by
  rcases lt3 hi with rfl | rfl | rfl
  · exact Blk.at h 4 _ rfl
  · exact Blk.at h 10 _ rfl
  · exact Blk.at h 16 _ rfl
theorem OB.set_x (h : OB W ob g) (hi : i < 3) (v : Int) : OB (W.setCell ⟨ob, i * 6 + 4, none⟩ (.int .i64 v)) ob (setG g i ⟨(g i).o, (g i).i, (g i).u, (g i).n, v, (g i).z⟩) := by
  rcases lt3 hi with rfl | rfl | rfl
  · exact Blk.set h 4 (.int .i64 v)
  · exact Blk.set h 10 (.int .i64 v)
  · exact Blk.set h 16 (.int .i64 v)
theorem OB.c_z (h : OB W ob g) (hi : i < 3) : W.cell? ⟨ob, i * 6 + 5, none⟩ = some (.int .i64 (g i).z) := by
  rcases lt3 hi with rfl | rfl | rfl
  · exact Blk.at h 5 _ rfl
  · exact Blk.at h 11 _ rfl
  · exact Blk.at h 17 _ rfl
theorem OB.set_z (h : OB W ob g) (hi : i < 3) (v : Int) : OB (W.setCell ⟨ob, i * 6 + 5, none⟩ (.int .i64 v)) ob (setG g i ⟨(g i).o, (g i).i, (g i).u, (g i).n, (g i).x, v⟩) := by
  rcases lt3 hi with rfl | rfl | rfl
  · exact Blk.set h 5 (.int .i64 v)
  · exact Blk.set h 11 (.int .i64 v)
  · exact Blk.set h 17 (.int .i64 v)
theorem OB.fz (h : OB W ob g) (j : Nat) : W.frozen? ⟨ob, j, none⟩ = false := Blk.fz h j
end
/-- The three rows when i stages are done, and of the next one k changes. -/
def gK (l : List Ch) (op : Nat → Int) (i k : Nat) : Nat → Rw := fun j =>
  if j < i then rwS l (j + 1) (op j) else if j = i then ⟨op j, putS (l.take k) (j + 1) 0, putS (l.take k) (j + 1) 1, putS (l.take k) (j + 1) 2, putS (l.take k) (j + 1) 3, 0⟩ else ⟨op j, 0, 0, 0, 0, 0⟩
theorem gK_at (l : List Ch) (op : Nat → Int) (i k : Nat) : gK l op i k i = ⟨op i, putS (l.take k) (i + 1) 0, putS (l.take k) (i + 1) 1, putS (l.take k) (i + 1) 2, putS (l.take k) (i + 1) 3, 0⟩ := by simp [gK]
theorem gK_next (l : List Ch) (op : Nat → Int) (i k : Nat) (hk : k < l.length) {r : Rw} (h : r = ⟨op i, putS (l.take k) (i + 1) 0 + putN (chA l k) (i + 1) 0, putS (l.take k) (i + 1) 1 + putN (chA l k) (i + 1) 1, putS (l.take k) (i + 1) 2 + putN (chA l k) (i + 1) 2, putS (l.take k) (i + 1) 3 + putN (chA l k) (i + 1) 3, 0⟩) : setG (gK l op i k) i r = gK l op i (k + 1) := by
  subst h
  funext j
  unfold setG gK
  by_cases e : j = i
  · subst e
    simp only [if_true, if_neg (Nat.lt_irrefl j), putS_take l hk]
  · simp only [if_neg e]
theorem gK_close (l : List Ch) (op : Nat → Int) (i : Nat) : setG (gK l op i l.length) i ⟨op i, putS l (i + 1) 0, putS l (i + 1) 1, putS l (i + 1) 2, putS l (i + 1) 3, op i + putS l (i + 1) 0 + putS l (i + 1) 2 - putS l (i + 1) 1 - putS l (i + 1) 3⟩ = gK l op (i + 1) 0 := by
  funext j
  unfold setG gK
  by_cases e : j = i
  · subst e
    rw [if_pos rfl, if_pos (Nat.lt_succ_self j)]
    rfl
  · rw [if_neg e]
    by_cases h : j < i
    · rw [if_pos h, if_pos (by omega)]
    · rw [if_neg h, if_neg e, if_neg (by omega)]
      by_cases h2 : j = i + 1
      · rw [if_pos h2]; simp [putS]
      · rw [if_neg h2]
theorem setG_self (g : Nat → Rw) (i : Nat) : setG g i (g i) = g := by
  funext j
  unfold setG
  split
  · next h => rw [h]
  · rfl
theorem setG_setG (g : Nat → Rw) (i : Nat) (r s : Rw) : setG (setG g i r) i s = setG g i s := by
  funext j
  unfold setG
  split <;> rfl
theorem setG_at (g : Nat → Rw) (i : Nat) (r : Rw) : setG g i r i = r := if_pos rfl
section
variable {W : World} {ob j : Nat} {G : Nat → Rw} {R : Rw}
theorem OBs.c_o (h : OB W ob (setG G j R)) (hj : j < 3) : W.cell? ⟨ob, j * 6, none⟩ = some (.int .i64 R.o) := by
  have q := h.c_o hj
  rw [setG_at] at q
  exact q
theorem OBs.set_o (h : OB W ob (setG G j R)) (hj : j < 3) (v : Int) : OB (W.setCell ⟨ob, j * 6, none⟩ (.int .i64 v)) ob (setG G j ⟨v, R.i, R.u, R.n, R.x, R.z⟩) := by
  have q := h.set_o hj v
  rw [setG_setG, setG_at] at q
  exact q
theorem OBs.c_i (h : OB W ob (setG G j R)) (hj : j < 3) : W.cell? ⟨ob, j * 6 + 1, none⟩ = some (.int .i64 R.i) := by
  have q := h.c_i hj
  rw [setG_at] at q
  exact q
theorem OBs.set_i (h : OB W ob (setG G j R)) (hj : j < 3) (v : Int) : OB (W.setCell ⟨ob, j * 6 + 1, none⟩ (.int .i64 v)) ob (setG G j ⟨R.o, v, R.u, R.n, R.x, R.z⟩) := by
  have q := h.set_i hj v
  rw [setG_setG, setG_at] at q
  exact q
theorem OBs.c_u (h : OB W ob (setG G j R)) (hj : j < 3) : W.cell? ⟨ob, j * 6 + 2, none⟩ = some (.int .i64 R.u) := by
  have q := h.c_u hj
  rw [setG_at] at q
  exact q
theorem OBs.set_u (h : OB W ob (setG G j R)) (hj : j < 3) (v : Int) : OB (W.setCell ⟨ob, j * 6 + 2, none⟩ (.int .i64 v)) ob (setG G j ⟨R.o, R.i, v, R.n, R.x, R.z⟩) := by
  have q := h.set_u hj v
  rw [setG_setG, setG_at] at q
  exact q
theorem OBs.c_n (h : OB W ob (setG G j R)) (hj : j < 3) : W.cell? ⟨ob, j * 6 + 3, none⟩ = some (.int .i64 R.n) := by
  have q := h.c_n hj
  rw [setG_at] at q
  exact q
theorem OBs.set_n (h : OB W ob (setG G j R)) (hj : j < 3) (v : Int) : OB (W.setCell ⟨ob, j * 6 + 3, none⟩ (.int .i64 v)) ob (setG G j ⟨R.o, R.i, R.u, v, R.x, R.z⟩) := by
  have q := h.set_n hj v
  rw [setG_setG, setG_at] at q
  exact q
theorem OBs.c_x (h : OB W ob (setG G j R)) (hj : j < 3) : W.cell? ⟨ob, j * 6 + 4, none⟩ = some (.int .i64 R.x) := by
  have q := h.c_x hj
  rw [setG_at] at q
  exact q
theorem OBs.set_x (h : OB W ob (setG G j R)) (hj : j < 3) (v : Int) : OB (W.setCell ⟨ob, j * 6 + 4, none⟩ (.int .i64 v)) ob (setG G j ⟨R.o, R.i, R.u, R.n, v, R.z⟩) := by
  have q := h.set_x hj v
  rw [setG_setG, setG_at] at q
  exact q
theorem OBs.c_z (h : OB W ob (setG G j R)) (hj : j < 3) : W.cell? ⟨ob, j * 6 + 5, none⟩ = some (.int .i64 R.z) := by
  have q := h.c_z hj
  rw [setG_at] at q
  exact q
theorem OBs.set_z (h : OB W ob (setG G j R)) (hj : j < 3) (v : Int) : OB (W.setCell ⟨ob, j * 6 + 5, none⟩ (.int .i64 v)) ob (setG G j ⟨R.o, R.i, R.u, R.n, R.x, v⟩) := by
  have q := h.set_z hj v
  rw [setG_setG, setG_at] at q
  exact q
end
section
variable {l : List Ch} {op : Nat → Int} {j m : Nat}
theorem gK_A (hk : m < l.length) (h1 : (chA l m).fr = (chA l m).to) (h2 : (chA l m).to ≠ (j : Int) + 1) : gK l op j m = gK l op j (m + 1) := by
  rw [← gK_next l op j m hk rfl, ← setG_self (gK l op j m) j, gK_at, setG_setG]
  generalize chA l m = c at *
  simp [putN, h1, h2]
theorem gK_E (hk : m < l.length) (h1 : (chA l m).fr ≠ (chA l m).to) (h2 : (chA l m).fr ≠ (j : Int) + 1) (h3 : (chA l m).to ≠ (j : Int) + 1) : gK l op j m = gK l op j (m + 1) := by
  rw [← gK_next l op j m hk rfl, ← setG_self (gK l op j m) j, gK_at, setG_setG]
  generalize chA l m = c at *
  simp [putN, h2, h3]
theorem gK_C (hk : m < l.length) (h1 : (chA l m).fr ≠ (chA l m).to) (h2 : (chA l m).fr = (j : Int) + 1) : setG (gK l op j m) j ⟨(gK l op j m j).o, (gK l op j m j).i, (gK l op j m j).u + (chA l m).was, (gK l op j m j).n, (gK l op j m j).x, (gK l op j m j).z⟩ = gK l op j (m + 1) := by
  refine gK_next l op j m hk ?_
  have h3 : ¬ (chA l m).to = (j : Int) + 1 := fun e => h1 (h2.trans e.symm)
  rw [gK_at]
  generalize chA l m = c at *
  have h4 : ¬ (j : Int) + 1 = c.to := fun e => h3 e.symm
  simp [putN, h2, h3, h4]
theorem gK_B (hk : m < l.length) (h1 : (chA l m).fr = (chA l m).to) (h2 : (chA l m).to = (j : Int) + 1) : setG (gK l op j m) j ⟨(gK l op j m j).o, (gK l op j m j).i, (gK l op j m j).u, (gK l op j m j).n + ((chA l m).now - (chA l m).was + (chA l m).wr), (gK l op j m j).x + (chA l m).wr, (gK l op j m j).z⟩ = gK l op j (m + 1) := by
  refine gK_next l op j m hk ?_
  rw [gK_at]
  generalize chA l m = c at *
  simp [putN, h1, h2]
theorem gK_D (hk : m < l.length) (h1 : (chA l m).fr ≠ (chA l m).to) (h2 : (chA l m).to = (j : Int) + 1) : setG (gK l op j m) j ⟨(gK l op j m j).o, (gK l op j m j).i + (chA l m).was, (gK l op j m j).u, (gK l op j m j).n + ((chA l m).now - (chA l m).was + (chA l m).wr), (gK l op j m j).x + (chA l m).wr, (gK l op j m j).z⟩ = gK l op j (m + 1) := by
  refine gK_next l op j m hk ?_
  have h3 : ¬ (chA l m).fr = (j : Int) + 1 := fun e => h1 (e.trans h2.symm)
  rw [gK_at]
  generalize chA l m = c at *
  simp [putN, h2, h3]
structure GB (r : Rw) : Prop where
  o : 0 ≤ r.o ∧ r.o ≤ 1152921504606846976
  i : -2305843009213693952 ≤ r.i ∧ r.i ≤ 4611686018427387904
  u : -2305843009213693952 ≤ r.u ∧ r.u ≤ 4611686018427387904
  n : -2305843009213693952 ≤ r.n ∧ r.n ≤ 4611686018427387904
  x : -2305843009213693952 ≤ r.x ∧ r.x ≤ 4611686018427387904
theorem gK_bd (h : AllOk l) (hl : l.length ≤ 4096) (ho : 0 ≤ op j ∧ op j ≤ 1152921504606846976) : GB (gK l op j m j) := by
  rw [gK_at]
  exact ⟨ho, putS_take_bd h hl m _ _, putS_take_bd h hl m _ _, putS_take_bd h hl m _ _, putS_take_bd h hl m _ _⟩
end
end Go.Proofs.Ytkccladbcehdbaa
