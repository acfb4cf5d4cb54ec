/- The document's Roll where all may be. -/
import Derived.Test.YtkccladbcehdbaaRb
import Derived.Test.YtkccladbcehdbaaRw
namespace Go.Proofs.Ytkccladbcehdbaa
open Go.RowKit
set_option linter.unusedVariables false
set_option linter.unusedSimpArgs false
/-- What holds while the rows are summed up. -/
structure DS (w wr : World) (ob n : Nat) (x : Option Addr) (cap : Nat) (l : List Ch) (g : Nat → Rw) : Prop where
  out : OB wr ob g
  res : Blk wr (w.heap.size + 1) #[.int .i64 0, .int .i64 0, .int .i64 0, .int .i64 0, .int .i64 0, .int .i64 0, .int .i64 0, .int .i64 0, .int .i64 0, .int .i64 0, .int .i64 0, .int .i64 0, .int .i64 0, .int .i64 0, .int .i64 0, .int .i64 0, .int .i64 0, .int .i64 0] 34
  bel : Below w.heap.size w wr
  row : RowG 5 wr (.slice x n cap) (l.map chL)
theorem DS.alloc {w wr : World} {ob n : Nat} {x : Option Addr} {cap : Nat} {l : List Ch} {g : Nat → Rw} (h : DS w wr ob n x cap l g) (o : Obj) : DS w (wr.alloc o) ob n x cap l g :=
  ⟨Blk.alloc h.out o, h.res.alloc o, below_via h.bel (below1 wr o), h.row.alloc o⟩
theorem DS.drew {w wr : World} {ob n : Nat} {x : Option Addr} {cap : Nat} {l : List Ch} {g : Nat → Rw} (h : DS w wr ob n x cap l g) : DS w wr.drew ob n x cap l g :=
  ⟨h.out, h.res, h.bel.drew, h.row.keep (Below.refl _ _).drew⟩
theorem DS.set {w wr : World} {ob n : Nat} {x : Option Addr} {cap : Nat} {l : List Ch} {W : World} {g g' : Nat → Rw} (h : DS w wr ob n x cap l g) (k : Past wr W ob) (hO : OB W ob g') (h1 : w.heap.size + 1 < ob) (hf : ∀ y, x = some y → 0 < n → y.block < ob) : DS w W ob n x cap l g' :=
  ⟨hO, k.blk (by omega) h.res, k.bel (by omega) h.bel, rowG_past h.row k hf⟩
theorem past_cell (w : World) (b k : Nat) (v : Value) : Past w (w.setCell ⟨b, k, none⟩ v) b := past_setCells [v] k w
def opF (a b c : Int) : Nat → Int := fun j => if j = 0 then a else if j = 1 then b else c
theorem DS.set_o {w wr : World} {ob n : Nat} {x : Option Addr} {cap : Nat} {l : List Ch} {G : Nat → Rw} {R : Rw} {j : Nat} (h : DS w wr ob n x cap l (setG G j R)) (hj : j < 3) (h1 : w.heap.size + 1 < ob) (hf : ∀ y, x = some y → 0 < n → y.block < ob) (v : Int) : DS w (wr.setCell ⟨ob, j * 6, none⟩ (.int .i64 v)).drew ob n x cap l (setG G j ⟨v, R.i, R.u, R.n, R.x, R.z⟩) :=
  (h.set (past_cell wr ob (j * 6) (.int .i64 v)) (OBs.set_o h.out hj v) h1 hf).drew
theorem DS.set_i {w wr : World} {ob n : Nat} {x : Option Addr} {cap : Nat} {l : List Ch} {G : Nat → Rw} {R : Rw} {j : Nat} (h : DS w wr ob n x cap l (setG G j R)) (hj : j < 3) (h1 : w.heap.size + 1 < ob) (hf : ∀ y, x = some y → 0 < n → y.block < ob) (v : Int) : DS w (wr.setCell ⟨ob, j * 6 + 1, none⟩ (.int .i64 v)).drew ob n x cap l (setG G j ⟨R.o, v, R.u, R.n, R.x, R.z⟩) :=
  (h.set (past_cell wr ob (j * 6 + 1) (.int .i64 v)) (OBs.set_i h.out hj v) h1 hf).drew
theorem DS.set_u {w wr : World} {ob n : Nat} {x : Option Addr} {cap : Nat} {l : List Ch} {G : Nat → Rw} {R : Rw} {j : Nat} (h : DS w wr ob n x cap l (setG G j R)) (hj : j < 3) (h1 : w.heap.size + 1 < ob) (hf : ∀ y, x = some y → 0 < n → y.block < ob) (v : Int) : DS w (wr.setCell ⟨ob, j * 6 + 2, none⟩ (.int .i64 v)).drew ob n x cap l (setG G j ⟨R.o, R.i, v, R.n, R.x, R.z⟩) :=
  (h.set (past_cell wr ob (j * 6 + 2) (.int .i64 v)) (OBs.set_u h.out hj v) h1 hf).drew
theorem DS.set_n {w wr : World} {ob n : Nat} {x : Option Addr} {cap : Nat} {l : List Ch} {G : Nat → Rw} {R : Rw} {j : Nat} (h : DS w wr ob n x cap l (setG G j R)) (hj : j < 3) (h1 : w.heap.size + 1 < ob) (hf : ∀ y, x = some y → 0 < n → y.block < ob) (v : Int) : DS w (wr.setCell ⟨ob, j * 6 + 3, none⟩ (.int .i64 v)).drew ob n x cap l (setG G j ⟨R.o, R.i, R.u, v, R.x, R.z⟩) :=
  (h.set (past_cell wr ob (j * 6 + 3) (.int .i64 v)) (OBs.set_n h.out hj v) h1 hf).drew
theorem DS.set_x {w wr : World} {ob n : Nat} {x : Option Addr} {cap : Nat} {l : List Ch} {G : Nat → Rw} {R : Rw} {j : Nat} (h : DS w wr ob n x cap l (setG G j R)) (hj : j < 3) (h1 : w.heap.size + 1 < ob) (hf : ∀ y, x = some y → 0 < n → y.block < ob) (v : Int) : DS w (wr.setCell ⟨ob, j * 6 + 4, none⟩ (.int .i64 v)).drew ob n x cap l (setG G j ⟨R.o, R.i, R.u, R.n, v, R.z⟩) :=
  (h.set (past_cell wr ob (j * 6 + 4) (.int .i64 v)) (OBs.set_x h.out hj v) h1 hf).drew
theorem DS.set_z {w wr : World} {ob n : Nat} {x : Option Addr} {cap : Nat} {l : List Ch} {G : Nat → Rw} {R : Rw} {j : Nat} (h : DS w wr ob n x cap l (setG G j R)) (hj : j < 3) (h1 : w.heap.size + 1 < ob) (hf : ∀ y, x = some y → 0 < n → y.block < ob) (v : Int) : DS w (wr.setCell ⟨ob, j * 6 + 5, none⟩ (.int .i64 v)).drew ob n x cap l (setG G j ⟨R.o, R.i, R.u, R.n, R.x, v⟩) :=
  (h.set (past_cell wr ob (j * 6 + 5) (.int .i64 v)) (OBs.set_z h.out hj v) h1 hf).drew
set_option maxRecDepth 20000 in
set_option maxHeartbeats 32000000 in
theorem rr_yes (a b c : Int) (x : Option Addr) (n cap : Nat) (l : List Ch) (d1 : decide ((4096 : Int) < (n : Int)) = false) (w : World) (hR : RowG 5 w (.slice x n cap) (l.map chL)) (hl : Hid (l.length = n)) (hn : n ≤ 4096) (hok : AllOk l) (p0 : inB a 1152921504606846976 = true) (p1 : inB b 1152921504606846976 = true) (p2 : inB c 1152921504606846976 = true) (hf0 : ∀ y, x = some y → 0 < n → y.block < w.heap.size) : Calls Try.prog 12 #[.agg #[.int .i64 a, .int .i64 b, .int .i64 c], .slice x n cap] w fun q w' => q = .returned (.tuple #[.agg (cells18 (rwS l 1 a) (rwS l 2 b) (rwS l 3 c)), .int .i64 0]) ∧ Below w.heap.size w w' := by
  have HL : Hid (Below w.heap.size w ((w.alloc (.cells #[.int .i64 a, .int .i64 b, .int .i64 c] 22)).alloc (.cells #[.int .i64 0, .int .i64 0, .int .i64 0, .int .i64 0, .int .i64 0, .int .i64 0, .int .i64 0, .int .i64 0, .int .i64 0, .int .i64 0, .int .i64 0, .int .i64 0, .int .i64 0, .int .i64 0, .int .i64 0, .int .i64 0, .int .i64 0, .int .i64 0] 34))) := hide (below_via (below1 w _) (below1 _ _))
  have HO : Hid (Blk ((w.alloc (.cells #[.int .i64 a, .int .i64 b, .int .i64 c] 22)).alloc (.cells #[.int .i64 0, .int .i64 0, .int .i64 0, .int .i64 0, .int .i64 0, .int .i64 0, .int .i64 0, .int .i64 0, .int .i64 0, .int .i64 0, .int .i64 0, .int .i64 0, .int .i64 0, .int .i64 0, .int .i64 0, .int .i64 0, .int .i64 0, .int .i64 0] 34)) w.heap.size #[.int .i64 a, .int .i64 b, .int .i64 c] 22) := hide ((Blk.new w _ _).alloc _)
  have HR : Hid (Blk ((w.alloc (.cells #[.int .i64 a, .int .i64 b, .int .i64 c] 22)).alloc (.cells #[.int .i64 0, .int .i64 0, .int .i64 0, .int .i64 0, .int .i64 0, .int .i64 0, .int .i64 0, .int .i64 0, .int .i64 0, .int .i64 0, .int .i64 0, .int .i64 0, .int .i64 0, .int .i64 0, .int .i64 0, .int .i64 0, .int .i64 0, .int .i64 0] 34)) (w.heap.size + 1) #[.int .i64 0, .int .i64 0, .int .i64 0, .int .i64 0, .int .i64 0, .int .i64 0, .int .i64 0, .int .i64 0, .int .i64 0, .int .i64 0, .int .i64 0, .int .i64 0, .int .i64 0, .int .i64 0, .int .i64 0, .int .i64 0, .int .i64 0, .int .i64 0] 34) := hide (by have := Blk.new (w.alloc (.cells #[.int .i64 a, .int .i64 b, .int .i64 c] 22)) #[.int .i64 0, .int .i64 0, .int .i64 0, .int .i64 0, .int .i64 0, .int .i64 0, .int .i64 0, .int .i64 0, .int .i64 0, .int .i64 0, .int .i64 0, .int .i64 0, .int .i64 0, .int .i64 0, .int .i64 0, .int .i64 0, .int .i64 0, .int .i64 0] 34; simpa using this)
  have HGB := hide (fun j m => gK_bd (l := l) (op := opF a b c) (j := j) (m := m) hok (by have := unhide hl; omega) (by unfold opF; have := inB_iff.1 p0; have := inB_iff.1 p1; have := inB_iff.1 p2; split; omega; split <;> omega))
  have HU : Hid (RowG 5 ((w.alloc (.cells #[.int .i64 a, .int .i64 b, .int .i64 c] 22)).alloc (.cells #[.int .i64 0, .int .i64 0, .int .i64 0, .int .i64 0, .int .i64 0, .int .i64 0, .int .i64 0, .int .i64 0, .int .i64 0, .int .i64 0, .int .i64 0, .int .i64 0, .int .i64 0, .int .i64 0, .int .i64 0, .int .i64 0, .int .i64 0, .int .i64 0] 34)) (.slice x n cap) (l.map chL)) := hide ((hR.alloc _).alloc _)
  clear hR
  have HOK := hide hok
  clear hok
  replace hf0 := hide hf0
  go_enter Try.func12, Try.ntmps12
  go_wp2_with fail
  generalize (w.alloc (.cells #[.int .i64 a, .int .i64 b, .int .i64 c] 22)).alloc (.cells #[.int .i64 0, .int .i64 0, .int .i64 0, .int .i64 0, .int .i64 0, .int .i64 0, .int .i64 0, .int .i64 0, .int .i64 0, .int .i64 0, .int .i64 0, .int .i64 0, .int .i64 0, .int .i64 0, .int .i64 0, .int .i64 0, .int .i64 0, .int .i64 0] 34) = W0 at *
  go_loopw [20] (fun i wr => ∃ k : Nat, k ≤ n ∧ i = .int .i64 k ∧ Hid (Below W0.heap.size W0 wr)) (fun i _ => n - (intOf i).toNat)
  case atStart => exact ⟨0, by omega, rfl, hide (Below.refl _ _)⟩
  case round =>
    obtain ⟨k, hk, rfl, HB⟩ := hrel
    by_cases hlt : k < n
    · have hU2 := (show RowG _ _ _ _ from unhide HU).keep (unhide HB)
      obtain ⟨bb, off, cap', hx, _, _⟩ := hU2.open (by rw [List.length_map, unhide hl]; omega)
      injection hx with hx1 hx2 hx3
      subst hx1
      obtain ⟨m0, m1, m2, m3, m4⟩ := hU2.ch (k := k) (by rw [unhide hl]; exact hlt)
      have k1 : (k : Int) < (n : Int) := by omega
      have hb1 := hide (below_via (unhide HB) (below1 wr (.cells #[.int .i64 (chA l k).fr, .int .i64 (chA l k).to, .int .i64 (chA l k).was, .int .i64 (chA l k).now, .int .i64 (chA l k).wr] 47)))
      have hk1 := chA_ok (unhide HOK) (k := k) (by rw [unhide hl]; exact hlt)
      obtain ⟨⟨f1, f2⟩, ⟨f3, f4⟩, f5, f6, f7⟩ := hk1
      have q0 : decide ((chA l k).fr < 1) = false := decide_eq_false (by omega)
      have q1 : decide (3 < (chA l k).fr) = false := decide_eq_false (by omega)
      have q2 : decide ((chA l k).to < 1) = false := decide_eq_false (by omega)
      have q3 : decide (3 < (chA l k).to) = false := decide_eq_false (by omega)
      have q4 := inB_iff.2 f5
      have q5 := inB_iff.2 f6
      have q6 := inB_iff.2 f7
      clear f1 f2 f3 f4 f5 f6 f7
      generalize (chA l k).fr = f at *
      generalize (chA l k).to = t at *
      generalize (chA l k).was = x0 at *
      generalize (chA l k).now = x1 at *
      generalize (chA l k).wr = x2 at *
      clear hU2 hx2 hx3
      go_wp2_with fail
      refine (my_any x0 562949953421312 _).mono ?_
      rintro e w4 ⟨rfl, rfl⟩
      rw [q4]
      go_wp2_with fail
      refine (my_any x1 562949953421312 _).mono ?_
      rintro e w5 ⟨rfl, rfl⟩
      rw [q5]
      go_wp2_with fail
      refine (my_any x2 562949953421312 _).mono ?_
      rintro e w6 ⟨rfl, rfl⟩
      rw [q6]
      go_wp2_with fail
      go_roundw
      case rel => exact ⟨k + 1, by omega, by go_num, hb1⟩
      case measure => simp [intOf]; omega
    · obtain rfl : k = n := by omega
      replace HO := hide ((show Blk _ _ _ _ from unhide HO).keep (unhide HB))
      replace HR := hide ((show Blk _ _ _ _ from unhide HR).keep (unhide HB))
      replace HU := hide ((show RowG _ _ _ _ from unhide HU).keep (unhide HB))
      have hsz0 := (unhide HL).size
      have hlr := (show Blk _ _ _ _ from unhide HR).lt
      replace HL := hide (below_via (unhide HL) (unhide HB))
      have HB0 := HB
      clear HB
      have HX := hide (Blk.new wr #[.int .i64 0, .int .i64 0, .int .i64 0, .int .i64 0, .int .i64 0, .int .i64 0, .int .i64 0, .int .i64 0, .int .i64 0, .int .i64 0, .int .i64 0, .int .i64 0, .int .i64 0, .int .i64 0, .int .i64 0, .int .i64 0, .int .i64 0, .int .i64 0] 34)
      replace HO := hide ((show Blk _ _ _ _ from unhide HO).alloc (.cells #[.int .i64 0, .int .i64 0, .int .i64 0, .int .i64 0, .int .i64 0, .int .i64 0, .int .i64 0, .int .i64 0, .int .i64 0, .int .i64 0, .int .i64 0, .int .i64 0, .int .i64 0, .int .i64 0, .int .i64 0, .int .i64 0, .int .i64 0, .int .i64 0] 34))
      have o0 := (show Blk _ _ _ _ from unhide HO).at 0 (.int .i64 a) rfl
      have o1 := (show Blk _ _ _ _ from unhide HO).at 1 (.int .i64 b) rfl
      have o2 := (show Blk _ _ _ _ from unhide HO).at 2 (.int .i64 c) rfl
      replace HR := hide ((show Blk _ _ _ _ from unhide HR).alloc (.cells #[.int .i64 0, .int .i64 0, .int .i64 0, .int .i64 0, .int .i64 0, .int .i64 0, .int .i64 0, .int .i64 0, .int .i64 0, .int .i64 0, .int .i64 0, .int .i64 0, .int .i64 0, .int .i64 0, .int .i64 0, .int .i64 0, .int .i64 0, .int .i64 0] 34))
      replace HL := hide (below_via (unhide HL) (below1 wr (.cells #[.int .i64 0, .int .i64 0, .int .i64 0, .int .i64 0, .int .i64 0, .int .i64 0, .int .i64 0, .int .i64 0, .int .i64 0, .int .i64 0, .int .i64 0, .int .i64 0, .int .i64 0, .int .i64 0, .int .i64 0, .int .i64 0, .int .i64 0, .int .i64 0] 34)))
      replace HU := hide ((show RowG _ _ _ _ from unhide HU).alloc (.cells #[.int .i64 0, .int .i64 0, .int .i64 0, .int .i64 0, .int .i64 0, .int .i64 0, .int .i64 0, .int .i64 0, .int .i64 0, .int .i64 0, .int .i64 0, .int .i64 0, .int .i64 0, .int .i64 0, .int .i64 0, .int .i64 0, .int .i64 0, .int .i64 0] 34))
      go_wp2_with fail
      clear o0 o1 o2
      generalize wr.alloc (.cells #[.int .i64 0, .int .i64 0, .int .i64 0, .int .i64 0, .int .i64 0, .int .i64 0, .int .i64 0, .int .i64 0, .int .i64 0, .int .i64 0, .int .i64 0, .int .i64 0, .int .i64 0, .int .i64 0, .int .i64 0, .int .i64 0, .int .i64 0, .int .i64 0] 34) = V0 at *
      have hsz1 := (unhide HB0).size
      generalize hob : wr.heap.size = ob at *
      have HF : Hid (∀ y, x = some y → 0 < k → y.block < ob) := hide (fun y e h => by have := unhide hf0 y e h; omega)
      clear hob
      refine wp_loop_rounds 4 ?_
      rw [rounds_succ]
      have cz := (show Blk _ _ _ _ from unhide HX).at 0 (.int .i64 0) rfl
      have fz := (show Blk _ _ _ _ from unhide HX).fz 0
      go_wp2_with (simp only [ix22_0, ix22_1, ix22_2])
      refine (my_any a 1152921504606846976 _).mono ?_
      rintro e w0 ⟨rfl, rfl⟩
      rw [p0]
      go_wp2_with fail
      replace HX : Hid (Blk (V0.setCell ⟨ob, 0, none⟩ (.int .i64 a)) ob #[.int .i64 a, .int .i64 0, .int .i64 0, .int .i64 0, .int .i64 0, .int .i64 0, .int .i64 0, .int .i64 0, .int .i64 0, .int .i64 0, .int .i64 0, .int .i64 0, .int .i64 0, .int .i64 0, .int .i64 0, .int .i64 0, .int .i64 0, .int .i64 0] 34) := hide ((show Blk _ _ _ _ from unhide HX).set 0 (.int .i64 a))
      have HP0 := hide (past_setCells (b := ob) [Value.int .i64 a] 0 V0)
      replace HR := hide ((unhide HP0).blk (show w.heap.size + 1 ≠ ob by omega) (show Blk _ _ _ _ from unhide HR))
      replace HL := hide ((unhide HP0).bel (show w.heap.size ≤ ob by omega) (unhide HL))
      replace HU := hide (rowG_past (unhide HU) (unhide HP0) (unhide HF))
      clear cz fz HP0
      change Hid (Blk (V0.setCell ⟨ob, 0, none⟩ (.int .i64 a)) _ _ _) at HR
      change Hid (Below _ _ (V0.setCell ⟨ob, 0, none⟩ (.int .i64 a))) at HL
      change Hid (RowG _ (V0.setCell ⟨ob, 0, none⟩ (.int .i64 a)) _ _) at HU
      generalize V0.setCell ⟨ob, 0, none⟩ (.int .i64 a) = V1 at *
      rw [rounds_succ]
      have cz := (show Blk _ _ _ _ from unhide HX).at 6 (.int .i64 0) rfl
      have fz := (show Blk _ _ _ _ from unhide HX).fz 6
      go_wp2_with (simp only [ix22_0, ix22_1, ix22_2])
      refine (my_any b 1152921504606846976 _).mono ?_
      rintro e w1 ⟨rfl, rfl⟩
      rw [p1]
      go_wp2_with fail
      replace HX : Hid (Blk (V1.setCell ⟨ob, 6, none⟩ (.int .i64 b)) ob #[.int .i64 a, .int .i64 0, .int .i64 0, .int .i64 0, .int .i64 0, .int .i64 0, .int .i64 b, .int .i64 0, .int .i64 0, .int .i64 0, .int .i64 0, .int .i64 0, .int .i64 0, .int .i64 0, .int .i64 0, .int .i64 0, .int .i64 0, .int .i64 0] 34) := hide ((show Blk _ _ _ _ from unhide HX).set 6 (.int .i64 b))
      have HP1 := hide (past_setCells (b := ob) [Value.int .i64 b] 6 V1)
      replace HR := hide ((unhide HP1).blk (show w.heap.size + 1 ≠ ob by omega) (show Blk _ _ _ _ from unhide HR))
      replace HL := hide ((unhide HP1).bel (show w.heap.size ≤ ob by omega) (unhide HL))
      replace HU := hide (rowG_past (unhide HU) (unhide HP1) (unhide HF))
      clear cz fz HP1
      change Hid (Blk (V1.setCell ⟨ob, 6, none⟩ (.int .i64 b)) _ _ _) at HR
      change Hid (Below _ _ (V1.setCell ⟨ob, 6, none⟩ (.int .i64 b))) at HL
      change Hid (RowG _ (V1.setCell ⟨ob, 6, none⟩ (.int .i64 b)) _ _) at HU
      generalize V1.setCell ⟨ob, 6, none⟩ (.int .i64 b) = V2 at *
      rw [rounds_succ]
      have cz := (show Blk _ _ _ _ from unhide HX).at 12 (.int .i64 0) rfl
      have fz := (show Blk _ _ _ _ from unhide HX).fz 12
      go_wp2_with (simp only [ix22_0, ix22_1, ix22_2])
      refine (my_any c 1152921504606846976 _).mono ?_
      rintro e w2 ⟨rfl, rfl⟩
      rw [p2]
      go_wp2_with fail
      replace HX : Hid (Blk (V2.setCell ⟨ob, 12, none⟩ (.int .i64 c)) ob #[.int .i64 a, .int .i64 0, .int .i64 0, .int .i64 0, .int .i64 0, .int .i64 0, .int .i64 b, .int .i64 0, .int .i64 0, .int .i64 0, .int .i64 0, .int .i64 0, .int .i64 c, .int .i64 0, .int .i64 0, .int .i64 0, .int .i64 0, .int .i64 0] 34) := hide ((show Blk _ _ _ _ from unhide HX).set 12 (.int .i64 c))
      have HP2 := hide (past_setCells (b := ob) [Value.int .i64 c] 12 V2)
      replace HR := hide ((unhide HP2).blk (show w.heap.size + 1 ≠ ob by omega) (show Blk _ _ _ _ from unhide HR))
      replace HL := hide ((unhide HP2).bel (show w.heap.size ≤ ob by omega) (unhide HL))
      replace HU := hide (rowG_past (unhide HU) (unhide HP2) (unhide HF))
      clear cz fz HP2
      change Hid (Blk (V2.setCell ⟨ob, 12, none⟩ (.int .i64 c)) _ _ _) at HR
      change Hid (Below _ _ (V2.setCell ⟨ob, 12, none⟩ (.int .i64 c))) at HL
      change Hid (RowG _ (V2.setCell ⟨ob, 12, none⟩ (.int .i64 c)) _ _) at HU
      generalize V2.setCell ⟨ob, 12, none⟩ (.int .i64 c) = V3 at *
      rw [rounds_succ]
      go_wp2_with (simp only [ix22_0, ix22_1, ix22_2])
      replace HX : Hid (OB V3 ob (gK l (opF a b c) 0 0)) := hide (by have q := (show Blk _ _ _ _ from unhide HX); exact q)
      have HD : Hid (DS w V3 ob k x cap l (gK l (opF a b c) 0 0)) := hide ⟨unhide HX, unhide HR, unhide HL, unhide HU⟩
      have hlr2 : w.heap.size + 1 < ob := by omega
      clear HX HR HL HU HO hlr hsz0 hsz1 HB0 hf0 p0 p1 p2
      go_loopw [76] (fun i wr => ∃ j : Nat, j ≤ 3 ∧ i = .int .i64 j ∧ Hid (DS w wr ob k x cap l (gK l (opF a b c) j 0))) (fun i _ => 3 - (intOf i).toNat)
      case atStart => exact ⟨0, by omega, rfl, HD⟩
      case round =>
        obtain ⟨j, hj, rfl, HD1⟩ := hrel
        by_cases hj3 : j < 3
        · have hj4 : (j : Int) < 3 := by omega
          go_wp2_with fail
          go_loopw [81] (fun i wr => ∃ m : Nat, m ≤ k ∧ i = .int .i64 m ∧ Hid (DS w wr ob k x cap l (gK l (opF a b c) j m))) (fun i _ => k - (intOf i).toNat)
          case atStart => exact ⟨0, by omega, rfl, HD1⟩
          case round =>
            obtain ⟨m, hm, rfl, HD2⟩ := hrel
            by_cases hmk : m < k
            · obtain ⟨bb, off, cap', hx, _, _⟩ := (unhide HD2).row.open (by rw [List.length_map, unhide hl]; omega)
              injection hx with hx1 hx2 hx3
              subst hx1
              obtain ⟨m0, m1, m2, m3, m4⟩ := (unhide HD2).row.ch (k := m) (by rw [unhide hl]; exact hmk)
              have m5 : (m : Int) < (k : Int) := by omega
              have hmk' : m < l.length := by rw [unhide hl]; exact hmk
              have HD3 : Hid (DS w (wr.alloc (.cells #[.int .i64 (chA l m).fr, .int .i64 (chA l m).to, .int .i64 (chA l m).was, .int .i64 (chA l m).now, .int .i64 (chA l m).wr] 47)) ob k (some ⟨bb, off, none⟩) cap l (setG (gK l (opF a b c) j m) j (gK l (opF a b c) j m j))) := hide (by rw [setG_self]; exact (unhide HD2).alloc _)
              have HC3 := hide (Blk.new wr #[.int .i64 (chA l m).fr, .int .i64 (chA l m).to, .int .i64 (chA l m).was, .int .i64 (chA l m).now, .int .i64 (chA l m).wr] 47)
              have hcb : Hid (wr.heap.size ≠ ob) := hide (by have := (show Blk _ _ _ _ from (unhide HD2).out).lt; omega)
              obtain ⟨⟨f1, f2⟩, ⟨f3, f4⟩, ⟨f5, f6⟩, ⟨f7, f8⟩, ⟨f9, f10⟩⟩ := chA_ok (unhide HOK) hmk'
              obtain ⟨⟨g1, g2⟩, ⟨g3, g4⟩, ⟨g5, g6⟩, ⟨g7, g8⟩, ⟨g9, g10⟩⟩ := unhide HGB j m
              have v1 := wrap_in' (n := (chA l m).now - (chA l m).was) ⟨by omega, by omega⟩
              have v2 := wrap_in' (n := (chA l m).now - (chA l m).was + (chA l m).wr) ⟨by omega, by omega⟩
              have v3 := wrap_in' (n := (gK l (opF a b c) j m j).n + ((chA l m).now - (chA l m).was + (chA l m).wr)) ⟨by omega, by omega⟩
              have v4 := wrap_in' (n := (gK l (opF a b c) j m j).x + (chA l m).wr) ⟨by omega, by omega⟩
              have v5 := wrap_in' (n := (gK l (opF a b c) j m j).u + (chA l m).was) ⟨by omega, by omega⟩
              have v6 := wrap_in' (n := (gK l (opF a b c) j m j).i + (chA l m).was) ⟨by omega, by omega⟩
              clear f1 f2 f3 f4 f5 f6 f7 f8 f9 f10 g1 g2 g3 g4 g5 g6 g7 g8 g9 g10
              have WA := hide (gK_A (op := opF a b c) (j := j) hmk')
              have WB := hide (gK_B (op := opF a b c) (j := j) hmk')
              have WC := hide (gK_C (op := opF a b c) (j := j) hmk')
              have WD := hide (gK_D (op := opF a b c) (j := j) hmk')
              have WE := hide (gK_E (op := opF a b c) (j := j) hmk')
              generalize hG1' : gK l (opF a b c) j (m + 1) = G1 at *
              have hG1 := hide hG1'
              clear hG1'
              generalize hG : gK l (opF a b c) j m = G at *
              generalize chA l m = c0 at *
              obtain ⟨f, t, y0, y1, y2⟩ := c0
              dsimp only at m0 m1 m2 m3 m4 HD3 HC3 v1 v2 v3 v4 v5 v6 WA WB WC WD WE
              clear HD2 hx2 hx3 hmk' hG
              by_cases e1 : f = t
              · subst e1
                have h1 : (f != f) = false := by simp
                by_cases e3 : f = (j : Int) + 1
                · subst e3
                  replace WB := hide (unhide WB rfl rfl)
                  have h3 : (((j : Int) + 1) == (j : Int) + 1) = true := by simp
                  clear WA WC WD WE v5 v6
                  go_wp2_with fail
                  generalize wr.alloc (.cells #[.int .i64 ((j : Int) + 1), .int .i64 ((j : Int) + 1), .int .i64 y0, .int .i64 y1, .int .i64 y2] 47) = V0 at *
                  generalize wr.heap.size = cb at *
                  clear m0 m1 m2 m3 m4
                  have c2 := (show Blk _ _ _ _ from unhide HC3).at 2 (.int .i64 y0) rfl
                  have c3 := (show Blk _ _ _ _ from unhide HC3).at 3 (.int .i64 y1) rfl
                  have c4 := (show Blk _ _ _ _ from unhide HC3).at 4 (.int .i64 y2) rfl
                  have hu := OBs.c_n (unhide HD3).out hj3
                  have hz := (unhide HD3).out.fz (j * 6 + 3)
                  try dsimp only at hu
                  refine reg28 hj4 hu c2 c3 c4 hz v1 v2 v3 ?_
                  try dsimp only [Exit.then]
                  replace HC3 : Hid (Blk (V0.setCell ⟨ob, j * 6 + 3, none⟩ (.int .i64 ((G j).n + (y1 - y0 + y2)))).drew cb #[.int .i64 ((j : Int) + 1), .int .i64 ((j : Int) + 1), .int .i64 y0, .int .i64 y1, .int .i64 y2] 47) := hide ((show Blk _ _ _ _ from unhide HC3).other (unhide hcb) (j * 6 + 3) (.int .i64 ((G j).n + (y1 - y0 + y2))))
                  replace HD3 := hide ((unhide HD3).set_n hj3 hlr2 (unhide HF) ((G j).n + (y1 - y0 + y2)))
                  clear hu hz c2 c3 c4
                  generalize (V0.setCell ⟨ob, j * 6 + 3, none⟩ (.int .i64 ((G j).n + (y1 - y0 + y2)))).drew = V1 at *
                  go_wp2_with fail
                  have c4 := (show Blk _ _ _ _ from unhide HC3).at 4 (.int .i64 y2) rfl
                  have hu := OBs.c_x (unhide HD3).out hj3
                  have hz := (unhide HD3).out.fz (j * 6 + 4)
                  try dsimp only at hu
                  refine reg29 hj4 hu c4 hz v4 ?_
                  try dsimp only [Exit.then]
                  replace HC3 : Hid (Blk (V1.setCell ⟨ob, j * 6 + 4, none⟩ (.int .i64 ((G j).x + y2))).drew cb #[.int .i64 ((j : Int) + 1), .int .i64 ((j : Int) + 1), .int .i64 y0, .int .i64 y1, .int .i64 y2] 47) := hide ((show Blk _ _ _ _ from unhide HC3).other (unhide hcb) (j * 6 + 4) (.int .i64 ((G j).x + y2)))
                  replace HD3 := hide ((unhide HD3).set_x hj3 hlr2 (unhide HF) ((G j).x + y2))
                  clear hu hz c4
                  generalize (V1.setCell ⟨ob, j * 6 + 4, none⟩ (.int .i64 ((G j).x + y2))).drew = V2 at *
                  rw [unhide WB] at HD3
                  clear WB HC3 hcb v1 v2 v3 v4
                  go_wp2_with fail
                  go_roundw
                  case rel => exact ⟨m + 1, by omega, by go_num, by rw [unhide hG1]; exact HD3⟩
                  case measure => simp [intOf]; omega
                · replace WA := hide (unhide WA rfl e3)
                  have h3 : (f == (j : Int) + 1) = false := by simp [e3]
                  rw [setG_self, unhide WA] at HD3
                  clear WA WB WC WD WE v1 v2 v3 v4 v5 v6 e3
                  go_wp2_with fail
                  go_roundw
                  case rel => exact ⟨m + 1, by omega, by go_num, by rw [unhide hG1]; exact HD3⟩
                  case measure => simp [intOf]; omega
              · have h1 : (f != t) = true := by simp [e1]
                by_cases e2 : f = (j : Int) + 1
                · subst e2
                  replace WC := hide (unhide WC e1 rfl)
                  have h2 : (((j : Int) + 1) == (j : Int) + 1) = true := by simp
                  have h3 : (t == (j : Int) + 1) = false := by simp; omega
                  clear e1 WA WB WD WE v1 v2 v3 v4 v6
                  go_wp2_with fail
                  generalize wr.alloc (.cells #[.int .i64 ((j : Int) + 1), .int .i64 t, .int .i64 y0, .int .i64 y1, .int .i64 y2] 47) = V0 at *
                  generalize wr.heap.size = cb at *
                  clear m0 m1 m2 m3 m4
                  have c2 := (show Blk _ _ _ _ from unhide HC3).at 2 (.int .i64 y0) rfl
                  have hu := OBs.c_u (unhide HD3).out hj3
                  have hz := (unhide HD3).out.fz (j * 6 + 2)
                  try dsimp only at hu
                  refine reg24 hj4 hu c2 hz v5 ?_
                  try dsimp only [Exit.then]
                  replace HC3 : Hid (Blk (V0.setCell ⟨ob, j * 6 + 2, none⟩ (.int .i64 ((G j).u + y0))).drew cb #[.int .i64 ((j : Int) + 1), .int .i64 t, .int .i64 y0, .int .i64 y1, .int .i64 y2] 47) := hide ((show Blk _ _ _ _ from unhide HC3).other (unhide hcb) (j * 6 + 2) (.int .i64 ((G j).u + y0)))
                  replace HD3 := hide ((unhide HD3).set_u hj3 hlr2 (unhide HF) ((G j).u + y0))
                  clear hu hz c2
                  generalize (V0.setCell ⟨ob, j * 6 + 2, none⟩ (.int .i64 ((G j).u + y0))).drew = V1 at *
                  rw [unhide WC] at HD3
                  clear WC v5
                  have c0 := (show Blk _ _ _ _ from unhide HC3).at 0 (.int .i64 ((j : Int) + 1)) rfl
                  have c1 := (show Blk _ _ _ _ from unhide HC3).at 1 (.int .i64 t) rfl
                  go_wp2_with fail
                  go_roundw
                  case rel => exact ⟨m + 1, by omega, by go_num, by rw [unhide hG1]; exact HD3⟩
                  case measure => simp [intOf]; omega
                · have h2 : (f == (j : Int) + 1) = false := by simp [e2]
                  by_cases e3 : t = (j : Int) + 1
                  · subst e3
                    replace WD := hide (unhide WD e1 rfl)
                    have h3 : (((j : Int) + 1) == (j : Int) + 1) = true := by simp
                    clear e1 e2 WA WB WC WE v5
                    go_wp2_with fail
                    generalize wr.alloc (.cells #[.int .i64 f, .int .i64 ((j : Int) + 1), .int .i64 y0, .int .i64 y1, .int .i64 y2] 47) = V0 at *
                    generalize wr.heap.size = cb at *
                    clear m0 m1 m2 m3 m4
                    have c2 := (show Blk _ _ _ _ from unhide HC3).at 2 (.int .i64 y0) rfl
                    have hu := OBs.c_i (unhide HD3).out hj3
                    have hz := (unhide HD3).out.fz (j * 6 + 1)
                    try dsimp only at hu
                    refine reg26 hj4 hu c2 hz v6 ?_
                    try dsimp only [Exit.then]
                    replace HC3 : Hid (Blk (V0.setCell ⟨ob, j * 6 + 1, none⟩ (.int .i64 ((G j).i + y0))).drew cb #[.int .i64 f, .int .i64 ((j : Int) + 1), .int .i64 y0, .int .i64 y1, .int .i64 y2] 47) := hide ((show Blk _ _ _ _ from unhide HC3).other (unhide hcb) (j * 6 + 1) (.int .i64 ((G j).i + y0)))
                    replace HD3 := hide ((unhide HD3).set_i hj3 hlr2 (unhide HF) ((G j).i + y0))
                    clear hu hz c2
                    generalize (V0.setCell ⟨ob, j * 6 + 1, none⟩ (.int .i64 ((G j).i + y0))).drew = V1 at *
                    have c1 := (show Blk _ _ _ _ from unhide HC3).at 1 (.int .i64 ((j : Int) + 1)) rfl
                    go_wp2_with fail
                    clear c1
                    have c2 := (show Blk _ _ _ _ from unhide HC3).at 2 (.int .i64 y0) rfl
                    have c3 := (show Blk _ _ _ _ from unhide HC3).at 3 (.int .i64 y1) rfl
                    have c4 := (show Blk _ _ _ _ from unhide HC3).at 4 (.int .i64 y2) rfl
                    have hu := OBs.c_n (unhide HD3).out hj3
                    have hz := (unhide HD3).out.fz (j * 6 + 3)
                    try dsimp only at hu
                    refine reg28 hj4 hu c2 c3 c4 hz v1 v2 v3 ?_
                    try dsimp only [Exit.then]
                    replace HC3 : Hid (Blk (V1.setCell ⟨ob, j * 6 + 3, none⟩ (.int .i64 ((G j).n + (y1 - y0 + y2)))).drew cb #[.int .i64 f, .int .i64 ((j : Int) + 1), .int .i64 y0, .int .i64 y1, .int .i64 y2] 47) := hide ((show Blk _ _ _ _ from unhide HC3).other (unhide hcb) (j * 6 + 3) (.int .i64 ((G j).n + (y1 - y0 + y2))))
                    replace HD3 := hide ((unhide HD3).set_n hj3 hlr2 (unhide HF) ((G j).n + (y1 - y0 + y2)))
                    clear hu hz c2 c3 c4
                    generalize (V1.setCell ⟨ob, j * 6 + 3, none⟩ (.int .i64 ((G j).n + (y1 - y0 + y2)))).drew = V2 at *
                    go_wp2_with fail
                    have c4 := (show Blk _ _ _ _ from unhide HC3).at 4 (.int .i64 y2) rfl
                    have hu := OBs.c_x (unhide HD3).out hj3
                    have hz := (unhide HD3).out.fz (j * 6 + 4)
                    try dsimp only at hu
                    refine reg29 hj4 hu c4 hz v4 ?_
                    try dsimp only [Exit.then]
                    replace HC3 : Hid (Blk (V2.setCell ⟨ob, j * 6 + 4, none⟩ (.int .i64 ((G j).x + y2))).drew cb #[.int .i64 f, .int .i64 ((j : Int) + 1), .int .i64 y0, .int .i64 y1, .int .i64 y2] 47) := hide ((show Blk _ _ _ _ from unhide HC3).other (unhide hcb) (j * 6 + 4) (.int .i64 ((G j).x + y2)))
                    replace HD3 := hide ((unhide HD3).set_x hj3 hlr2 (unhide HF) ((G j).x + y2))
                    clear hu hz c4
                    generalize (V2.setCell ⟨ob, j * 6 + 4, none⟩ (.int .i64 ((G j).x + y2))).drew = V3 at *
                    rw [unhide WD] at HD3
                    clear WD HC3 hcb v1 v2 v3 v4 v6
                    go_wp2_with fail
                    go_roundw
                    case rel => exact ⟨m + 1, by omega, by go_num, by rw [unhide hG1]; exact HD3⟩
                    case measure => simp [intOf]; omega
                  · replace WE := hide (unhide WE e1 e2 e3)
                    have h3 : (t == (j : Int) + 1) = false := by simp [e3]
                    rw [setG_self, unhide WE] at HD3
                    clear e1 e2 e3 WA WB WC WD WE v1 v2 v3 v4 v5 v6
                    go_wp2_with fail
                    go_roundw
                    case rel => exact ⟨m + 1, by omega, by go_num, by rw [unhide hG1]; exact HD3⟩
                    case measure => simp [intOf]; omega
            · obtain rfl : m = k := by omega
              have HE := hide (gK_close l (opF a b c) j)
              have hml : Hid (l.take m = l) := hide (by rw [← unhide hl, List.take_length])
              have HD3 : Hid (DS w wr ob m x cap l (setG (gK l (opF a b c) j m) j ⟨opF a b c j, putS l (j + 1) 0, putS l (j + 1) 1, putS l (j + 1) 2, putS l (j + 1) 3, 0⟩)) := hide (by have q := gK_at l (opF a b c) j m; rw [unhide hml] at q; rw [← q, setG_self]; exact unhide HD2)
              rw [unhide hl] at HE
              obtain ⟨⟨g1, g2⟩, ⟨g3, g4⟩, ⟨g5, g6⟩, ⟨g7, g8⟩, ⟨g9, g10⟩⟩ := rwS_bd (unhide HOK) (by rw [unhide hl]; exact hn) (show 0 ≤ opF a b c j ∧ opF a b c j ≤ 1152921504606846976 by have := (unhide HGB j m).o; rw [gK_at] at this; exact this) ((j : Int) + 1)
              simp only [rwS] at g1 g2 g3 g4 g5 g6 g7 g8 g9 g10
              clear HD2 hml
              generalize hG : gK l (opF a b c) j m = G at *
              generalize hG1' : gK l (opF a b c) (j + 1) 0 = G1 at *
              have hG1 := hide hG1'
              clear hG1'
              generalize opF a b c j = q0 at *
              generalize putS l ((j : Int) + 1) 0 = q1 at *
              generalize putS l ((j : Int) + 1) 1 = q2 at *
              generalize putS l ((j : Int) + 1) 2 = q3 at *
              generalize putS l ((j : Int) + 1) 3 = q4 at *
              have v1 := wrap_in' (n := q0 + q1) ⟨by omega, by omega⟩
              have v2 := wrap_in' (n := q0 + q1 + q3) ⟨by omega, by omega⟩
              have v3 := wrap_in' (n := q0 + q1 + q3 - q2) ⟨by omega, by omega⟩
              have v4 := wrap_in' (n := q0 + q1 + q3 - q2 - q4) ⟨by omega, by omega⟩
              clear g1 g2 g3 g4 g5 g6 g7 g8 g9 g10 hG
              have d0 := OBs.c_o (unhide HD3).out hj3
              have d1' := OBs.c_i (unhide HD3).out hj3
              have d2 := OBs.c_u (unhide HD3).out hj3
              have d3 := OBs.c_n (unhide HD3).out hj3
              have d4 := OBs.c_x (unhide HD3).out hj3
              have d5 := OBs.c_z (unhide HD3).out hj3
              have hz := (unhide HD3).out.fz (j * 6 + 5)
              dsimp only at d0 d1' d2 d3 d4 d5
              go_wp2_with fail
              refine reg31 hj4 d0 d1' d2 d3 d4 d5 hz v1 v2 v3 v4 ?_
              try dsimp only [Exit.then]
              replace HD3 := hide ((unhide HD3).set_z hj3 hlr2 (unhide HF) (q0 + q1 + q3 - q2 - q4))
              dsimp only at HD3
              rw [unhide HE] at HD3
              clear d0 d1' d2 d3 d4 d5 hz HE v1 v2 v3 v4
              generalize (wr.setCell ⟨ob, j * 6 + 5, none⟩ (.int .i64 (q0 + q1 + q3 - q2 - q4))).drew = V1 at *
              go_wp2_with fail
              go_roundw
              case rel => exact ⟨j + 1, by omega, by go_num, by rw [unhide hG1]; exact HD3⟩
              case measure => simp [intOf]; omega
        · obtain rfl : j = 3 := by omega
          have HX : Hid (Blk wr ob (cells18 (rwS l 1 a) (rwS l 2 b) (rwS l 3 c)) 34) := hide (show Blk _ _ _ _ from (unhide HD1).out)
          have HR := hide (unhide HD1).res
          have HL := hide (unhide HD1).bel
          clear HD1 HD
          go_wp2_with (first | refine load_blk rfl 34 _ rfl (show Blk _ _ _ _ from unhide HX) rfl row34 size34 rfl ?_ | refine store_blk rfl 34 _ _ rfl (show Blk _ _ _ _ from unhide HR) rfl rfl size34 rfl rfl rfl ?_)
          intro V5 k5 kp
          have k6 := kp.bel (by omega) (unhide HL)
          clear kp HX HR HL
          go_wp2_with fail
          exact bodyPost_ret (v := .tuple #[.agg (cells18 (rwS l 1 a) (rwS l 2 b) (rwS l 3 c)), .int .i64 0]) (res_ct (cs0 := cells18 (rwS l 1 a) (rwS l 2 b) (rwS l 3 c)) rfl k5 row34 size34 rfl rfl rfl) rfl ⟨rfl, k6⟩
end Go.Proofs.Ytkccladbcehdbaa
