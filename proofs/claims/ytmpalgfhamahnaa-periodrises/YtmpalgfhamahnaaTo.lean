/- What the day's To answers. -/
import Derived.Test.YtmpalgfhamahnaaMonths
import Derived.Deep.OwnRows
import Derived.Deep.RegionWith
namespace Go.Proofs.Ytmpalgfhamahnaa
open Go.RowKit
set_option linter.unusedSimpArgs false
theorem below_drewN {B : Nat} {a w : World} (h : Below B a w) (n : Nat) : Below B a (w.drewN n) := h.trans ⟨rfl, rfl, rfl, Nat.le_refl _, fun _ _ => rfl⟩
theorem below_via {w W w1 : World} (h1 : Below w.heap.size w W) (h2 : Below W.heap.size W w1) : Below w.heap.size w w1 := h1.trans (h2.mono h1.size)
/-- Block b holds these three numbers. -/
def R3 (w : World) (b : Nat) (x y z : Int) : Prop := w.heap[b]? = some (.cells #[.int .i64 x, .int .i64 y, .int .i64 z] 37 (0, 0))
theorem R3.c0 {w : World} {b : Nat} {x y z : Int} (h : R3 w b x y z) : w.cell? ⟨b, 0, none⟩ = some (.int .i64 x) := by rw [cell_of_row w b 0 _ _ _ h]; rfl
theorem R3.c1 {w : World} {b : Nat} {x y z : Int} (h : R3 w b x y z) : w.cell? ⟨b, 1, none⟩ = some (.int .i64 y) := by rw [cell_of_row w b 1 _ _ _ h]; rfl
theorem R3.c2 {w : World} {b : Nat} {x y z : Int} (h : R3 w b x y z) : w.cell? ⟨b, 2, none⟩ = some (.int .i64 z) := by rw [cell_of_row w b 2 _ _ _ h]; rfl
theorem R3.fr {w : World} {b : Nat} {x y z : Int} (h : R3 w b x y z) (i : Nat) : w.frozen? ⟨b, i, none⟩ = false := frozen_of_row w b i _ _ h
theorem R3.lt {w : World} {b : Nat} {x y z : Int} (h : R3 w b x y z) : b < w.heap.size := (Array.getElem?_eq_some_iff.1 h).1
theorem R3.s0 {w : World} {b : Nat} {x y z : Int} (h : R3 w b x y z) (u : Int) : R3 (w.setCell ⟨b, 0, none⟩ (.int .i64 u)) b u y z := by unfold R3; rw [Go.heap_setCell_same w b 0 _ _ _ h]; rfl
theorem R3.s1 {w : World} {b : Nat} {x y z : Int} (h : R3 w b x y z) (u : Int) : R3 (w.setCell ⟨b, 1, none⟩ (.int .i64 u)) b x u z := by unfold R3; rw [Go.heap_setCell_same w b 1 _ _ _ h]; rfl
theorem R3.s2 {w : World} {b : Nat} {x y z : Int} (h : R3 w b x y z) (u : Int) : R3 (w.setCell ⟨b, 2, none⟩ (.int .i64 u)) b x y u := by unfold R3; rw [Go.heap_setCell_same w b 2 _ _ _ h]; rfl
theorem R3.other {w : World} {b : Nat} {x y z : Int} (h : R3 w b x y z) {a : Addr} (ha : b ≠ a.block) (v : Value) : R3 (w.setCell a v) b x y z := (heap_setCell_other w a b v ha).trans h
theorem R3.alloc {w : World} {b : Nat} {x y z : Int} (h : R3 w b x y z) (o : Obj) : R3 (w.alloc o) b x y z := (Below.heap_alloc w o b h.lt).trans h
theorem R3.keep {w w' : World} {B b : Nat} {x y z : Int} (h : R3 w b x y z) (hb : Below B w w') (hB : b < B) : R3 w' b x y z := (hb.block b hB).trans h
theorem R3.new (w : World) (x y z : Int) : R3 (w.alloc (.cells #[.int .i64 x, .int .i64 y, .int .i64 z] 37)) w.heap.size x y z := heap_alloc_new w _
def Below3 (w : World) (b c : Nat) (wr : World) (x y z : Int) : Prop := R3 wr b 0 0 0 ∧ R3 wr c x y z ∧ Below w.heap.size w wr ∧ b < c ∧ w.heap.size ≤ b
theorem build0 (w : World) : Sem.run Try.prog (Instr.build 37 #[]) w = .ok (.agg #[.int .i64 0, .int .i64 0, .int .i64 0]) w := by kernel_rfl
theorem build3 (a b c : Int) (w : World) : Sem.run Try.prog (Instr.build 37 #[(0, .int .i64 a), (1, .int .i64 b), (2, .int .i64 c)]) w = .ok (.agg #[.int .i64 a, .int .i64 b, .int .i64 c]) w := by kernel_rfl
theorem results3 {fn : Func} {p q : Tmp} (h : fn.results = #[.cell p 37, .tmp q]) (tmps : Array Value) {w : World} {b : Nat} {x y z : Int} {v : Value} (hp : tmps.getD p undef = .pointer (some ⟨b, 0, none⟩)) (hq : tmps.getD q undef = v) (hr : R3 w b x y z) :
    (results fn tmps).run Try.prog w = .ok (.tuple #[.agg #[.int .i64 x, .int .i64 y, .int .i64 z], v]) w := by
  have e1 : tmps[p]?.getD undef = .pointer (some ⟨b, 0, none⟩) := by simpa using hp
  have e2 : tmps[q]?.getD undef = v := by simpa using hq
  have c0 := hr.c0
  have c1 := hr.c1
  have c2 := hr.c2
  simp [results, h, e1, e2, go_sem, c0, c1, c2]
theorem below_new {w : World} (o : Obj) (u0 u1 u2 : Value) : Below w.heap.size w ((((w.alloc o).setCell ⟨w.heap.size, 0, none⟩ u0).setCell ⟨w.heap.size, 1, none⟩ u1).setCell ⟨w.heap.size, 2, none⟩ u2) :=
  ((((Below.refl _ _).alloc (Nat.le_refl _) _).setCell (by simp) _).setCell (by simp) _).setCell (by simp) _
theorem r3_new (w : World) (o : Int) (x y z : Int) : R3 ((((w.alloc (.cells #[.int .i64 o, .int .i64 o, .int .i64 o] 37)).setCell ⟨w.heap.size, 0, none⟩ (.int .i64 x)).setCell ⟨w.heap.size, 1, none⟩ (.int .i64 y)).setCell ⟨w.heap.size, 2, none⟩ (.int .i64 z)) w.heap.size x y z := (((R3.new w o o o).s0 x).s1 y).s2 z
/-- To answers. -/
def Tos (n y m d e : Int) : Prop := ∀ w : World, Calls Try.prog 19 #[.int .i64 n] w fun z w' => z = .returned (.tuple #[.agg #[.int .i64 y, .int .i64 m, .int .i64 d], .int .i64 e]) ∧ Below w.heap.size w w'
theorem to_no (n : Int) (h : n < 1 ∨ 3652059 < n) : Tos n 0 0 0 5 := by
  intro w
  rcases h with h | h
  · have d1 : decide (n < 1) = true := decide_eq_true h
    go_enter Try.func19, Try.ntmps19
    go_wp2_with (simp only [build0])
    exact bodyPost_ret (results3 rfl _ rfl rfl (r3_new w 0 0 0 0)) rfl ⟨rfl, below_new _ _ _ _⟩
  · have d1 : decide (n < 1) = false := decide_eq_false (by omega)
    have d2 : decide (3652059 < n) = true := decide_eq_true h
    go_enter Try.func19, Try.ntmps19
    go_wp2_with (simp only [build0])
    exact bodyPost_ret (results3 rfl _ rfl rfl (r3_new w 0 0 0 0)) rfl ⟨rfl, below_new _ _ _ _⟩
theorem year_num {y m d : Int} (h : Valid y m d) : year (num y m d) = y := by
  have hr := num_range h
  obtain ⟨a1, a2, a3, a4⟩ := year_bd hr.1 hr.2
  have b := num_year h
  by_cases c : year (num y m d) < y
  · have := ds_mono (y := year (num y m d)) (z := y - 1) (by omega); omega
  · by_cases c2 : y < year (num y m d)
    · have := ds_mono (y := y) (z := year (num y m d) - 1) (by omega); omega
    · omega
set_option maxHeartbeats 1000000 in
theorem to_ok (y m d : Int) (h : Valid y m d) : Tos (num y m d) y m d 0 := by
  intro w
  have hr := num_range h
  have d1 : decide (num y m d < 1) = false := decide_eq_false (by omega)
  have d2 : decide (3652059 < num y m d) = false := decide_eq_false (by omega)
  have hy := year_any _ hr.1 hr.2
  have hd := da_any y
  rw [year_num h] at hy
  rw [da_in h.y1 (by have := h.y2; omega)] at hd
  have hL : ∀ k : Nat, Q 21 #[.int .i64 y, .int .i64 k] (.int .i64 (len (leap y) k)) := fun k => by
    have := last_any y k
    rwa [last_in h.y1 h.y2] at this
  obtain ⟨M, rfl⟩ : ∃ M : Nat, m = (M : Int) := ⟨m.toNat, by have := h.m1; omega⟩
  have e0 : wrap64 (num y M d - ds (y - 1)) = mo (leap y) M + d := by
    have e : num y M d - ds (y - 1) = mo (leap y) M + d := by unfold num; rw [Int.toNat_natCast]; omega
    rw [e]
    have h1 := mo_nonneg (leap y) (k := M) (by have := h.m2; omega)
    have h2 := mo_lt (leap y) (k := M) (j := 13) (by have := h.m2; omega) (by omega)
    rw [mo_end] at h2
    have h3 := yl_bd (leap y)
    have h4 := h.d1
    have h5 := h.d2
    exact wrap_in ⟨by omega, by omega⟩
  have hM1 := h.m1
  have hM2 := h.m2
  have hmo := hide (fun (k j : Nat) => mo_lt (leap y) (k := k) (j := j))
  have hms := hide (mo_step (leap y))
  have hd1 := h.d1
  have hd2 := hide h.d2
  clear h
  generalize num y M d = n at *
  generalize ds (y - 1) = D at *
  generalize leap y = L at *
  replace hy := hide hy
  replace hd := hide hd
  replace hL := hide hL
  go_enter Try.func19, Try.ntmps19
  go_wp2_with fail
  refine (unhide hy _).mono ?_
  rintro e w1 ⟨rfl, rfl⟩
  go_wp2_with fail
  refine (unhide hd _).mono ?_
  rintro e w2 ⟨rfl, rfl⟩
  have A1 := R3.new w 0 0 0
  have A2 : Below w.heap.size w (w.alloc (.cells #[.int .i64 0, .int .i64 0, .int .i64 0] 37)) := (Below.refl _ _).alloc (Nat.le_refl _) _
  generalize w.alloc (.cells #[.int .i64 0, .int .i64 0, .int .i64 0] 37) = W at A1 A2 ⊢
  obtain ⟨b, hb⟩ : ∃ b, b = w.heap.size := ⟨_, rfl⟩
  rw [← hb] at A1 ⊢
  have A3 := Nat.le_of_eq hb.symm
  replace A1 := hide A1
  replace A2 := hide A2
  clear hb
  go_wp2_with (simp only [build3])
  go_loopw [] (fun wr => ∃ (k : Nat) (D : Int), 1 ≤ k ∧ k ≤ M ∧ Hid (D = mo L M + d - mo L k) ∧ Hid (Below3 w b W.heap.size wr y k D)) (fun wr => 12 - (intOf ((wr.cell? ⟨W.heap.size, 1, none⟩).getD undef)).toNat)
  case atStart =>
    have A5 := r3_new W 0 y 1 (mo L M + d)
    have A6 := (unhide A1).lt
    refine ⟨1, _, by omega, by omega, hide (by rw [mo_one]; exact (Int.sub_zero _).symm), hide ⟨?_, A5, ?_, A6, A3⟩⟩
    · exact ((((unhide A1).alloc _).other (by show b ≠ W.heap.size; omega) _).other (by show b ≠ W.heap.size; omega) _).other (by show b ≠ W.heap.size; omega) _
    · exact below_via (unhide A2) (below_new _ _ _ _)
  case round => 
    obtain ⟨k, D, hk1, hk2, hD, hB⟩ := hrel
    have c0 := (unhide hB).2.1.c0
    have c1 := (unhide hB).2.1.c1
    have c2 := (unhide hB).2.1.c2
    have hl := hide (unhide hL k)
    have cw := hide c1
    by_cases hlt : k < M
    · have g1 := unhide hmo k M hlt (by omega)
      have g2 := unhide hD
      have hgt : decide (len L k < D) = true := decide_eq_true (by omega)
      have hs : Hid (D - len L k = mo L M + d - mo L (k + 1)) := hide (by rw [unhide hms k]; omega)
      have hw : IntKind.i64.wrap (D - len L k) = D - len L k := by
        have b1 := len_bd L k
        have b2 := mo_nonneg L (k := k) (by omega)
        have b3 := mo_lt L (k := M) (j := 13) (by omega) (by omega)
        rw [mo_end] at b3
        have b4 := yl_bd L
        have b5 := unhide hd2
        have b6 := mo_nonneg L (k := M) (by omega)
        rw [IntKind.wrap_i64]; omega
      clear g1 g2 hL hmo hms hd2 hD
      generalize len L k = l at *
      go_wp2_with fail
      go_quiet ((go_at_call 21; exact Calls.quiet_of_same (unhide hl _)))
      replace hB : Hid (Below3 w b W.heap.size (wr.drewN nq) y k D) := hide ⟨(unhide hB).1, (unhide hB).2.1, below_drewN (unhide hB).2.2.1 _, (unhide hB).2.2.2⟩
      have f2 := (unhide hB).2.1.fr 2
      have c0 := (unhide hB).2.1.c0
      have c1 := (unhide hB).2.1.c1
      have c2 := (unhide hB).2.1.c2
      generalize wr.drewN nq = wd at *
      go_wp2_with fail
      obtain ⟨z, hz⟩ : ∃ z, z = D - l := ⟨_, rfl⟩
      replace hw := hw.trans hz.symm
      rw [← hz] at hs
      replace hz := hide hz
      have hB1 := unhide hB
      have Hz := hide (⟨hB1.1.other (a := ⟨W.heap.size, 2, none⟩) (by show b ≠ W.heap.size; have := hB1.2.2.2.1; omega) (.int .i64 z), hB1.2.1.s2 z, (below_drewN hB1.2.2.1 1).setCell (by show w.heap.size ≤ W.heap.size; have := hB1.2.2.2; omega) _, hB1.2.2.2⟩ : Below3 w b W.heap.size (wd.drew.setCell ⟨W.heap.size, 2, none⟩ (.int .i64 z)) y k z)
      clear hB1
      go_region_with ((go_at_call 21; refine (unhide hl _).mono ?_; rintro e w3 ⟨rfl, rfl⟩))
      all_goals
        try rw [hw]
        generalize wd.drew.setCell ⟨W.heap.size, 2, none⟩ (.int .i64 z) = w4 at *
        have f1 := (unhide Hz).2.1.fr 1
        have c1 := (unhide Hz).2.1.c1
        have hB1 := unhide Hz
        have Hy := hide (⟨hB1.1.other (a := ⟨W.heap.size, 1, none⟩) (by show b ≠ W.heap.size; have := hB1.2.2.2.1; omega) (.int .i64 ((k : Int) + 1)), hB1.2.1.s1 ((k : Int) + 1), hB1.2.2.1.setCell (by show w.heap.size ≤ W.heap.size; have := hB1.2.2.2; omega) _, hB1.2.2.2⟩ : Below3 w b W.heap.size (w4.setCell ⟨W.heap.size, 1, none⟩ (.int .i64 ((k : Int) + 1))) y ((k : Int) + 1) z)
        clear hB1
        go_wp2_with fail
        go_roundw
        case rel => exact ⟨k + 1, z, by omega, by omega, hs, Hy⟩
        case measure => rw [(unhide Hy).2.1.c1, unhide cw]; simp [intOf]; omega
    · have hkM : k = M := by omega
      have hDd : D = d := by have := unhide hD; rw [hkM] at this; omega
      rw [hkM, hDd] at hB
      rw [hkM] at hl
      have hgt : decide (len L M < d) = false := decide_eq_false (by have := unhide hd2; omega)
      clear c0 c1 c2 hL hmo hms hd2 hD
      generalize len L M = l at *
      have c0 := (unhide hB).2.1.c0
      have c1 := (unhide hB).2.1.c1
      have c2 := (unhide hB).2.1.c2
      go_wp2_with fail
      go_quiet ((go_at_call 21; exact Calls.quiet_of_same (unhide hl _)))
      have hB1 := unhide hB
      have B1 : R3 (wr.drewN nq) b 0 0 0 := hB1.1
      have B2 : R3 (wr.drewN nq) W.heap.size y M d := hB1.2.1
      have B3 := below_drewN hB1.2.2.1 nq
      have B4 := hB1.2.2.2.2
      clear hB1 c0 c1 c2
      generalize wr.drewN nq = wd at *
      have c0 := B2.c0
      have c1 := B2.c1
      have c2 := B2.c2
      have f0 := B1.fr 0
      have f1 := B1.fr 1
      have f2 := B1.fr 2
      have x0 := B1.c0
      have x1 := B1.c1
      have x2 := B1.c2
      have R := ((B1.s0 y).s1 M).s2 d
      have BB := ((B3.setCell (p := ⟨b, 0, none⟩) B4 (.int .i64 y)).setCell (p := ⟨b, 1, none⟩) B4 (.int .i64 M)).setCell (p := ⟨b, 2, none⟩) B4 (.int .i64 d)
      replace B1 := hide B1
      replace B2 := hide B2
      replace B3 := hide B3
      replace R := hide R
      replace BB := hide BB
      go_wp2_with fail
      exact bodyPost_ret (results3 rfl _ rfl rfl (unhide R)) rfl ⟨rfl, unhide BB⟩
end Go.Proofs.Ytmpalgfhamahnaa
