/- What the reference's From answers. -/
import Derived.Test.YtmpalgfhamahnaaRef
import Derived.Test.YtmpalgfhamahnaaFrom
namespace Go.Proofs.Ytmpalgfhamahnaa
open Go.RowKit
set_option linter.unusedSimpArgs false
/-- Block b holds these three numbers, of the reference. -/
def R9 (w : World) (b : Nat) (x y z : Int) : Prop := w.heap[b]? = some (.cells #[.int .i64 x, .int .i64 y, .int .i64 z] 46 (0, 0))
theorem R9.c0 {w : World} {b : Nat} {x y z : Int} (h : R9 w b x y z) : w.cell? ⟨b, 0, none⟩ = some (.int .i64 x) := by rw [cell_of_row w b 0 _ _ _ h]; rfl
theorem R9.c1 {w : World} {b : Nat} {x y z : Int} (h : R9 w b x y z) : w.cell? ⟨b, 1, none⟩ = some (.int .i64 y) := by rw [cell_of_row w b 1 _ _ _ h]; rfl
theorem R9.c2 {w : World} {b : Nat} {x y z : Int} (h : R9 w b x y z) : w.cell? ⟨b, 2, none⟩ = some (.int .i64 z) := by rw [cell_of_row w b 2 _ _ _ h]; rfl
theorem R9.fr {w : World} {b : Nat} {x y z : Int} (h : R9 w b x y z) (i : Nat) : w.frozen? ⟨b, i, none⟩ = false := frozen_of_row w b i _ _ h
theorem R9.lt {w : World} {b : Nat} {x y z : Int} (h : R9 w b x y z) : b < w.heap.size := (Array.getElem?_eq_some_iff.1 h).1
theorem R9.s0 {w : World} {b : Nat} {x y z : Int} (h : R9 w b x y z) (u : Int) : R9 (w.setCell ⟨b, 0, none⟩ (.int .i64 u)) b u y z := by unfold R9; rw [Go.heap_setCell_same w b 0 _ _ _ h]; rfl
theorem R9.s1 {w : World} {b : Nat} {x y z : Int} (h : R9 w b x y z) (u : Int) : R9 (w.setCell ⟨b, 1, none⟩ (.int .i64 u)) b x u z := by unfold R9; rw [Go.heap_setCell_same w b 1 _ _ _ h]; rfl
theorem R9.s2 {w : World} {b : Nat} {x y z : Int} (h : R9 w b x y z) (u : Int) : R9 (w.setCell ⟨b, 2, none⟩ (.int .i64 u)) b x y u := by unfold R9; rw [Go.heap_setCell_same w b 2 _ _ _ h]; rfl
theorem R9.other {w : World} {b : Nat} {x y z : Int} (h : R9 w b x y z) {a : Addr} (ha : b ≠ a.block) (v : Value) : R9 (w.setCell a v) b x y z := (heap_setCell_other w a b v ha).trans h
theorem R9.alloc {w : World} {b : Nat} {x y z : Int} (h : R9 w b x y z) (o : Obj) : R9 (w.alloc o) b x y z := (Below.heap_alloc w o b h.lt).trans h
theorem R9.keep {w w' : World} {B b : Nat} {x y z : Int} (h : R9 w b x y z) (hb : Below B w w') (hB : b < B) : R9 w' b x y z := (hb.block b hB).trans h
theorem R9.new (w : World) (x y z : Int) : R9 (w.alloc (.cells #[.int .i64 x, .int .i64 y, .int .i64 z] 46)) w.heap.size x y z := heap_alloc_new w _
theorem rbuild0 (w : World) : Sem.run Try.prog (Instr.build 46 #[]) w = .ok (.agg #[.int .i64 0, .int .i64 0, .int .i64 0]) w := by kernel_rfl
theorem rbuild3 (a b c : Int) (w : World) : Sem.run Try.prog (Instr.build 46 #[(0, .int .i64 a), (1, .int .i64 b), (2, .int .i64 c)]) w = .ok (.agg #[.int .i64 a, .int .i64 b, .int .i64 c]) w := by kernel_rfl
theorem results9 {fn : Func} {p q : Tmp} (h : fn.results = #[.cell p 46, .tmp q]) (tmps : Array Value) {w : World} {b : Nat} {x y z : Int} {v : Value} (hp : tmps.getD p undef = .pointer (some ⟨b, 0, none⟩)) (hq : tmps.getD q undef = v) (hr : R9 w b x y z) :
    (results fn tmps).run Try.prog w = .ok (.tuple #[.agg #[.int .i64 x, .int .i64 y, .int .i64 z], v]) w := by
  have e1 : tmps[p]?.getD undef = .pointer (some ⟨b, 0, none⟩) := by simpa using hp
  have e2 : tmps[q]?.getD undef = v := by simpa using hq
  have c0 := hr.c0
  have c1 := hr.c1
  have c2 := hr.c2
  simp [results, h, e1, e2, go_sem, c0, c1, c2]
theorem r9_new (w : World) (o : Int) (x y z : Int) : R9 ((((w.alloc (.cells #[.int .i64 o, .int .i64 o, .int .i64 o] 46)).setCell ⟨w.heap.size, 0, none⟩ (.int .i64 x)).setCell ⟨w.heap.size, 1, none⟩ (.int .i64 y)).setCell ⟨w.heap.size, 2, none⟩ (.int .i64 z)) w.heap.size x y z := (((R9.new w o o o).s0 x).s1 y).s2 z
def RFroms (y m d a e : Int) : Prop := ∀ w : World, Calls Try.prog 25 #[.agg #[.int .i64 y, .int .i64 m, .int .i64 d]] w fun z w' => z = .returned (.tuple #[.int .i64 a, .int .i64 e]) ∧ Below w.heap.size w w'
set_option maxHeartbeats 1000000 in
theorem rfrom_lo (y m d : Int) (d1 : decide (d < 1) = true) : RFroms y m d 0 5 := by
  intro w
  have BB := hide ((Below.refl w.heap.size w).alloc (Nat.le_refl _) (.cells #[.int .i64 y, .int .i64 m, .int .i64 d] 46))
  go_enter Try.func25, Try.ntmps25
  go_wp2_with fail
  go_quiet (fail)
  go_wp2_with fail
  go_ret2
  exact ⟨rfl, below_drewN (unhide BB) _⟩
set_option maxHeartbeats 1000000 in
theorem rfrom_hi (y m d l : Int) (d1 : decide (d < 1) = false) (hl : Hid (Q 24 #[.int .i64 y, .int .i64 m] (.int .i64 l))) (d2 : decide (l < d) = true) : RFroms y m d 0 5 := by
  intro w
  have BB := hide ((Below.refl w.heap.size w).alloc (Nat.le_refl _) (.cells #[.int .i64 y, .int .i64 m, .int .i64 d] 46))
  go_enter Try.func25, Try.ntmps25
  go_wp2_with fail
  go_quiet ((go_at_call 24; exact Calls.quiet_of_same (unhide hl _)))
  go_wp2_with fail
  go_ret2
  exact ⟨rfl, below_drewN (unhide BB) _⟩
set_option maxRecDepth 20000 in
set_option maxHeartbeats 2000000 in
theorem rfrom_in (y d D l : Int) (M : Nat) (L : Bool) (m1 : 1 ≤ M) (m2 : M ≤ 12) (d0 : 1 ≤ d) (d3 : d ≤ 31) (D1 : 0 ≤ D) (D2 : D ≤ 3652059) (d1 : decide (d < 1) = false) (hl : Hid (Q 24 #[.int .i64 y, .int .i64 M] (.int .i64 l))) (d2 : decide (l < d) = false)
    (ha : Hid (Q 37 #[.int .i64 y] (.int .i64 D))) (hL : Hid (∀ k : Nat, Q 24 #[.int .i64 y, .int .i64 k] (.int .i64 (len L k)))) : RFroms y M d (D + mo L M + d) 0 := by
  intro w
  have B1 := R9.new w y M d
  have B2 := hide ((Below.refl w.heap.size w).alloc (Nat.le_refl _) (.cells #[.int .i64 y, .int .i64 M, .int .i64 d] 46))
  go_enter Try.func25, Try.ntmps25
  go_wp2_with fail
  go_quiet ((go_at_call 24; exact Calls.quiet_of_same (unhide hl _)))
  replace B1 : R9 ((w.alloc (.cells #[.int .i64 y, .int .i64 M, .int .i64 d] 46)).drewN nq) w.heap.size y M d := B1
  replace B2 := hide (below_drewN (unhide B2) nq)
  generalize (w.alloc (.cells #[.int .i64 y, .int .i64 M, .int .i64 d] 46)).drewN nq = W at *
  have c0 := B1.c0
  have c1 := B1.c1
  have c2 := B1.c2
  replace B1 := hide B1
  go_wp2_with fail
  refine (unhide ha _).mono ?_
  rintro e w1 ⟨rfl, rfl⟩
  go_wp2_with fail
  go_loopw [4, 5] (fun a i wr => ∃ (k : Nat), 1 ≤ k ∧ k ≤ M ∧ i = .int .i64 k ∧ a = .int .i64 (D + mo L k) ∧ wr = w1) (fun _ i _ => M - (intOf i).toNat)
  case atStart => exact ⟨1, by omega, by omega, rfl, by rw [mo_one, Int.add_zero], rfl⟩
  case round =>
    obtain ⟨k, hk1, hk2, rfl, rfl, rfl⟩ := hrel
    have b1 := mo_nonneg L (k := k) (by omega)
    have b2 := mo_lt L (k := k) (j := 13) (by omega) (by omega)
    rw [mo_end] at b2
    have b3 := yl_bd L
    have b4 := len_bd L k
    by_cases hlt : (k : Int) < (M : Int)
    · have hlt' : decide ((k : Int) < (M : Int)) = true := decide_eq_true hlt
      have hln := hide (unhide hL k)
      have hz : Hid (D + mo L (k + 1) = D + mo L k + len L k) := hide (by rw [mo_step]; omega)
      have s1 : wrap64 (D + mo L k + len L k) = D + mo L k + len L k := wrap_in ⟨by omega, by omega⟩
      clear b1 b2 b3 b4 hL
      generalize mo L k = S at *
      generalize len L k = l2 at *
      go_wp2_with fail
      refine (unhide hln _).mono ?_
      rintro e w2 ⟨rfl, rfl⟩
      go_wp2_with fail
      go_roundw
      case rel => exact ⟨k + 1, by omega, by omega, by go_num, by rw [unhide hz, s1], by trivial⟩
      case measure => simp [intOf]; omega
    · have hlt' : decide ((k : Int) < (M : Int)) = false := decide_eq_false hlt
      have hk : k = M := by omega
      have s1 : wrap64 (D + mo L k + d) = D + mo L k + d := wrap_in ⟨by omega, by omega⟩
      clear b1 b2 b3 b4 hL
      subst hk
      go_wp2_with fail
      go_ret2
      exact ⟨by rw [← s1]; rfl, unhide B2⟩
theorem rfrom_ok {y m d : Int} (h : Valid y m d) : RFroms y m d (num y m d) 0 := by
  obtain ⟨y1, y2, m1, m2, d1, d2⟩ := h
  obtain ⟨M, rfl⟩ : ∃ M : Nat, m = (M : Int) := ⟨m.toNat, by omega⟩
  obtain ⟨Y, rfl⟩ : ∃ Y : Nat, y = (Y : Int) := ⟨y.toNat, by omega⟩
  have hl := rlast_any Y M
  rw [last_in y1 y2] at hl
  have hL : ∀ k : Nat, Q 24 #[.int .i64 Y, .int .i64 k] (.int .i64 (len (leap Y) k)) := fun k => by
    have := rlast_any Y k
    rwa [last_in y1 y2] at this
  have m1' := ds_mono (y := 0) (z := (Y : Int) - 1) (by omega)
  have m2' := ds_mono (y := (Y : Int) - 1) (z := 9999) (by omega)
  rw [ds_zero] at m1'
  rw [show ds 9999 = 3652059 from by decide] at m2'
  have b := len_bd (leap Y) M
  have h := rfrom_in Y d _ _ M (leap Y) (by omega) (by omega) d1 (by omega) m1' m2' (decide_eq_false (by omega)) (hide hl) (decide_eq_false (by omega)) (hide (ahead_any Y (by omega) y2)) (hide hL)
  unfold num
  rw [Int.toNat_natCast]
  exact h
theorem not_valid {y m d : Int} (h : ¬ Valid y m d) (h1 : ¬ d < 1) : last y m < d := by
  by_cases c : 1 ≤ y ∧ y ≤ 9999
  · rw [last_in c.1 c.2]
    by_cases c2 : 1 ≤ m ∧ m ≤ 12
    · by_cases c3 : d ≤ len (leap y) m
      · exact absurd ⟨c.1, c.2, c2.1, c2.2, by omega, c3⟩ h
      · omega
    · rw [len_none _ c2]; omega
  · rw [last_out c]; omega
theorem rfrom_no {y m d : Int} (h : ¬ Valid y m d) : RFroms y m d 0 5 := by
  by_cases h1 : d < 1
  · exact rfrom_lo y m d (decide_eq_true h1)
  · exact rfrom_hi y m d _ (decide_eq_false h1) (hide (rlast_any y m)) (decide_eq_true (not_valid h h1))
end Go.Proofs.Ytmpalgfhamahnaa
