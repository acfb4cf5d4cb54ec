/- What period's Roll answers. -/
import Derived.Test.YtmpalgfhamahnaaSeek
import Derived.Test.YtmpalgfhamahnaaFrom
import Derived.Laws.EntriesVeiled
import Derived.Handy
namespace Go.Proofs.Ytmpalgfhamahnaa
open Go.RowKit
set_option linter.unusedSimpArgs false
/-- Are these two days of one month? -/
def SameM (a b : Int) (s : Bool) : Prop := ∀ w : World, Calls Try.prog 27 #[.int .i64 a, .int .i64 b] w fun z w' => z = .returned (.bool s) ∧ Below w.heap.size w w'
set_option maxRecDepth 20000 in
set_option maxHeartbeats 1000000 in
theorem sameM_y (a b y m d y' m' d' : Int) (hA : Hid (Tos a y m d 0)) (hB : Hid (Tos b y' m' d' 0)) (h1 : (y == y') = true) (h2 : (m == m') = true) : SameM a b true := by
  intro w
  go_enter Try.func27, Try.ntmps27
  go_wp2_with fail
  refine (unhide hA _).mono ?_
  rintro e w1 ⟨rfl, hb1⟩
  have r1 := R3.new w1 y m d
  replace hb1 := hide (below_via hb1 ((Below.refl w1.heap.size w1).alloc (Nat.le_refl _) (.cells #[.int .i64 y, .int .i64 m, .int .i64 d] 37)))
  obtain ⟨b1, e1⟩ : ∃ b1, b1 = w1.heap.size := ⟨_, rfl⟩
  rw [← e1] at r1
  replace r1 := hide r1
  have q1 := (unhide r1).lt
  go_wp2_with fail
  rw [← e1]
  generalize w1.alloc (.cells #[.int .i64 y, .int .i64 m, .int .i64 d] 37) = W1 at *
  clear e1
  refine (unhide hB _).mono ?_
  rintro e w2 ⟨rfl, hb2⟩
  replace r1 := hide ((unhide r1).keep hb2 q1)
  have r2 := hide (R3.new w2 y' m' d')
  replace r1 := hide ((unhide r1).alloc (.cells #[.int .i64 y', .int .i64 m', .int .i64 d'] 37))
  replace hb2 := hide (below_via (below_via (unhide hb1) hb2) ((Below.refl w2.heap.size w2).alloc (Nat.le_refl _) (.cells #[.int .i64 y', .int .i64 m', .int .i64 d'] 37)))
  have c10 := (unhide r1).c0
  have c11 := (unhide r1).c1
  have c20 := (unhide r2).c0
  have c21 := (unhide r2).c1
  clear hb1 q1
  go_wp2_with fail
  go_ret
  exact ⟨rfl, unhide hb2⟩
set_option maxRecDepth 20000 in
set_option maxHeartbeats 1000000 in
theorem sameM_m (a b y m d y' m' d' : Int) (hA : Hid (Tos a y m d 0)) (hB : Hid (Tos b y' m' d' 0)) (h1 : (y == y') = true) (h2 : (m == m') = false) : SameM a b false := by
  intro w
  go_enter Try.func27, Try.ntmps27
  go_wp2_with fail
  refine (unhide hA _).mono ?_
  rintro e w1 ⟨rfl, hb1⟩
  have r1 := R3.new w1 y m d
  replace hb1 := hide (below_via hb1 ((Below.refl w1.heap.size w1).alloc (Nat.le_refl _) (.cells #[.int .i64 y, .int .i64 m, .int .i64 d] 37)))
  obtain ⟨b1, e1⟩ : ∃ b1, b1 = w1.heap.size := ⟨_, rfl⟩
  rw [← e1] at r1
  replace r1 := hide r1
  have q1 := (unhide r1).lt
  go_wp2_with fail
  rw [← e1]
  generalize w1.alloc (.cells #[.int .i64 y, .int .i64 m, .int .i64 d] 37) = W1 at *
  clear e1
  refine (unhide hB _).mono ?_
  rintro e w2 ⟨rfl, hb2⟩
  replace r1 := hide ((unhide r1).keep hb2 q1)
  have r2 := hide (R3.new w2 y' m' d')
  replace r1 := hide ((unhide r1).alloc (.cells #[.int .i64 y', .int .i64 m', .int .i64 d'] 37))
  replace hb2 := hide (below_via (below_via (unhide hb1) hb2) ((Below.refl w2.heap.size w2).alloc (Nat.le_refl _) (.cells #[.int .i64 y', .int .i64 m', .int .i64 d'] 37)))
  have c10 := (unhide r1).c0
  have c11 := (unhide r1).c1
  have c20 := (unhide r2).c0
  have c21 := (unhide r2).c1
  clear hb1 q1
  go_wp2_with fail
  go_ret
  exact ⟨rfl, unhide hb2⟩
set_option maxRecDepth 20000 in
set_option maxHeartbeats 1000000 in
theorem sameM_n (a b y m d y' m' d' : Int) (hA : Hid (Tos a y m d 0)) (hB : Hid (Tos b y' m' d' 0)) (h1 : (y == y') = false) : SameM a b false := by
  intro w
  go_enter Try.func27, Try.ntmps27
  go_wp2_with fail
  refine (unhide hA _).mono ?_
  rintro e w1 ⟨rfl, hb1⟩
  have r1 := R3.new w1 y m d
  replace hb1 := hide (below_via hb1 ((Below.refl w1.heap.size w1).alloc (Nat.le_refl _) (.cells #[.int .i64 y, .int .i64 m, .int .i64 d] 37)))
  obtain ⟨b1, e1⟩ : ∃ b1, b1 = w1.heap.size := ⟨_, rfl⟩
  rw [← e1] at r1
  replace r1 := hide r1
  have q1 := (unhide r1).lt
  go_wp2_with fail
  rw [← e1]
  generalize w1.alloc (.cells #[.int .i64 y, .int .i64 m, .int .i64 d] 37) = W1 at *
  clear e1
  refine (unhide hB _).mono ?_
  rintro e w2 ⟨rfl, hb2⟩
  replace r1 := hide ((unhide r1).keep hb2 q1)
  have r2 := hide (R3.new w2 y' m' d')
  replace r1 := hide ((unhide r1).alloc (.cells #[.int .i64 y', .int .i64 m', .int .i64 d'] 37))
  replace hb2 := hide (below_via (below_via (unhide hb1) hb2) ((Below.refl w2.heap.size w2).alloc (Nat.le_refl _) (.cells #[.int .i64 y', .int .i64 m', .int .i64 d'] 37)))
  have c10 := (unhide r1).c0
  have c11 := (unhide r1).c1
  have c20 := (unhide r2).c0
  have c21 := (unhide r2).c1
  clear hb1 q1
  go_wp2_with fail
  go_ret
  exact ⟨rfl, unhide hb2⟩
theorem sameM_any (a b y m d y' m' d' : Int) (hA : Hid (Tos a y m d 0)) (hB : Hid (Tos b y' m' d' 0)) : SameM a b ((y == y') && (m == m')) := by
  cases h1 : y == y'
  · exact sameM_n a b y m d y' m' d' hA hB h1
  · cases h2 : m == m'
    · exact sameM_m a b y m d y' m' d' hA hB h1 h2
    · exact sameM_y a b y m d y' m' d' hA hB h1 h2
/-- Since w: below nothing has turned; the two boxes hold the day and the holidays. -/
def RB (w wr : World) (n : Int) (v : Value) (hs : List Int) : Prop := Below w.heap.size w wr ∧ wr.cell? ⟨w.heap.size, 0, none⟩ = some (.int .i64 n) ∧ wr.cell? ⟨w.heap.size + 1, 0, none⟩ = some v ∧ Row wr v hs ∧ w.heap.size + 2 ≤ wr.heap.size
theorem RB.start {w : World} {n : Int} {v : Value} {hs : List Int} (h : Row w v hs) : RB w ((w.alloc (.cells #[.int .i64 n] 3)).alloc (.cells #[v] 28)) n v hs := by
  refine ⟨((Below.refl _ _).alloc (Nat.le_refl _) _).alloc (by simp) _, ?_, ?_, (h.alloc _).alloc _, by simp⟩
  · rw [World.cell?_alloc_past _ _ _ (by simp)]
    rw [World.cell?_alloc_at _ _ _ _ rfl]; rfl
  · rw [show w.heap.size + 1 = (w.alloc (.cells #[.int .i64 n] 3)).heap.size from by simp, World.cell?_alloc_at _ _ _ _ rfl]; rfl
theorem RB.keep {w wr wr' : World} {n : Int} {v : Value} {hs : List Int} (h : RB w wr n v hs) (hb : Below wr.heap.size wr wr') : RB w wr' n v hs := by
  obtain ⟨h1, h2, h3, h4, h5⟩ := h
  exact ⟨below_via h1 hb, (hb.cell (p := ⟨w.heap.size, 0, none⟩) (by show w.heap.size < _; omega)).trans h2, (hb.cell (p := ⟨w.heap.size + 1, 0, none⟩) (by show w.heap.size + 1 < _; omega)).trans h3, h4.below hb (Nat.le_refl _), by have := hb.size; omega⟩
theorem RB.alloc {w wr : World} {n : Int} {v : Value} {hs : List Int} (h : RB w wr n v hs) (o : Obj) : RB w (wr.alloc o) n v hs := h.keep ((Below.refl _ _).alloc (Nat.le_refl _) o)
/-- The seeker answers. -/
def Sk (by_ r g n : Int) (v : Value) (hs : List Int) : Prop := ∀ w W : World, RB w W n v hs → Calls Try.prog 26 #[.int .i64 by_, .pointer (some ⟨w.heap.size, 0, none⟩), .pointer (some ⟨w.heap.size + 1, 0, none⟩)] W fun e w' => e = .returned (.tuple #[.int .i64 r, .int .i64 g]) ∧ w' = W
theorem sk_up {n r : Int} {v : Value} {hs : List Int} (n1 : 1 ≤ n) (n2 : n ≤ 3652059) (hu : Up hs n r) : Sk 1 r (seekE r) n v hs := by
  intro w W h
  refine (seek_up w.heap.size (w.heap.size + 1) v hs n W n1 n2 (hide (works_any v hs W h.2.2.2.1)) h.2.1 h.2.2.1).mono ?_
  rintro e w' ⟨s, rfl, rfl, hs⟩
  rw [hu.only hs]
  exact ⟨rfl, rfl⟩
theorem sk_dn {n r : Int} {v : Value} {hs : List Int} (n1 : 1 ≤ n) (n2 : n ≤ 3652059) (hu : Down hs n r) : Sk (-1) r (seekE r) n v hs := by
  intro w W h
  refine (seek_dn w.heap.size (w.heap.size + 1) v hs n W n1 n2 (hide (works_any v hs W h.2.2.2.1)) h.2.1 h.2.2.1).mono ?_
  rintro e w' ⟨s, rfl, rfl, hs⟩
  rw [hu.only hs]
  exact ⟨rfl, rfl⟩
/-- Roll answers. -/
def RollA (n way : Int) (a : Option Addr) (l c : Nat) (hs : List Int) (r e : Int) : Prop := ∀ w : World, Row w (.slice a l c) hs → Calls Try.prog 15 #[.int .i64 n, .int .i64 way, .slice a l c] w fun z w' => z = .returned (.tuple #[.int .i64 r, .int .i64 e]) ∧ Below w.heap.size w w'
set_option maxRecDepth 20000 in
set_option maxHeartbeats 2000000 in
theorem roll_n (n way : Int) (a : Option Addr) (l c : Nat) (hs : List Int) (hT : Hid (Tos n 0 0 0 5))  : RollA n way a l c hs 0 5 := by
  intro w hR
  replace hR := hide (RB.start (n := n) hR)
  go_enter Try.func15, Try.ntmps15
  go_wp2_with fail
  refine (unhide hT _).mono ?_
  rintro e w1 ⟨rfl, hb1⟩
  replace hR := hide (((unhide hR).keep hb1).alloc (.cells #[.int .i64 0, .int .i64 0, .int .i64 0] 37))
  have hX := hide ((unhide hR).1)
  clear hb1
  have cn := (unhide hR).2.1
  have cv := (unhide hR).2.2.1
  go_wp2_with fail
  go_ret2
  exact ⟨rfl, unhide hX⟩
set_option maxRecDepth 20000 in
set_option maxHeartbeats 2000000 in
theorem roll_lo (n y m d way : Int) (a : Option Addr) (l c : Nat) (hs : List Int) (hT : Hid (Tos n y m d 0))  (d1 : decide (way < 0) = true) : RollA n way a l c hs 0 2 := by
  intro w hR
  replace hR := hide (RB.start (n := n) hR)
  go_enter Try.func15, Try.ntmps15
  go_wp2_with fail
  refine (unhide hT _).mono ?_
  rintro e w1 ⟨rfl, hb1⟩
  replace hR := hide (((unhide hR).keep hb1).alloc (.cells #[.int .i64 y, .int .i64 m, .int .i64 d] 37))
  have hX := hide ((unhide hR).1)
  clear hb1
  have cn := (unhide hR).2.1
  have cv := (unhide hR).2.2.1
  go_wp2_with fail
  go_ret2
  exact ⟨rfl, unhide hX⟩
set_option maxRecDepth 20000 in
set_option maxHeartbeats 2000000 in
theorem roll_hi (n y m d way : Int) (a : Option Addr) (l c : Nat) (hs : List Int) (hT : Hid (Tos n y m d 0))  (d1 : decide (way < 0) = false) (d2 : decide (3 < way) = true) : RollA n way a l c hs 0 2 := by
  intro w hR
  replace hR := hide (RB.start (n := n) hR)
  go_enter Try.func15, Try.ntmps15
  go_wp2_with fail
  refine (unhide hT _).mono ?_
  rintro e w1 ⟨rfl, hb1⟩
  replace hR := hide (((unhide hR).keep hb1).alloc (.cells #[.int .i64 y, .int .i64 m, .int .i64 d] 37))
  have hX := hide ((unhide hR).1)
  clear hb1
  have cn := (unhide hR).2.1
  have cv := (unhide hR).2.2.1
  go_wp2_with fail
  go_ret2
  exact ⟨rfl, unhide hX⟩
set_option maxRecDepth 20000 in
set_option maxHeartbeats 2000000 in
theorem roll_long (n y m d way : Int) (a : Option Addr) (l c : Nat) (hs : List Int) (hT : Hid (Tos n y m d 0))  (d1 : decide (way < 0) = false) (d2 : decide (3 < way) = false) (d3 : decide ((600 : Int) < (l : Int)) = true) : RollA n way a l c hs 0 2 := by
  intro w hR
  replace hR := hide (RB.start (n := n) hR)
  go_enter Try.func15, Try.ntmps15
  go_wp2_with fail
  refine (unhide hT _).mono ?_
  rintro e w1 ⟨rfl, hb1⟩
  replace hR := hide (((unhide hR).keep hb1).alloc (.cells #[.int .i64 y, .int .i64 m, .int .i64 d] 37))
  have hX := hide ((unhide hR).1)
  clear hb1
  have cn := (unhide hR).2.1
  have cv := (unhide hR).2.2.1
  go_wp2_with fail
  go_ret2
  exact ⟨rfl, unhide hX⟩
set_option maxRecDepth 20000 in
set_option maxHeartbeats 2000000 in
theorem roll_0 (n y m d : Int) (a : Option Addr) (l c : Nat) (hs : List Int) (hT : Hid (Tos n y m d 0)) (d3 : decide ((600 : Int) < (l : Int)) = false)  : RollA n 0 a l c hs n 0 := by
  intro w hR
  replace hR := hide (RB.start (n := n) hR)
  go_enter Try.func15, Try.ntmps15
  go_wp2_with fail
  refine (unhide hT _).mono ?_
  rintro e w1 ⟨rfl, hb1⟩
  replace hR := hide (((unhide hR).keep hb1).alloc (.cells #[.int .i64 y, .int .i64 m, .int .i64 d] 37))
  have hX := hide ((unhide hR).1)
  clear hb1
  have cn := (unhide hR).2.1
  have cv := (unhide hR).2.2.1
  go_wp2_with fail
  go_ret2
  exact ⟨rfl, unhide hX⟩
set_option maxRecDepth 20000 in
set_option maxHeartbeats 2000000 in
theorem roll_1 (n y m d u u' : Int) (a : Option Addr) (l c : Nat) (hs : List Int) (hT : Hid (Tos n y m d 0)) (d3 : decide ((600 : Int) < (l : Int)) = false) (hS : Hid (Sk 1 u u' n (.slice a l c) hs)) : RollA n 1 a l c hs u u' := by
  intro w hR
  replace hR := hide (RB.start (n := n) hR)
  go_enter Try.func15, Try.ntmps15
  go_wp2_with fail
  refine (unhide hT _).mono ?_
  rintro e w1 ⟨rfl, hb1⟩
  replace hR := hide (((unhide hR).keep hb1).alloc (.cells #[.int .i64 y, .int .i64 m, .int .i64 d] 37))
  have hX := hide ((unhide hR).1)
  clear hb1
  have cn := (unhide hR).2.1
  have cv := (unhide hR).2.2.1
  go_wp2_with fail
  refine (unhide hS _ _ (unhide hR)).mono ?_
  rintro e w2 ⟨rfl, rfl⟩
  go_wp2_with fail
  go_ret2
  exact ⟨rfl, unhide hX⟩
set_option maxRecDepth 20000 in
set_option maxHeartbeats 2000000 in
theorem roll_3 (n y m d u u' : Int) (a : Option Addr) (l c : Nat) (hs : List Int) (hT : Hid (Tos n y m d 0)) (d3 : decide ((600 : Int) < (l : Int)) = false) (hS : Hid (Sk (-1) u u' n (.slice a l c) hs)) : RollA n 3 a l c hs u u' := by
  intro w hR
  replace hR := hide (RB.start (n := n) hR)
  go_enter Try.func15, Try.ntmps15
  go_wp2_with fail
  refine (unhide hT _).mono ?_
  rintro e w1 ⟨rfl, hb1⟩
  replace hR := hide (((unhide hR).keep hb1).alloc (.cells #[.int .i64 y, .int .i64 m, .int .i64 d] 37))
  have hX := hide ((unhide hR).1)
  clear hb1
  have cn := (unhide hR).2.1
  have cv := (unhide hR).2.2.1
  go_wp2_with fail
  refine (unhide hS _ _ (unhide hR)).mono ?_
  rintro e w2 ⟨rfl, rfl⟩
  go_wp2_with fail
  go_ret2
  exact ⟨rfl, unhide hX⟩
set_option maxRecDepth 20000 in
set_option maxHeartbeats 2000000 in
theorem roll_2y (n y m d u : Int) (a : Option Addr) (l c : Nat) (hs : List Int) (hT : Hid (Tos n y m d 0)) (d3 : decide ((600 : Int) < (l : Int)) = false) (hS : Hid (Sk 1 u 0 n (.slice a l c) hs)) (hM : Hid (SameM n u true)) : RollA n 2 a l c hs u 0 := by
  intro w hR
  replace hR := hide (RB.start (n := n) hR)
  go_enter Try.func15, Try.ntmps15
  go_wp2_with fail
  refine (unhide hT _).mono ?_
  rintro e w1 ⟨rfl, hb1⟩
  replace hR := hide (((unhide hR).keep hb1).alloc (.cells #[.int .i64 y, .int .i64 m, .int .i64 d] 37))
  have hX := hide ((unhide hR).1)
  clear hb1
  have cn := (unhide hR).2.1
  have cv := (unhide hR).2.2.1
  go_wp2_with fail
  refine (unhide hS _ _ (unhide hR)).mono ?_
  rintro e w2 ⟨rfl, rfl⟩
  go_wp2_with fail
  refine (unhide hM _).mono ?_
  rintro e w3 ⟨rfl, hb3⟩
  replace hR := hide ((unhide hR).keep hb3)
  have hX := hide ((unhide hR).1)
  clear hb3 cn cv
  have cn := (unhide hR).2.1
  have cv := (unhide hR).2.2.1
  go_wp2_with fail
  go_ret2
  exact ⟨rfl, unhide hX⟩
set_option maxRecDepth 20000 in
set_option maxHeartbeats 2000000 in
theorem roll_2n (n y m d u u' : Int) (a : Option Addr) (l c : Nat) (hs : List Int) (hT : Hid (Tos n y m d 0)) (d3 : decide ((600 : Int) < (l : Int)) = false) (t : Int) (hS : Hid (Sk 1 t 0 n (.slice a l c) hs)) (hM : Hid (SameM n t false)) (hS2 : Hid (Sk (-1) u u' n (.slice a l c) hs)) : RollA n 2 a l c hs u u' := by
  intro w hR
  replace hR := hide (RB.start (n := n) hR)
  go_enter Try.func15, Try.ntmps15
  go_wp2_with fail
  refine (unhide hT _).mono ?_
  rintro e w1 ⟨rfl, hb1⟩
  replace hR := hide (((unhide hR).keep hb1).alloc (.cells #[.int .i64 y, .int .i64 m, .int .i64 d] 37))
  have hX := hide ((unhide hR).1)
  clear hb1
  have cn := (unhide hR).2.1
  have cv := (unhide hR).2.2.1
  go_wp2_with fail
  refine (unhide hS _ _ (unhide hR)).mono ?_
  rintro e w2 ⟨rfl, rfl⟩
  go_wp2_with fail
  refine (unhide hM _).mono ?_
  rintro e w3 ⟨rfl, hb3⟩
  replace hR := hide ((unhide hR).keep hb3)
  have hX := hide ((unhide hR).1)
  clear hb3 cn cv
  have cn := (unhide hR).2.1
  have cv := (unhide hR).2.2.1
  go_wp2_with fail
  refine (unhide hS2 _ _ (unhide hR)).mono ?_
  rintro e w2 ⟨rfl, rfl⟩
  go_wp2_with fail
  go_ret2
  exact ⟨rfl, unhide hX⟩
set_option maxRecDepth 20000 in
set_option maxHeartbeats 2000000 in
theorem roll_2z (n y m d u u' : Int) (a : Option Addr) (l c : Nat) (hs : List Int) (hT : Hid (Tos n y m d 0)) (d3 : decide ((600 : Int) < (l : Int)) = false) (t : Int) (hS : Hid (Sk 1 t 5 n (.slice a l c) hs)) (hS2 : Hid (Sk (-1) u u' n (.slice a l c) hs)) : RollA n 2 a l c hs u u' := by
  intro w hR
  replace hR := hide (RB.start (n := n) hR)
  go_enter Try.func15, Try.ntmps15
  go_wp2_with fail
  refine (unhide hT _).mono ?_
  rintro e w1 ⟨rfl, hb1⟩
  replace hR := hide (((unhide hR).keep hb1).alloc (.cells #[.int .i64 y, .int .i64 m, .int .i64 d] 37))
  have hX := hide ((unhide hR).1)
  clear hb1
  have cn := (unhide hR).2.1
  have cv := (unhide hR).2.2.1
  go_wp2_with fail
  refine (unhide hS _ _ (unhide hR)).mono ?_
  rintro e w2 ⟨rfl, rfl⟩
  go_wp2_with fail
  refine (unhide hS2 _ _ (unhide hR)).mono ?_
  rintro e w2 ⟨rfl, rfl⟩
  go_wp2_with fail
  go_ret2
  exact ⟨rfl, unhide hX⟩
end Go.Proofs.Ytmpalgfhamahnaa
