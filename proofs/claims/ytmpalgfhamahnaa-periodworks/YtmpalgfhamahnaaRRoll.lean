/- What the reference's Roll answers. -/
import Derived.Test.YtmpalgfhamahnaaRoll
import Derived.Test.YtmpalgfhamahnaaRef3
namespace Go.Proofs.Ytmpalgfhamahnaa
open Go.RowKit
set_option linter.unusedSimpArgs false
/-- The reference's seeker answers. -/
def RSk (by_ r n : Int) (v : Value) (hs : List Int) : Prop := ∀ W : World, Row W v hs → Calls Try.prog 28 #[.int .i64 n, .int .i64 by_, v] W fun e w' => e = .returned (.int .i64 r) ∧ w' = W
theorem rsk_up {n r : Int} {v : Value} {hs : List Int} (n1 : 1 ≤ n) (n2 : n ≤ 3652059) (hu : Up hs n r) : RSk 1 r n v hs := by
  intro W h
  refine (rseek_up v hs n W n1 n2 (hide (rworks_any v hs W h))).mono ?_
  rintro e w' ⟨s, rfl, rfl, hs⟩
  rw [hu.only hs]
  exact ⟨rfl, rfl⟩
theorem rsk_dn {n r : Int} {v : Value} {hs : List Int} (n1 : 1 ≤ n) (n2 : n ≤ 3652059) (hu : Down hs n r) : RSk (-1) r n v hs := by
  intro W h
  refine (rseek_dn v hs n W n1 n2 (hide (rworks_any v hs W h))).mono ?_
  rintro e w' ⟨s, rfl, rfl, hs⟩
  rw [hu.only hs]
  exact ⟨rfl, rfl⟩
/-- Whether the day works, by the reference. -/
def RWk (n : Int) (v : Value) (hs : List Int) (b : Bool) : Prop := ∀ W : World, Row W v hs → Calls Try.prog 18 #[.int .i64 n, v] W fun e w' => e = .returned (.bool b) ∧ w' = W
theorem rwk_any (n : Int) (v : Value) (hs : List Int) : RWk n v hs (works hs n) := fun W h => rworks_any v hs W h n
/-- The reference's Roll answers. -/
def RRollA (n way : Int) (a : Option Addr) (l c : Nat) (hs : List Int) (r e : Int) : Prop := ∀ w : World, Row w (.slice a l c) hs → Calls Try.prog 16 #[.int .i64 n, .int .i64 way, .slice a l c] w fun z w' => z = .returned (.tuple #[.int .i64 r, .int .i64 e]) ∧ Below w.heap.size w w'
set_option maxRecDepth 20000 in
set_option maxHeartbeats 2000000 in
theorem rroll_n (n way : Int) (a : Option Addr) (l c : Nat) (hs : List Int) (hT : Hid (RTos n 0 0 0 5))   : RRollA n way a l c hs 0 5 := by
  intro w hR
  replace hR := hide hR
  go_enter Try.func16, Try.ntmps16
  go_wp2_with fail
  refine (unhide hT _).mono ?_
  rintro e w1 ⟨rfl, hb1⟩
  have r1 := R9.new w1 0 0 0
  replace hR := hide (((unhide hR).below hb1 (Nat.le_refl _)).alloc (.cells #[.int .i64 0, .int .i64 0, .int .i64 0] 46))
  have hX := hide (below_via hb1 ((Below.refl w1.heap.size w1).alloc (Nat.le_refl _) (.cells #[.int .i64 0, .int .i64 0, .int .i64 0] 46)))
  clear hb1
  obtain ⟨b1, e1⟩ : ∃ b1, b1 = w1.heap.size := ⟨_, rfl⟩
  rw [← e1] at r1
  replace r1 := hide r1
  go_wp2_with fail
  go_ret2
  exact ⟨rfl, unhide hX⟩
set_option maxRecDepth 20000 in
set_option maxHeartbeats 2000000 in
theorem rroll_lo (n y m d way : Int) (a : Option Addr) (l c : Nat) (hs : List Int) (hT : Hid (RTos n y m d 0))  (d1 : decide (way < 0) = true) : RRollA n way a l c hs 0 2 := by
  intro w hR
  replace hR := hide hR
  go_enter Try.func16, Try.ntmps16
  go_wp2_with fail
  refine (unhide hT _).mono ?_
  rintro e w1 ⟨rfl, hb1⟩
  have r1 := R9.new w1 y m d
  replace hR := hide (((unhide hR).below hb1 (Nat.le_refl _)).alloc (.cells #[.int .i64 y, .int .i64 m, .int .i64 d] 46))
  have hX := hide (below_via hb1 ((Below.refl w1.heap.size w1).alloc (Nat.le_refl _) (.cells #[.int .i64 y, .int .i64 m, .int .i64 d] 46)))
  clear hb1
  obtain ⟨b1, e1⟩ : ∃ b1, b1 = w1.heap.size := ⟨_, rfl⟩
  rw [← e1] at r1
  replace r1 := hide r1
  go_wp2_with fail
  go_ret2
  exact ⟨rfl, unhide hX⟩
set_option maxRecDepth 20000 in
set_option maxHeartbeats 2000000 in
theorem rroll_hi (n y m d way : Int) (a : Option Addr) (l c : Nat) (hs : List Int) (hT : Hid (RTos n y m d 0))  (d1 : decide (way < 0) = false) (d2 : decide (3 < way) = true) : RRollA n way a l c hs 0 2 := by
  intro w hR
  replace hR := hide hR
  go_enter Try.func16, Try.ntmps16
  go_wp2_with fail
  refine (unhide hT _).mono ?_
  rintro e w1 ⟨rfl, hb1⟩
  have r1 := R9.new w1 y m d
  replace hR := hide (((unhide hR).below hb1 (Nat.le_refl _)).alloc (.cells #[.int .i64 y, .int .i64 m, .int .i64 d] 46))
  have hX := hide (below_via hb1 ((Below.refl w1.heap.size w1).alloc (Nat.le_refl _) (.cells #[.int .i64 y, .int .i64 m, .int .i64 d] 46)))
  clear hb1
  obtain ⟨b1, e1⟩ : ∃ b1, b1 = w1.heap.size := ⟨_, rfl⟩
  rw [← e1] at r1
  replace r1 := hide r1
  go_wp2_with fail
  go_ret2
  exact ⟨rfl, unhide hX⟩
set_option maxRecDepth 20000 in
set_option maxHeartbeats 2000000 in
theorem rroll_long (n y m d way : Int) (a : Option Addr) (l c : Nat) (hs : List Int) (hT : Hid (RTos n y m d 0))  (d1 : decide (way < 0) = false) (d2 : decide (3 < way) = false) (d3 : decide ((600 : Int) < (l : Int)) = true) : RRollA n way a l c hs 0 2 := by
  intro w hR
  replace hR := hide hR
  go_enter Try.func16, Try.ntmps16
  go_wp2_with fail
  refine (unhide hT _).mono ?_
  rintro e w1 ⟨rfl, hb1⟩
  have r1 := R9.new w1 y m d
  replace hR := hide (((unhide hR).below hb1 (Nat.le_refl _)).alloc (.cells #[.int .i64 y, .int .i64 m, .int .i64 d] 46))
  have hX := hide (below_via hb1 ((Below.refl w1.heap.size w1).alloc (Nat.le_refl _) (.cells #[.int .i64 y, .int .i64 m, .int .i64 d] 46)))
  clear hb1
  obtain ⟨b1, e1⟩ : ∃ b1, b1 = w1.heap.size := ⟨_, rfl⟩
  rw [← e1] at r1
  replace r1 := hide r1
  go_wp2_with fail
  go_ret2
  exact ⟨rfl, unhide hX⟩
set_option maxRecDepth 20000 in
set_option maxHeartbeats 2000000 in
theorem rroll_0 (n y m d : Int) (a : Option Addr) (l c : Nat) (hs : List Int) (hT : Hid (RTos n y m d 0)) (d3 : decide ((600 : Int) < (l : Int)) = false)  : RRollA n 0 a l c hs n 0 := by
  intro w hR
  replace hR := hide hR
  go_enter Try.func16, Try.ntmps16
  go_wp2_with fail
  refine (unhide hT _).mono ?_
  rintro e w1 ⟨rfl, hb1⟩
  have r1 := R9.new w1 y m d
  replace hR := hide (((unhide hR).below hb1 (Nat.le_refl _)).alloc (.cells #[.int .i64 y, .int .i64 m, .int .i64 d] 46))
  have hX := hide (below_via hb1 ((Below.refl w1.heap.size w1).alloc (Nat.le_refl _) (.cells #[.int .i64 y, .int .i64 m, .int .i64 d] 46)))
  clear hb1
  obtain ⟨b1, e1⟩ : ∃ b1, b1 = w1.heap.size := ⟨_, rfl⟩
  rw [← e1] at r1
  replace r1 := hide r1
  go_wp2_with fail
  go_ret2
  exact ⟨rfl, unhide hX⟩
set_option maxRecDepth 20000 in
set_option maxHeartbeats 2000000 in
theorem rroll_w1 (n y m d : Int) (a : Option Addr) (l c : Nat) (hs : List Int) (hT : Hid (RTos n y m d 0)) (d3 : decide ((600 : Int) < (l : Int)) = false) (hW : Hid (RWk n (.slice a l c) hs true)) : RRollA n 1 a l c hs n 0 := by
  intro w hR
  replace hR := hide hR
  go_enter Try.func16, Try.ntmps16
  go_wp2_with fail
  refine (unhide hT _).mono ?_
  rintro e w1 ⟨rfl, hb1⟩
  have r1 := R9.new w1 y m d
  replace hR := hide (((unhide hR).below hb1 (Nat.le_refl _)).alloc (.cells #[.int .i64 y, .int .i64 m, .int .i64 d] 46))
  have hX := hide (below_via hb1 ((Below.refl w1.heap.size w1).alloc (Nat.le_refl _) (.cells #[.int .i64 y, .int .i64 m, .int .i64 d] 46)))
  clear hb1
  obtain ⟨b1, e1⟩ : ∃ b1, b1 = w1.heap.size := ⟨_, rfl⟩
  rw [← e1] at r1
  replace r1 := hide r1
  go_wp2_with fail
  refine (unhide hW _ (unhide hR)).mono ?_
  rintro e w2 ⟨rfl, rfl⟩
  go_wp2_with fail
  go_ret2
  exact ⟨rfl, unhide hX⟩
set_option maxRecDepth 20000 in
set_option maxHeartbeats 2000000 in
theorem rroll_w2 (n y m d : Int) (a : Option Addr) (l c : Nat) (hs : List Int) (hT : Hid (RTos n y m d 0)) (d3 : decide ((600 : Int) < (l : Int)) = false) (hW : Hid (RWk n (.slice a l c) hs true)) : RRollA n 2 a l c hs n 0 := by
  intro w hR
  replace hR := hide hR
  go_enter Try.func16, Try.ntmps16
  go_wp2_with fail
  refine (unhide hT _).mono ?_
  rintro e w1 ⟨rfl, hb1⟩
  have r1 := R9.new w1 y m d
  replace hR := hide (((unhide hR).below hb1 (Nat.le_refl _)).alloc (.cells #[.int .i64 y, .int .i64 m, .int .i64 d] 46))
  have hX := hide (below_via hb1 ((Below.refl w1.heap.size w1).alloc (Nat.le_refl _) (.cells #[.int .i64 y, .int .i64 m, .int .i64 d] 46)))
  clear hb1
  obtain ⟨b1, e1⟩ : ∃ b1, b1 = w1.heap.size := ⟨_, rfl⟩
  rw [← e1] at r1
  replace r1 := hide r1
  go_wp2_with fail
  refine (unhide hW _ (unhide hR)).mono ?_
  rintro e w2 ⟨rfl, rfl⟩
  go_wp2_with fail
  go_ret2
  exact ⟨rfl, unhide hX⟩
set_option maxRecDepth 20000 in
set_option maxHeartbeats 2000000 in
theorem rroll_w3 (n y m d : Int) (a : Option Addr) (l c : Nat) (hs : List Int) (hT : Hid (RTos n y m d 0)) (d3 : decide ((600 : Int) < (l : Int)) = false) (hW : Hid (RWk n (.slice a l c) hs true)) : RRollA n 3 a l c hs n 0 := by
  intro w hR
  replace hR := hide hR
  go_enter Try.func16, Try.ntmps16
  go_wp2_with fail
  refine (unhide hT _).mono ?_
  rintro e w1 ⟨rfl, hb1⟩
  have r1 := R9.new w1 y m d
  replace hR := hide (((unhide hR).below hb1 (Nat.le_refl _)).alloc (.cells #[.int .i64 y, .int .i64 m, .int .i64 d] 46))
  have hX := hide (below_via hb1 ((Below.refl w1.heap.size w1).alloc (Nat.le_refl _) (.cells #[.int .i64 y, .int .i64 m, .int .i64 d] 46)))
  clear hb1
  obtain ⟨b1, e1⟩ : ∃ b1, b1 = w1.heap.size := ⟨_, rfl⟩
  rw [← e1] at r1
  replace r1 := hide r1
  go_wp2_with fail
  refine (unhide hW _ (unhide hR)).mono ?_
  rintro e w2 ⟨rfl, rfl⟩
  go_wp2_with fail
  go_ret2
  exact ⟨rfl, unhide hX⟩
set_option maxRecDepth 20000 in
set_option maxHeartbeats 2000000 in
theorem rroll_1z (n y m d u t : Int) (a : Option Addr) (l c : Nat) (hs : List Int) (hT : Hid (RTos n y m d 0)) (d3 : decide ((600 : Int) < (l : Int)) = false) (hW : Hid (RWk n (.slice a l c) hs false)) (hU : Hid (RSk 1 u n (.slice a l c) hs)) (hD : Hid (RSk (-1) t n (.slice a l c) hs)) (h0 : (u == 0) = true) : RRollA n 1 a l c hs 0 5 := by
  intro w hR
  replace hR := hide hR
  go_enter Try.func16, Try.ntmps16
  go_wp2_with fail
  refine (unhide hT _).mono ?_
  rintro e w1 ⟨rfl, hb1⟩
  have r1 := R9.new w1 y m d
  replace hR := hide (((unhide hR).below hb1 (Nat.le_refl _)).alloc (.cells #[.int .i64 y, .int .i64 m, .int .i64 d] 46))
  have hX := hide (below_via hb1 ((Below.refl w1.heap.size w1).alloc (Nat.le_refl _) (.cells #[.int .i64 y, .int .i64 m, .int .i64 d] 46)))
  clear hb1
  obtain ⟨b1, e1⟩ : ∃ b1, b1 = w1.heap.size := ⟨_, rfl⟩
  rw [← e1] at r1
  replace r1 := hide r1
  go_wp2_with fail
  refine (unhide hW _ (unhide hR)).mono ?_
  rintro e w2 ⟨rfl, rfl⟩
  go_wp2_with fail
  refine (unhide hU _ (unhide hR)).mono ?_
  rintro e w2 ⟨rfl, rfl⟩
  go_wp2_with fail
  refine (unhide hD _ (unhide hR)).mono ?_
  rintro e w2 ⟨rfl, rfl⟩
  go_wp2_with fail
  go_ret2
  exact ⟨rfl, unhide hX⟩
set_option maxRecDepth 20000 in
set_option maxHeartbeats 2000000 in
theorem rroll_1y (n y m d u t : Int) (a : Option Addr) (l c : Nat) (hs : List Int) (hT : Hid (RTos n y m d 0)) (d3 : decide ((600 : Int) < (l : Int)) = false) (hW : Hid (RWk n (.slice a l c) hs false)) (hU : Hid (RSk 1 u n (.slice a l c) hs)) (hD : Hid (RSk (-1) t n (.slice a l c) hs)) (h0 : (u == 0) = false) : RRollA n 1 a l c hs u 0 := by
  intro w hR
  replace hR := hide hR
  go_enter Try.func16, Try.ntmps16
  go_wp2_with fail
  refine (unhide hT _).mono ?_
  rintro e w1 ⟨rfl, hb1⟩
  have r1 := R9.new w1 y m d
  replace hR := hide (((unhide hR).below hb1 (Nat.le_refl _)).alloc (.cells #[.int .i64 y, .int .i64 m, .int .i64 d] 46))
  have hX := hide (below_via hb1 ((Below.refl w1.heap.size w1).alloc (Nat.le_refl _) (.cells #[.int .i64 y, .int .i64 m, .int .i64 d] 46)))
  clear hb1
  obtain ⟨b1, e1⟩ : ∃ b1, b1 = w1.heap.size := ⟨_, rfl⟩
  rw [← e1] at r1
  replace r1 := hide r1
  go_wp2_with fail
  refine (unhide hW _ (unhide hR)).mono ?_
  rintro e w2 ⟨rfl, rfl⟩
  go_wp2_with fail
  refine (unhide hU _ (unhide hR)).mono ?_
  rintro e w2 ⟨rfl, rfl⟩
  go_wp2_with fail
  refine (unhide hD _ (unhide hR)).mono ?_
  rintro e w2 ⟨rfl, rfl⟩
  go_wp2_with fail
  go_ret2
  exact ⟨rfl, unhide hX⟩
set_option maxRecDepth 20000 in
set_option maxHeartbeats 2000000 in
theorem rroll_3z (n y m d u t : Int) (a : Option Addr) (l c : Nat) (hs : List Int) (hT : Hid (RTos n y m d 0)) (d3 : decide ((600 : Int) < (l : Int)) = false) (hW : Hid (RWk n (.slice a l c) hs false)) (hU : Hid (RSk 1 u n (.slice a l c) hs)) (hD : Hid (RSk (-1) t n (.slice a l c) hs)) (h0 : (t == 0) = true) : RRollA n 3 a l c hs 0 5 := by
  intro w hR
  replace hR := hide hR
  go_enter Try.func16, Try.ntmps16
  go_wp2_with fail
  refine (unhide hT _).mono ?_
  rintro e w1 ⟨rfl, hb1⟩
  have r1 := R9.new w1 y m d
  replace hR := hide (((unhide hR).below hb1 (Nat.le_refl _)).alloc (.cells #[.int .i64 y, .int .i64 m, .int .i64 d] 46))
  have hX := hide (below_via hb1 ((Below.refl w1.heap.size w1).alloc (Nat.le_refl _) (.cells #[.int .i64 y, .int .i64 m, .int .i64 d] 46)))
  clear hb1
  obtain ⟨b1, e1⟩ : ∃ b1, b1 = w1.heap.size := ⟨_, rfl⟩
  rw [← e1] at r1
  replace r1 := hide r1
  go_wp2_with fail
  refine (unhide hW _ (unhide hR)).mono ?_
  rintro e w2 ⟨rfl, rfl⟩
  go_wp2_with fail
  refine (unhide hU _ (unhide hR)).mono ?_
  rintro e w2 ⟨rfl, rfl⟩
  go_wp2_with fail
  refine (unhide hD _ (unhide hR)).mono ?_
  rintro e w2 ⟨rfl, rfl⟩
  go_wp2_with fail
  go_ret2
  exact ⟨rfl, unhide hX⟩
set_option maxRecDepth 20000 in
set_option maxHeartbeats 2000000 in
theorem rroll_3y (n y m d u t : Int) (a : Option Addr) (l c : Nat) (hs : List Int) (hT : Hid (RTos n y m d 0)) (d3 : decide ((600 : Int) < (l : Int)) = false) (hW : Hid (RWk n (.slice a l c) hs false)) (hU : Hid (RSk 1 u n (.slice a l c) hs)) (hD : Hid (RSk (-1) t n (.slice a l c) hs)) (h0 : (t == 0) = false) : RRollA n 3 a l c hs t 0 := by
  intro w hR
  replace hR := hide hR
  go_enter Try.func16, Try.ntmps16
  go_wp2_with fail
  refine (unhide hT _).mono ?_
  rintro e w1 ⟨rfl, hb1⟩
  have r1 := R9.new w1 y m d
  replace hR := hide (((unhide hR).below hb1 (Nat.le_refl _)).alloc (.cells #[.int .i64 y, .int .i64 m, .int .i64 d] 46))
  have hX := hide (below_via hb1 ((Below.refl w1.heap.size w1).alloc (Nat.le_refl _) (.cells #[.int .i64 y, .int .i64 m, .int .i64 d] 46)))
  clear hb1
  obtain ⟨b1, e1⟩ : ∃ b1, b1 = w1.heap.size := ⟨_, rfl⟩
  rw [← e1] at r1
  replace r1 := hide r1
  go_wp2_with fail
  refine (unhide hW _ (unhide hR)).mono ?_
  rintro e w2 ⟨rfl, rfl⟩
  go_wp2_with fail
  refine (unhide hU _ (unhide hR)).mono ?_
  rintro e w2 ⟨rfl, rfl⟩
  go_wp2_with fail
  refine (unhide hD _ (unhide hR)).mono ?_
  rintro e w2 ⟨rfl, rfl⟩
  go_wp2_with fail
  go_ret2
  exact ⟨rfl, unhide hX⟩
set_option maxRecDepth 20000 in
set_option maxHeartbeats 2000000 in
theorem rroll_2nt (n y m d t : Int) (a : Option Addr) (l c : Nat) (hs : List Int) (hT : Hid (RTos n y m d 0)) (d3 : decide ((600 : Int) < (l : Int)) = false) (hW : Hid (RWk n (.slice a l c) hs false)) (hU : Hid (RSk 1 0 n (.slice a l c) hs)) (hD : Hid (RSk (-1) t n (.slice a l c) hs)) (hX2 : Hid (RTos 0 0 0 0 5)) (h0 : (t == 0) = true) : RRollA n 2 a l c hs 0 5 := by
  intro w hR
  replace hR := hide hR
  go_enter Try.func16, Try.ntmps16
  go_wp2_with fail
  refine (unhide hT _).mono ?_
  rintro e w1 ⟨rfl, hb1⟩
  have r1 := R9.new w1 y m d
  replace hR := hide (((unhide hR).below hb1 (Nat.le_refl _)).alloc (.cells #[.int .i64 y, .int .i64 m, .int .i64 d] 46))
  have hX := hide (below_via hb1 ((Below.refl w1.heap.size w1).alloc (Nat.le_refl _) (.cells #[.int .i64 y, .int .i64 m, .int .i64 d] 46)))
  clear hb1
  obtain ⟨b1, e1⟩ : ∃ b1, b1 = w1.heap.size := ⟨_, rfl⟩
  rw [← e1] at r1
  replace r1 := hide r1
  go_wp2_with fail
  refine (unhide hW _ (unhide hR)).mono ?_
  rintro e w2 ⟨rfl, rfl⟩
  go_wp2_with fail
  refine (unhide hU _ (unhide hR)).mono ?_
  rintro e w2 ⟨rfl, rfl⟩
  go_wp2_with fail
  refine (unhide hD _ (unhide hR)).mono ?_
  rintro e w2 ⟨rfl, rfl⟩
  go_wp2_with fail
  rw [← e1]
  have q1 := (unhide r1).lt
  generalize w1.alloc (.cells #[.int .i64 y, .int .i64 m, .int .i64 d] 46) = W1 at *
  clear e1
  refine (unhide hX2 _).mono ?_
  rintro e w3 ⟨rfl, hb3⟩
  replace r1 := hide (((unhide r1).keep hb3 q1).alloc (.cells #[.int .i64 0, .int .i64 0, .int .i64 0] 46))
  have r2 := hide (R9.new w3 0 0 0)
  replace hX := hide (below_via (below_via (unhide hX) hb3) ((Below.refl w3.heap.size w3).alloc (Nat.le_refl _) (.cells #[.int .i64 0, .int .i64 0, .int .i64 0] 46)))
  clear hb3 hR q1
  have c10 := (unhide r1).c0
  have c11 := (unhide r1).c1
  have c20 := (unhide r2).c0
  have c21 := (unhide r2).c1
  go_wp2_with fail
  go_ret2
  exact ⟨rfl, unhide hX⟩
set_option maxRecDepth 20000 in
set_option maxHeartbeats 2000000 in
theorem rroll_2mt (n y m d u t y' m' d' : Int) (a : Option Addr) (l c : Nat) (hs : List Int) (hT : Hid (RTos n y m d 0)) (d3 : decide ((600 : Int) < (l : Int)) = false) (hW : Hid (RWk n (.slice a l c) hs false)) (hU : Hid (RSk 1 u n (.slice a l c) hs)) (hD : Hid (RSk (-1) t n (.slice a l c) hs)) (hX2 : Hid (RTos u y' m' d' 0)) (h1 : (u == 0) = false) (h2 : (m' != m) = true) (h0 : (t == 0) = true) : RRollA n 2 a l c hs 0 5 := by
  intro w hR
  replace hR := hide hR
  go_enter Try.func16, Try.ntmps16
  go_wp2_with fail
  refine (unhide hT _).mono ?_
  rintro e w1 ⟨rfl, hb1⟩
  have r1 := R9.new w1 y m d
  replace hR := hide (((unhide hR).below hb1 (Nat.le_refl _)).alloc (.cells #[.int .i64 y, .int .i64 m, .int .i64 d] 46))
  have hX := hide (below_via hb1 ((Below.refl w1.heap.size w1).alloc (Nat.le_refl _) (.cells #[.int .i64 y, .int .i64 m, .int .i64 d] 46)))
  clear hb1
  obtain ⟨b1, e1⟩ : ∃ b1, b1 = w1.heap.size := ⟨_, rfl⟩
  rw [← e1] at r1
  replace r1 := hide r1
  go_wp2_with fail
  refine (unhide hW _ (unhide hR)).mono ?_
  rintro e w2 ⟨rfl, rfl⟩
  go_wp2_with fail
  refine (unhide hU _ (unhide hR)).mono ?_
  rintro e w2 ⟨rfl, rfl⟩
  go_wp2_with fail
  refine (unhide hD _ (unhide hR)).mono ?_
  rintro e w2 ⟨rfl, rfl⟩
  go_wp2_with fail
  rw [← e1]
  have q1 := (unhide r1).lt
  generalize w1.alloc (.cells #[.int .i64 y, .int .i64 m, .int .i64 d] 46) = W1 at *
  clear e1
  refine (unhide hX2 _).mono ?_
  rintro e w3 ⟨rfl, hb3⟩
  replace r1 := hide (((unhide r1).keep hb3 q1).alloc (.cells #[.int .i64 y', .int .i64 m', .int .i64 d'] 46))
  have r2 := hide (R9.new w3 y' m' d')
  replace hX := hide (below_via (below_via (unhide hX) hb3) ((Below.refl w3.heap.size w3).alloc (Nat.le_refl _) (.cells #[.int .i64 y', .int .i64 m', .int .i64 d'] 46)))
  clear hb3 hR q1
  have c10 := (unhide r1).c0
  have c11 := (unhide r1).c1
  have c20 := (unhide r2).c0
  have c21 := (unhide r2).c1
  go_wp2_with fail
  go_ret2
  exact ⟨rfl, unhide hX⟩
set_option maxRecDepth 20000 in
set_option maxHeartbeats 2000000 in
theorem rroll_2yt (n y m d u t y' m' d' : Int) (a : Option Addr) (l c : Nat) (hs : List Int) (hT : Hid (RTos n y m d 0)) (d3 : decide ((600 : Int) < (l : Int)) = false) (hW : Hid (RWk n (.slice a l c) hs false)) (hU : Hid (RSk 1 u n (.slice a l c) hs)) (hD : Hid (RSk (-1) t n (.slice a l c) hs)) (hX2 : Hid (RTos u y' m' d' 0)) (h1 : (u == 0) = false) (h2 : (m' != m) = false) (h3 : (y' != y) = true) (h0 : (t == 0) = true) : RRollA n 2 a l c hs 0 5 := by
  intro w hR
  replace hR := hide hR
  go_enter Try.func16, Try.ntmps16
  go_wp2_with fail
  refine (unhide hT _).mono ?_
  rintro e w1 ⟨rfl, hb1⟩
  have r1 := R9.new w1 y m d
  replace hR := hide (((unhide hR).below hb1 (Nat.le_refl _)).alloc (.cells #[.int .i64 y, .int .i64 m, .int .i64 d] 46))
  have hX := hide (below_via hb1 ((Below.refl w1.heap.size w1).alloc (Nat.le_refl _) (.cells #[.int .i64 y, .int .i64 m, .int .i64 d] 46)))
  clear hb1
  obtain ⟨b1, e1⟩ : ∃ b1, b1 = w1.heap.size := ⟨_, rfl⟩
  rw [← e1] at r1
  replace r1 := hide r1
  go_wp2_with fail
  refine (unhide hW _ (unhide hR)).mono ?_
  rintro e w2 ⟨rfl, rfl⟩
  go_wp2_with fail
  refine (unhide hU _ (unhide hR)).mono ?_
  rintro e w2 ⟨rfl, rfl⟩
  go_wp2_with fail
  refine (unhide hD _ (unhide hR)).mono ?_
  rintro e w2 ⟨rfl, rfl⟩
  go_wp2_with fail
  rw [← e1]
  have q1 := (unhide r1).lt
  generalize w1.alloc (.cells #[.int .i64 y, .int .i64 m, .int .i64 d] 46) = W1 at *
  clear e1
  refine (unhide hX2 _).mono ?_
  rintro e w3 ⟨rfl, hb3⟩
  replace r1 := hide (((unhide r1).keep hb3 q1).alloc (.cells #[.int .i64 y', .int .i64 m', .int .i64 d'] 46))
  have r2 := hide (R9.new w3 y' m' d')
  replace hX := hide (below_via (below_via (unhide hX) hb3) ((Below.refl w3.heap.size w3).alloc (Nat.le_refl _) (.cells #[.int .i64 y', .int .i64 m', .int .i64 d'] 46)))
  clear hb3 hR q1
  have c10 := (unhide r1).c0
  have c11 := (unhide r1).c1
  have c20 := (unhide r2).c0
  have c21 := (unhide r2).c1
  go_wp2_with fail
  go_ret2
  exact ⟨rfl, unhide hX⟩
set_option maxRecDepth 20000 in
set_option maxHeartbeats 2000000 in
theorem rroll_2nf (n y m d t : Int) (a : Option Addr) (l c : Nat) (hs : List Int) (hT : Hid (RTos n y m d 0)) (d3 : decide ((600 : Int) < (l : Int)) = false) (hW : Hid (RWk n (.slice a l c) hs false)) (hU : Hid (RSk 1 0 n (.slice a l c) hs)) (hD : Hid (RSk (-1) t n (.slice a l c) hs)) (hX2 : Hid (RTos 0 0 0 0 5)) (h0 : (t == 0) = false) : RRollA n 2 a l c hs t 0 := by
  intro w hR
  replace hR := hide hR
  go_enter Try.func16, Try.ntmps16
  go_wp2_with fail
  refine (unhide hT _).mono ?_
  rintro e w1 ⟨rfl, hb1⟩
  have r1 := R9.new w1 y m d
  replace hR := hide (((unhide hR).below hb1 (Nat.le_refl _)).alloc (.cells #[.int .i64 y, .int .i64 m, .int .i64 d] 46))
  have hX := hide (below_via hb1 ((Below.refl w1.heap.size w1).alloc (Nat.le_refl _) (.cells #[.int .i64 y, .int .i64 m, .int .i64 d] 46)))
  clear hb1
  obtain ⟨b1, e1⟩ : ∃ b1, b1 = w1.heap.size := ⟨_, rfl⟩
  rw [← e1] at r1
  replace r1 := hide r1
  go_wp2_with fail
  refine (unhide hW _ (unhide hR)).mono ?_
  rintro e w2 ⟨rfl, rfl⟩
  go_wp2_with fail
  refine (unhide hU _ (unhide hR)).mono ?_
  rintro e w2 ⟨rfl, rfl⟩
  go_wp2_with fail
  refine (unhide hD _ (unhide hR)).mono ?_
  rintro e w2 ⟨rfl, rfl⟩
  go_wp2_with fail
  rw [← e1]
  have q1 := (unhide r1).lt
  generalize w1.alloc (.cells #[.int .i64 y, .int .i64 m, .int .i64 d] 46) = W1 at *
  clear e1
  refine (unhide hX2 _).mono ?_
  rintro e w3 ⟨rfl, hb3⟩
  replace r1 := hide (((unhide r1).keep hb3 q1).alloc (.cells #[.int .i64 0, .int .i64 0, .int .i64 0] 46))
  have r2 := hide (R9.new w3 0 0 0)
  replace hX := hide (below_via (below_via (unhide hX) hb3) ((Below.refl w3.heap.size w3).alloc (Nat.le_refl _) (.cells #[.int .i64 0, .int .i64 0, .int .i64 0] 46)))
  clear hb3 hR q1
  have c10 := (unhide r1).c0
  have c11 := (unhide r1).c1
  have c20 := (unhide r2).c0
  have c21 := (unhide r2).c1
  go_wp2_with fail
  go_ret2
  exact ⟨rfl, unhide hX⟩
set_option maxRecDepth 20000 in
set_option maxHeartbeats 2000000 in
theorem rroll_2mf (n y m d u t y' m' d' : Int) (a : Option Addr) (l c : Nat) (hs : List Int) (hT : Hid (RTos n y m d 0)) (d3 : decide ((600 : Int) < (l : Int)) = false) (hW : Hid (RWk n (.slice a l c) hs false)) (hU : Hid (RSk 1 u n (.slice a l c) hs)) (hD : Hid (RSk (-1) t n (.slice a l c) hs)) (hX2 : Hid (RTos u y' m' d' 0)) (h1 : (u == 0) = false) (h2 : (m' != m) = true) (h0 : (t == 0) = false) : RRollA n 2 a l c hs t 0 := by
  intro w hR
  replace hR := hide hR
  go_enter Try.func16, Try.ntmps16
  go_wp2_with fail
  refine (unhide hT _).mono ?_
  rintro e w1 ⟨rfl, hb1⟩
  have r1 := R9.new w1 y m d
  replace hR := hide (((unhide hR).below hb1 (Nat.le_refl _)).alloc (.cells #[.int .i64 y, .int .i64 m, .int .i64 d] 46))
  have hX := hide (below_via hb1 ((Below.refl w1.heap.size w1).alloc (Nat.le_refl _) (.cells #[.int .i64 y, .int .i64 m, .int .i64 d] 46)))
  clear hb1
  obtain ⟨b1, e1⟩ : ∃ b1, b1 = w1.heap.size := ⟨_, rfl⟩
  rw [← e1] at r1
  replace r1 := hide r1
  go_wp2_with fail
  refine (unhide hW _ (unhide hR)).mono ?_
  rintro e w2 ⟨rfl, rfl⟩
  go_wp2_with fail
  refine (unhide hU _ (unhide hR)).mono ?_
  rintro e w2 ⟨rfl, rfl⟩
  go_wp2_with fail
  refine (unhide hD _ (unhide hR)).mono ?_
  rintro e w2 ⟨rfl, rfl⟩
  go_wp2_with fail
  rw [← e1]
  have q1 := (unhide r1).lt
  generalize w1.alloc (.cells #[.int .i64 y, .int .i64 m, .int .i64 d] 46) = W1 at *
  clear e1
  refine (unhide hX2 _).mono ?_
  rintro e w3 ⟨rfl, hb3⟩
  replace r1 := hide (((unhide r1).keep hb3 q1).alloc (.cells #[.int .i64 y', .int .i64 m', .int .i64 d'] 46))
  have r2 := hide (R9.new w3 y' m' d')
  replace hX := hide (below_via (below_via (unhide hX) hb3) ((Below.refl w3.heap.size w3).alloc (Nat.le_refl _) (.cells #[.int .i64 y', .int .i64 m', .int .i64 d'] 46)))
  clear hb3 hR q1
  have c10 := (unhide r1).c0
  have c11 := (unhide r1).c1
  have c20 := (unhide r2).c0
  have c21 := (unhide r2).c1
  go_wp2_with fail
  go_ret2
  exact ⟨rfl, unhide hX⟩
set_option maxRecDepth 20000 in
set_option maxHeartbeats 2000000 in
theorem rroll_2yf (n y m d u t y' m' d' : Int) (a : Option Addr) (l c : Nat) (hs : List Int) (hT : Hid (RTos n y m d 0)) (d3 : decide ((600 : Int) < (l : Int)) = false) (hW : Hid (RWk n (.slice a l c) hs false)) (hU : Hid (RSk 1 u n (.slice a l c) hs)) (hD : Hid (RSk (-1) t n (.slice a l c) hs)) (hX2 : Hid (RTos u y' m' d' 0)) (h1 : (u == 0) = false) (h2 : (m' != m) = false) (h3 : (y' != y) = true) (h0 : (t == 0) = false) : RRollA n 2 a l c hs t 0 := by
  intro w hR
  replace hR := hide hR
  go_enter Try.func16, Try.ntmps16
  go_wp2_with fail
  refine (unhide hT _).mono ?_
  rintro e w1 ⟨rfl, hb1⟩
  have r1 := R9.new w1 y m d
  replace hR := hide (((unhide hR).below hb1 (Nat.le_refl _)).alloc (.cells #[.int .i64 y, .int .i64 m, .int .i64 d] 46))
  have hX := hide (below_via hb1 ((Below.refl w1.heap.size w1).alloc (Nat.le_refl _) (.cells #[.int .i64 y, .int .i64 m, .int .i64 d] 46)))
  clear hb1
  obtain ⟨b1, e1⟩ : ∃ b1, b1 = w1.heap.size := ⟨_, rfl⟩
  rw [← e1] at r1
  replace r1 := hide r1
  go_wp2_with fail
  refine (unhide hW _ (unhide hR)).mono ?_
  rintro e w2 ⟨rfl, rfl⟩
  go_wp2_with fail
  refine (unhide hU _ (unhide hR)).mono ?_
  rintro e w2 ⟨rfl, rfl⟩
  go_wp2_with fail
  refine (unhide hD _ (unhide hR)).mono ?_
  rintro e w2 ⟨rfl, rfl⟩
  go_wp2_with fail
  rw [← e1]
  have q1 := (unhide r1).lt
  generalize w1.alloc (.cells #[.int .i64 y, .int .i64 m, .int .i64 d] 46) = W1 at *
  clear e1
  refine (unhide hX2 _).mono ?_
  rintro e w3 ⟨rfl, hb3⟩
  replace r1 := hide (((unhide r1).keep hb3 q1).alloc (.cells #[.int .i64 y', .int .i64 m', .int .i64 d'] 46))
  have r2 := hide (R9.new w3 y' m' d')
  replace hX := hide (below_via (below_via (unhide hX) hb3) ((Below.refl w3.heap.size w3).alloc (Nat.le_refl _) (.cells #[.int .i64 y', .int .i64 m', .int .i64 d'] 46)))
  clear hb3 hR q1
  have c10 := (unhide r1).c0
  have c11 := (unhide r1).c1
  have c20 := (unhide r2).c0
  have c21 := (unhide r2).c1
  go_wp2_with fail
  go_ret2
  exact ⟨rfl, unhide hX⟩
set_option maxRecDepth 20000 in
set_option maxHeartbeats 2000000 in
theorem rroll_2s (n y m d u t y' m' d' : Int) (a : Option Addr) (l c : Nat) (hs : List Int) (hT : Hid (RTos n y m d 0)) (d3 : decide ((600 : Int) < (l : Int)) = false) (hW : Hid (RWk n (.slice a l c) hs false)) (hU : Hid (RSk 1 u n (.slice a l c) hs)) (hD : Hid (RSk (-1) t n (.slice a l c) hs)) (hX2 : Hid (RTos u y' m' d' 0)) (h1 : (u == 0) = false) (h2 : (m' != m) = false) (h3 : (y' != y) = false) : RRollA n 2 a l c hs u 0 := by
  intro w hR
  replace hR := hide hR
  go_enter Try.func16, Try.ntmps16
  go_wp2_with fail
  refine (unhide hT _).mono ?_
  rintro e w1 ⟨rfl, hb1⟩
  have r1 := R9.new w1 y m d
  replace hR := hide (((unhide hR).below hb1 (Nat.le_refl _)).alloc (.cells #[.int .i64 y, .int .i64 m, .int .i64 d] 46))
  have hX := hide (below_via hb1 ((Below.refl w1.heap.size w1).alloc (Nat.le_refl _) (.cells #[.int .i64 y, .int .i64 m, .int .i64 d] 46)))
  clear hb1
  obtain ⟨b1, e1⟩ : ∃ b1, b1 = w1.heap.size := ⟨_, rfl⟩
  rw [← e1] at r1
  replace r1 := hide r1
  go_wp2_with fail
  refine (unhide hW _ (unhide hR)).mono ?_
  rintro e w2 ⟨rfl, rfl⟩
  go_wp2_with fail
  refine (unhide hU _ (unhide hR)).mono ?_
  rintro e w2 ⟨rfl, rfl⟩
  go_wp2_with fail
  refine (unhide hD _ (unhide hR)).mono ?_
  rintro e w2 ⟨rfl, rfl⟩
  go_wp2_with fail
  rw [← e1]
  have q1 := (unhide r1).lt
  generalize w1.alloc (.cells #[.int .i64 y, .int .i64 m, .int .i64 d] 46) = W1 at *
  clear e1
  refine (unhide hX2 _).mono ?_
  rintro e w3 ⟨rfl, hb3⟩
  replace r1 := hide (((unhide r1).keep hb3 q1).alloc (.cells #[.int .i64 y', .int .i64 m', .int .i64 d'] 46))
  have r2 := hide (R9.new w3 y' m' d')
  replace hX := hide (below_via (below_via (unhide hX) hb3) ((Below.refl w3.heap.size w3).alloc (Nat.le_refl _) (.cells #[.int .i64 y', .int .i64 m', .int .i64 d'] 46)))
  clear hb3 hR q1
  have c10 := (unhide r1).c0
  have c11 := (unhide r1).c1
  have c20 := (unhide r2).c0
  have c21 := (unhide r2).c1
  go_wp2_with fail
  go_ret2
  exact ⟨rfl, unhide hX⟩
end Go.Proofs.Ytmpalgfhamahnaa
