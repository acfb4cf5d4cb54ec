/- What the reference's Basis and Days answer. -/
import Derived.Test.YthlakemoiicdfaaAcc
import Derived.Test.YthlakemoiicdfaaDRef3
namespace Go.Proofs.Ythlakemoiicdfaa
open Go.RowKit
open Dy (R9 RTos Valid leap len_bd num rto_ok)
set_option linter.unusedSimpArgs false
/-- The reference's Basis answers. -/
def RBasisA (way v : Int) : Prop := ∀ w : World, Calls Try.prog 14 #[.int .i64 way] w fun z w' => z = .returned (.int .i64 v) ∧ Below w.heap.size w w'
theorem rbasis_1 : RBasisA 1 360 := by
  intro w
  go_enter Try.func14, Try.ntmps14
  go_wp2_with fail
  go_ret
  exact ⟨rfl, Below.refl _ _⟩
theorem rbasis_2 : RBasisA 2 360 := by
  intro w
  go_enter Try.func14, Try.ntmps14
  go_wp2_with fail
  go_ret
  exact ⟨rfl, Below.refl _ _⟩
theorem rbasis_3 : RBasisA 3 365 := by
  intro w
  go_enter Try.func14, Try.ntmps14
  go_wp2_with fail
  go_ret
  exact ⟨rfl, Below.refl _ _⟩
theorem rbasis_0 (way : Int) (n1 : (way == 1) = false) (n2 : (way == 2) = false) (n3 : (way == 3) = false) : RBasisA way 0 := by
  intro w
  go_enter Try.func14, Try.ntmps14
  go_wp2_with fail
  go_ret
  exact ⟨rfl, Below.refl _ _⟩
/-- The reference's Days answers. -/
def RDaysA (a b way v e : Int) : Prop := ∀ w : World, Calls Try.prog 10 #[.int .i64 a, .int .i64 b, .int .i64 way] w fun z w' => z = .returned (.tuple #[.int .i64 v, .int .i64 e]) ∧ Below w.heap.size w w'
theorem rdays_0 (a b way : Int) (hB : Hid (RBasisA way 0)) : RDaysA a b way 0 2 := by
  intro w
  go_enter Try.func10, Try.ntmps10
  go_wp2_with fail
  refine (unhide hB _).mono ?_
  rintro e w1 ⟨rfl, hb1⟩
  replace hb1 := hide hb1
  go_wp2_with fail
  go_ret2
  exact ⟨rfl, unhide hb1⟩
set_option maxRecDepth 20000 in
set_option maxHeartbeats 2000000 in
theorem rdays_a (a b way B y m d y' m' d' e2 : Int) (hz : (B == 0) = false) (hB : Hid (RBasisA way B)) (hA : Hid (RTos a y m d 5)) (hb : Hid (RTos b y' m' d' e2)) : RDaysA a b way 0 5 := by
  intro w
  go_enter Try.func10, Try.ntmps10
  go_wp2_with fail
  refine (unhide hB _).mono ?_
  rintro e w1 ⟨rfl, hb1⟩
  replace hb1 := hide hb1
  go_wp2_with fail
  refine (unhide hA _).mono ?_
  rintro e w2 ⟨rfl, hb2⟩
  have R1 := hide (R9.new w2 y m d)
  replace hb2 := hide (below_via (below_via (unhide hb1) hb2) ((Below.refl w2.heap.size w2).alloc (Nat.le_refl _) (.cells #[.int .i64 y, .int .i64 m, .int .i64 d] 45)))
  clear hb1
  go_wp2_with fail
  obtain ⟨p, hp⟩ : ∃ p, p = w2.heap.size := ⟨_, rfl⟩
  rw [← hp] at R1 ⊢
  generalize w2.alloc (.cells #[.int .i64 y, .int .i64 m, .int .i64 d] 45) = W2 at R1 hb2 ⊢
  clear hp
  refine (unhide hb _).mono ?_
  rintro e w3 ⟨rfl, hb3⟩
  replace R1 := hide ((unhide R1).keep hb3 (unhide R1).lt)
  replace R1 := hide ((unhide R1).alloc (.cells #[.int .i64 y', .int .i64 m', .int .i64 d'] 45))
  have R2 := hide (R9.new w3 y' m' d')
  replace hb3 := hide (below_via (below_via (unhide hb2) hb3) ((Below.refl w3.heap.size w3).alloc (Nat.le_refl _) (.cells #[.int .i64 y', .int .i64 m', .int .i64 d'] 45)))
  clear hb2
  go_wp2_with fail
  go_ret2
  exact ⟨rfl, unhide hb3⟩
set_option maxRecDepth 20000 in
set_option maxHeartbeats 2000000 in
theorem rdays_b (a b way B y m d y' m' d' : Int) (hz : (B == 0) = false) (hB : Hid (RBasisA way B)) (hA : Hid (RTos a y m d 0)) (hb : Hid (RTos b y' m' d' 5)) : RDaysA a b way 0 5 := by
  intro w
  go_enter Try.func10, Try.ntmps10
  go_wp2_with fail
  refine (unhide hB _).mono ?_
  rintro e w1 ⟨rfl, hb1⟩
  replace hb1 := hide hb1
  go_wp2_with fail
  refine (unhide hA _).mono ?_
  rintro e w2 ⟨rfl, hb2⟩
  have R1 := hide (R9.new w2 y m d)
  replace hb2 := hide (below_via (below_via (unhide hb1) hb2) ((Below.refl w2.heap.size w2).alloc (Nat.le_refl _) (.cells #[.int .i64 y, .int .i64 m, .int .i64 d] 45)))
  clear hb1
  go_wp2_with fail
  obtain ⟨p, hp⟩ : ∃ p, p = w2.heap.size := ⟨_, rfl⟩
  rw [← hp] at R1 ⊢
  generalize w2.alloc (.cells #[.int .i64 y, .int .i64 m, .int .i64 d] 45) = W2 at R1 hb2 ⊢
  clear hp
  refine (unhide hb _).mono ?_
  rintro e w3 ⟨rfl, hb3⟩
  replace R1 := hide ((unhide R1).keep hb3 (unhide R1).lt)
  replace R1 := hide ((unhide R1).alloc (.cells #[.int .i64 y', .int .i64 m', .int .i64 d'] 45))
  have R2 := hide (R9.new w3 y' m' d')
  replace hb3 := hide (below_via (below_via (unhide hb2) hb3) ((Below.refl w3.heap.size w3).alloc (Nat.le_refl _) (.cells #[.int .i64 y', .int .i64 m', .int .i64 d'] 45)))
  clear hb2
  go_wp2_with fail
  go_ret2
  exact ⟨rfl, unhide hb3⟩
set_option maxRecDepth 20000 in
set_option maxHeartbeats 2000000 in
theorem rdays_act (a b way B y m d y' m' d' : Int) (hw : (way == 1) = false) (a1 : 1 ≤ a) (a2 : a ≤ 3652059) (b1 : 1 ≤ b) (b2 : b ≤ 3652059) (hz : (B == 0) = false) (hB : Hid (RBasisA way B)) (hA : Hid (RTos a y m d 0)) (hb : Hid (RTos b y' m' d' 0)) : RDaysA a b way (b - a) 0 := by
  intro w
  go_enter Try.func10, Try.ntmps10
  go_wp2_with fail
  refine (unhide hB _).mono ?_
  rintro e w1 ⟨rfl, hb1⟩
  replace hb1 := hide hb1
  go_wp2_with fail
  refine (unhide hA _).mono ?_
  rintro e w2 ⟨rfl, hb2⟩
  have R1 := hide (R9.new w2 y m d)
  replace hb2 := hide (below_via (below_via (unhide hb1) hb2) ((Below.refl w2.heap.size w2).alloc (Nat.le_refl _) (.cells #[.int .i64 y, .int .i64 m, .int .i64 d] 45)))
  clear hb1
  go_wp2_with fail
  obtain ⟨p, hp⟩ : ∃ p, p = w2.heap.size := ⟨_, rfl⟩
  rw [← hp] at R1 ⊢
  generalize w2.alloc (.cells #[.int .i64 y, .int .i64 m, .int .i64 d] 45) = W2 at R1 hb2 ⊢
  clear hp
  refine (unhide hb _).mono ?_
  rintro e w3 ⟨rfl, hb3⟩
  replace R1 := hide ((unhide R1).keep hb3 (unhide R1).lt)
  replace R1 := hide ((unhide R1).alloc (.cells #[.int .i64 y', .int .i64 m', .int .i64 d'] 45))
  have R2 := hide (R9.new w3 y' m' d')
  replace hb3 := hide (below_via (below_via (unhide hb2) hb3) ((Below.refl w3.heap.size w3).alloc (Nat.le_refl _) (.cells #[.int .i64 y', .int .i64 m', .int .i64 d'] 45)))
  clear hb2
  go_wp2_with fail
  go_ret2
  exact ⟨rfl, unhide hb3⟩
set_option maxRecDepth 20000 in
set_option maxHeartbeats 4000000 in
theorem rflat_nn (a b y m d y' m' d' : Int) (y1 : 1 ≤ y) (y2 : y ≤ 9999) (m1 : 1 ≤ m) (m2 : m ≤ 12) (y1' : 1 ≤ y') (y2' : y' ≤ 9999) (m1' : 1 ≤ m') (m2' : m' ≤ 12) (d1 : 1 ≤ d) (d2 : d ≤ 30) (n1 : (d == 31) = false) (d1' : 1 ≤ d') (d2' : d' ≤ 30) (n2 : (d' == 31) = false) (hA : Hid (RTos a y m d 0)) (hb : Hid (RTos b y' m' d' 0)) : RDaysA a b 1 (360 * (y' - y) + 30 * (m' - m)  + d' - d) 0 := by
  intro w
  have hB := hide rbasis_1
  go_enter Try.func10, Try.ntmps10
  go_wp2_with fail
  refine (unhide hB _).mono ?_
  rintro e w1 ⟨rfl, hb1⟩
  replace hb1 := hide hb1
  go_wp2_with fail
  refine (unhide hA _).mono ?_
  rintro e w2 ⟨rfl, hb2⟩
  have R1 := hide (R9.new w2 y m d)
  have s2 : w.heap.size ≤ w2.heap.size := (below_via (unhide hb1) hb2).size
  replace hb2 := hide (below_via (below_via (unhide hb1) hb2) ((Below.refl w2.heap.size w2).alloc (Nat.le_refl _) (.cells #[.int .i64 y, .int .i64 m, .int .i64 d] 45)))
  clear hb1
  go_wp2_with fail
  obtain ⟨p, hp⟩ : ∃ p, p = w2.heap.size := ⟨_, rfl⟩
  rw [← hp] at R1 s2 ⊢
  generalize w2.alloc (.cells #[.int .i64 y, .int .i64 m, .int .i64 d] 45) = W2 at R1 hb2 ⊢
  clear hp
  refine (unhide hb _).mono ?_
  rintro e w3 ⟨rfl, hb3⟩
  replace R1 := hide ((unhide R1).keep hb3 (unhide R1).lt)
  have s3 : p < w3.heap.size := (unhide R1).lt
  have R1k := R1
  have hbk := hide (below_via (unhide hb2) hb3)
  replace R1 := hide ((unhide R1).alloc (.cells #[.int .i64 y', .int .i64 m', .int .i64 d'] 45))
  have R2 := hide (R9.new w3 y' m' d')
  replace hb3 := hide (below_via (below_via (unhide hb2) hb3) ((Below.refl w3.heap.size w3).alloc (Nat.le_refl _) (.cells #[.int .i64 y', .int .i64 m', .int .i64 d'] 45)))
  clear hb2
  obtain ⟨q, hq⟩ : ∃ q, q = w3.heap.size := ⟨_, rfl⟩
  have R2' := unhide R2
  have R1' := unhide R1
  have B0 := unhide hb3
  rw [← hq] at R2' s3
  have s4 : p ≠ q := by omega
  have s5 : q ≠ p := by omega
  have s6 : w.heap.size ≤ q := by omega
  clear R1 R2 hb3
  obtain ⟨X, hX⟩ : ∃ X, X = w3.alloc (.cells #[.int .i64 y', .int .i64 m', .int .i64 d'] 45) := ⟨_, rfl⟩
  rw [← hX] at R1' R2' B0
  have u00 := R1'.c0
  have u01 := R1'.c1
  have u02 := R1'.c2
  have uf0 := R1'.fr 2
  have v00 := R2'.c0
  have v01 := R2'.c1
  have v02 := R2'.c2
  have vf0 := R2'.fr 2
  replace R1' := hide R1'
  replace R2' := hide R2'
  replace B0 := hide B0
  try rw [hX] at *
  rw [hq] at *
  clear R1k hbk
  clear hX hq
  go_wp2_with fail
  go_ret2
  exact ⟨rfl, unhide B0⟩
set_option maxRecDepth 20000 in
set_option maxHeartbeats 4000000 in
theorem rflat_yn (a b y m y' m' d' : Int) (y1 : 1 ≤ y) (y2 : y ≤ 9999) (m1 : 1 ≤ m) (m2 : m ≤ 12) (y1' : 1 ≤ y') (y2' : y' ≤ 9999) (m1' : 1 ≤ m') (m2' : m' ≤ 12) (d1' : 1 ≤ d') (d2' : d' ≤ 30) (n2 : (d' == 31) = false) (hA : Hid (RTos a y m 31 0)) (hb : Hid (RTos b y' m' d' 0)) : RDaysA a b 1 (360 * (y' - y) + 30 * (m' - m)  + d' - 30) 0 := by
  intro w
  have hB := hide rbasis_1
  go_enter Try.func10, Try.ntmps10
  go_wp2_with fail
  refine (unhide hB _).mono ?_
  rintro e w1 ⟨rfl, hb1⟩
  replace hb1 := hide hb1
  go_wp2_with fail
  refine (unhide hA _).mono ?_
  rintro e w2 ⟨rfl, hb2⟩
  have R1 := hide (R9.new w2 y m 31)
  have s2 : w.heap.size ≤ w2.heap.size := (below_via (unhide hb1) hb2).size
  replace hb2 := hide (below_via (below_via (unhide hb1) hb2) ((Below.refl w2.heap.size w2).alloc (Nat.le_refl _) (.cells #[.int .i64 y, .int .i64 m, .int .i64 31] 45)))
  clear hb1
  go_wp2_with fail
  obtain ⟨p, hp⟩ : ∃ p, p = w2.heap.size := ⟨_, rfl⟩
  rw [← hp] at R1 s2 ⊢
  generalize w2.alloc (.cells #[.int .i64 y, .int .i64 m, .int .i64 31] 45) = W2 at R1 hb2 ⊢
  clear hp
  refine (unhide hb _).mono ?_
  rintro e w3 ⟨rfl, hb3⟩
  replace R1 := hide ((unhide R1).keep hb3 (unhide R1).lt)
  have s3 : p < w3.heap.size := (unhide R1).lt
  have R1k := R1
  have hbk := hide (below_via (unhide hb2) hb3)
  replace R1 := hide ((unhide R1).alloc (.cells #[.int .i64 y', .int .i64 m', .int .i64 d'] 45))
  have R2 := hide (R9.new w3 y' m' d')
  replace hb3 := hide (below_via (below_via (unhide hb2) hb3) ((Below.refl w3.heap.size w3).alloc (Nat.le_refl _) (.cells #[.int .i64 y', .int .i64 m', .int .i64 d'] 45)))
  clear hb2
  obtain ⟨q, hq⟩ : ∃ q, q = w3.heap.size := ⟨_, rfl⟩
  have R2' := unhide R2
  have R1' := unhide R1
  have B0 := unhide hb3
  rw [← hq] at R2' s3
  have s4 : p ≠ q := by omega
  have s5 : q ≠ p := by omega
  have s6 : w.heap.size ≤ q := by omega
  clear R1 R2 hb3
  obtain ⟨X, hX⟩ : ∃ X, X = w3.alloc (.cells #[.int .i64 y', .int .i64 m', .int .i64 d'] 45) := ⟨_, rfl⟩
  rw [← hX] at R1' R2' B0
  have u00 := R1'.c0
  have u01 := R1'.c1
  have u02 := R1'.c2
  have uf0 := R1'.fr 2
  have v00 := R2'.c0
  have v01 := R2'.c1
  have v02 := R2'.c2
  have vf0 := R2'.fr 2
  replace R1' := R1'.s2 30
  replace R2' := R2'.other (a := ⟨p, 2, none⟩) s5 (.int .i64 30)
  replace B0 := B0.setCell (p := ⟨p, 2, none⟩) s2 (.int .i64 30)
  have u10 := R1'.c0
  have u11 := R1'.c1
  have u12 := R1'.c2
  have uf1 := R1'.fr 2
  have v10 := R2'.c0
  have v11 := R2'.c1
  have v12 := R2'.c2
  have vf1 := R2'.fr 2
  replace R1' := hide R1'
  replace R2' := hide R2'
  replace B0 := hide B0
  try rw [hX] at *
  rw [hq] at *
  clear R1k hbk
  clear hX hq
  go_wp2_with fail
  go_ret2
  exact ⟨rfl, unhide B0⟩
set_option maxRecDepth 20000 in
set_option maxHeartbeats 4000000 in
theorem rflat_ny (a b y m d y' m' : Int) (y1 : 1 ≤ y) (y2 : y ≤ 9999) (m1 : 1 ≤ m) (m2 : m ≤ 12) (y1' : 1 ≤ y') (y2' : y' ≤ 9999) (m1' : 1 ≤ m') (m2' : m' ≤ 12) (d1 : 1 ≤ d) (d2 : d ≤ 30) (n1 : (d == 31) = false) (hA : Hid (RTos a y m d 0)) (hb : Hid (RTos b y' m' 31 0)) : RDaysA a b 1 (360 * (y' - y) + 30 * (m' - m)  + 30 - d) 0 := by
  intro w
  have hB := hide rbasis_1
  go_enter Try.func10, Try.ntmps10
  go_wp2_with fail
  refine (unhide hB _).mono ?_
  rintro e w1 ⟨rfl, hb1⟩
  replace hb1 := hide hb1
  go_wp2_with fail
  refine (unhide hA _).mono ?_
  rintro e w2 ⟨rfl, hb2⟩
  have R1 := hide (R9.new w2 y m d)
  have s2 : w.heap.size ≤ w2.heap.size := (below_via (unhide hb1) hb2).size
  replace hb2 := hide (below_via (below_via (unhide hb1) hb2) ((Below.refl w2.heap.size w2).alloc (Nat.le_refl _) (.cells #[.int .i64 y, .int .i64 m, .int .i64 d] 45)))
  clear hb1
  go_wp2_with fail
  obtain ⟨p, hp⟩ : ∃ p, p = w2.heap.size := ⟨_, rfl⟩
  rw [← hp] at R1 s2 ⊢
  generalize w2.alloc (.cells #[.int .i64 y, .int .i64 m, .int .i64 d] 45) = W2 at R1 hb2 ⊢
  clear hp
  refine (unhide hb _).mono ?_
  rintro e w3 ⟨rfl, hb3⟩
  replace R1 := hide ((unhide R1).keep hb3 (unhide R1).lt)
  have s3 : p < w3.heap.size := (unhide R1).lt
  have R1k := R1
  have hbk := hide (below_via (unhide hb2) hb3)
  replace R1 := hide ((unhide R1).alloc (.cells #[.int .i64 y', .int .i64 m', .int .i64 31] 45))
  have R2 := hide (R9.new w3 y' m' 31)
  replace hb3 := hide (below_via (below_via (unhide hb2) hb3) ((Below.refl w3.heap.size w3).alloc (Nat.le_refl _) (.cells #[.int .i64 y', .int .i64 m', .int .i64 31] 45)))
  clear hb2
  obtain ⟨q, hq⟩ : ∃ q, q = w3.heap.size := ⟨_, rfl⟩
  have R2' := unhide R2
  have R1' := unhide R1
  have B0 := unhide hb3
  rw [← hq] at R2' s3
  have s4 : p ≠ q := by omega
  have s5 : q ≠ p := by omega
  have s6 : w.heap.size ≤ q := by omega
  clear R1 R2 hb3
  obtain ⟨X, hX⟩ : ∃ X, X = w3.alloc (.cells #[.int .i64 y', .int .i64 m', .int .i64 31] 45) := ⟨_, rfl⟩
  rw [← hX] at R1' R2' B0
  have u00 := R1'.c0
  have u01 := R1'.c1
  have u02 := R1'.c2
  have uf0 := R1'.fr 2
  have v00 := R2'.c0
  have v01 := R2'.c1
  have v02 := R2'.c2
  have vf0 := R2'.fr 2
  have R1n := (unhide R1k).alloc (.cells #[.int .i64 y', .int .i64 m', .int .i64 30] 45)
  have R2n := R9.new w3 y' m' 30
  rw [← hq] at R2n
  have B0n := below_via (unhide hbk) ((Below.refl w3.heap.size w3).alloc (Nat.le_refl _) (.cells #[.int .i64 y', .int .i64 m', .int .i64 30] 45))
  have p0 := R1n.c0
  have p1 := R1n.c1
  have p2 := R1n.c2
  have q0 := R2n.c0
  have q1 := R2n.c1
  have q2 := R2n.c2
  clear R1' R2' B0
  have R1' := R1n
  have R2' := R2n
  have B0 := B0n
  clear R1n R2n B0n
  replace R1' := hide R1'
  replace R2' := hide R2'
  replace B0 := hide B0
  try rw [hX] at *
  rw [hq] at *
  clear R1k hbk
  clear hX hq
  go_wp2_with fail
  go_ret2
  exact ⟨rfl, unhide B0⟩
set_option maxRecDepth 20000 in
set_option maxHeartbeats 4000000 in
theorem rflat_yy (a b y m y' m' : Int) (y1 : 1 ≤ y) (y2 : y ≤ 9999) (m1 : 1 ≤ m) (m2 : m ≤ 12) (y1' : 1 ≤ y') (y2' : y' ≤ 9999) (m1' : 1 ≤ m') (m2' : m' ≤ 12) (hA : Hid (RTos a y m 31 0)) (hb : Hid (RTos b y' m' 31 0)) : RDaysA a b 1 (360 * (y' - y) + 30 * (m' - m) ) 0 := by
  intro w
  have hB := hide rbasis_1
  go_enter Try.func10, Try.ntmps10
  go_wp2_with fail
  refine (unhide hB _).mono ?_
  rintro e w1 ⟨rfl, hb1⟩
  replace hb1 := hide hb1
  go_wp2_with fail
  refine (unhide hA _).mono ?_
  rintro e w2 ⟨rfl, hb2⟩
  have R1 := hide (R9.new w2 y m 31)
  have s2 : w.heap.size ≤ w2.heap.size := (below_via (unhide hb1) hb2).size
  replace hb2 := hide (below_via (below_via (unhide hb1) hb2) ((Below.refl w2.heap.size w2).alloc (Nat.le_refl _) (.cells #[.int .i64 y, .int .i64 m, .int .i64 31] 45)))
  clear hb1
  go_wp2_with fail
  obtain ⟨p, hp⟩ : ∃ p, p = w2.heap.size := ⟨_, rfl⟩
  rw [← hp] at R1 s2 ⊢
  generalize w2.alloc (.cells #[.int .i64 y, .int .i64 m, .int .i64 31] 45) = W2 at R1 hb2 ⊢
  clear hp
  refine (unhide hb _).mono ?_
  rintro e w3 ⟨rfl, hb3⟩
  replace R1 := hide ((unhide R1).keep hb3 (unhide R1).lt)
  have s3 : p < w3.heap.size := (unhide R1).lt
  have R1k := R1
  have hbk := hide (below_via (unhide hb2) hb3)
  replace R1 := hide ((unhide R1).alloc (.cells #[.int .i64 y', .int .i64 m', .int .i64 31] 45))
  have R2 := hide (R9.new w3 y' m' 31)
  replace hb3 := hide (below_via (below_via (unhide hb2) hb3) ((Below.refl w3.heap.size w3).alloc (Nat.le_refl _) (.cells #[.int .i64 y', .int .i64 m', .int .i64 31] 45)))
  clear hb2
  obtain ⟨q, hq⟩ : ∃ q, q = w3.heap.size := ⟨_, rfl⟩
  have R2' := unhide R2
  have R1' := unhide R1
  have B0 := unhide hb3
  rw [← hq] at R2' s3
  have s4 : p ≠ q := by omega
  have s5 : q ≠ p := by omega
  have s6 : w.heap.size ≤ q := by omega
  clear R1 R2 hb3
  obtain ⟨X, hX⟩ : ∃ X, X = w3.alloc (.cells #[.int .i64 y', .int .i64 m', .int .i64 31] 45) := ⟨_, rfl⟩
  rw [← hX] at R1' R2' B0
  have u00 := R1'.c0
  have u01 := R1'.c1
  have u02 := R1'.c2
  have uf0 := R1'.fr 2
  have v00 := R2'.c0
  have v01 := R2'.c1
  have v02 := R2'.c2
  have vf0 := R2'.fr 2
  replace R1' := R1'.s2 30
  replace R2' := R2'.other (a := ⟨p, 2, none⟩) s5 (.int .i64 30)
  replace B0 := B0.setCell (p := ⟨p, 2, none⟩) s2 (.int .i64 30)
  have u10 := R1'.c0
  have u11 := R1'.c1
  have u12 := R1'.c2
  have uf1 := R1'.fr 2
  have v10 := R2'.c0
  have v11 := R2'.c1
  have v12 := R2'.c2
  have vf1 := R2'.fr 2
  replace R2' := R2'.s2 30
  replace R1' := R1'.other (a := ⟨q, 2, none⟩) s4 (.int .i64 30)
  replace B0 := B0.setCell (p := ⟨q, 2, none⟩) s6 (.int .i64 30)
  have u20 := R1'.c0
  have u21 := R1'.c1
  have u22 := R1'.c2
  have uf2 := R1'.fr 2
  have v20 := R2'.c0
  have v21 := R2'.c1
  have v22 := R2'.c2
  have vf2 := R2'.fr 2
  replace R1' := hide R1'
  replace R2' := hide R2'
  replace B0 := hide B0
  try rw [hX] at *
  rw [hq] at *
  clear R1k hbk
  clear hX hq
  go_wp2_with fail
  go_ret2
  exact ⟨rfl, unhide B0⟩
theorem rdays_flat {y m d y' m' d' : Int} (h : Valid y m d) (h' : Valid y' m' d') : RDaysA (num y m d) (num y' m' d') 1 (fp y' m' d' - fp y m d) 0 := by
  have hA := hide (rto_ok y m d h)
  have hB := hide (rto_ok y' m' d' h')
  generalize num y m d = a at *
  generalize num y' m' d' = b at *
  obtain ⟨y1, y2, m1, m2, d1, d2⟩ := h
  obtain ⟨y1', y2', m1', m2', d1', d2'⟩ := h'
  have l1 := len_bd (leap y) m
  have l2 := len_bd (leap y') m'
  by_cases c : d = 31
  · subst c
    by_cases c' : d' = 31
    · subst c'
      have g := rflat_yy a b y m y' m' y1 y2 m1 m2 y1' y2' m1' m2' hA hB
      rwa [show 360 * (y' - y) + 30 * (m' - m) = fp y' m' 31 - fp y m 31 from by unfold fp; rw [if_pos rfl]; omega] at g
    · have g := rflat_yn a b y m y' m' d' y1 y2 m1 m2 y1' y2' m1' m2' d1' (by omega) (beq_false_of_ne c') hA hB
      rwa [show 360 * (y' - y) + 30 * (m' - m) + d' - 30 = fp y' m' d' - fp y m 31 from by unfold fp; rw [if_neg c', if_pos rfl]; omega] at g
  · by_cases c' : d' = 31
    · subst c'
      have g := rflat_ny a b y m d y' m' y1 y2 m1 m2 y1' y2' m1' m2' d1 (by omega) (beq_false_of_ne c) hA hB
      rwa [show 360 * (y' - y) + 30 * (m' - m) + 30 - d = fp y' m' 31 - fp y m d from by unfold fp; rw [if_pos rfl, if_neg c]; omega] at g
    · have g := rflat_nn a b y m d y' m' d' y1 y2 m1 m2 y1' y2' m1' m2' d1 (by omega) (beq_false_of_ne c) d1' (by omega) (beq_false_of_ne c') hA hB
      rwa [show 360 * (y' - y) + 30 * (m' - m) + d' - d = fp y' m' d' - fp y m d from by unfold fp; rw [if_neg c', if_neg c]; omega] at g
end Go.Proofs.Ythlakemoiicdfaa
