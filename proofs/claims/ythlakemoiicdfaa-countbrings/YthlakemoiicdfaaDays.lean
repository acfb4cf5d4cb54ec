/- What count's places of days, Days and Basis answer. -/
import Derived.Test.YthlakemoiicdfaaCnt
import Derived.Test.YthlakemoiicdfaaDFrom
namespace Go.Proofs.Ythlakemoiicdfaa
open Go.RowKit
open Dy (Tos Valid date_of leap len_bd num to_no to_ok)
set_option linter.unusedSimpArgs false
/-- That way's place of a day. -/
def Place (f : Nat) (n v e : Int) : Prop := ∀ w : World, Calls Try.prog f #[.int .i64 n] w fun z w' => z = .returned (.tuple #[.int .i64 v, .int .i64 e]) ∧ Below w.heap.size w w'
/-- Where a date stands where every month has thirty days. -/
def fp (y m d : Int) : Int := 360 * y + 30 * m + (if d = 31 then 30 else d)
theorem fp_bd {y m d : Int} (h : Valid y m d) : 391 ≤ fp y m d ∧ fp y m d ≤ 3600030 := by
  obtain ⟨a, b, c, e, f, g⟩ := h
  have := len_bd (leap y) m
  unfold fp
  split <;> omega
set_option maxRecDepth 20000 in
set_option maxHeartbeats 1000000 in
theorem real_no (n : Int) (h : n < 1 ∨ 3652059 < n) : Place 28 n 0 5 := by
  intro w
  have hT := hide (to_no n h)
  go_enter Try.func28, Try.ntmps28
  go_wp2_with fail
  refine (unhide hT _).mono ?_
  rintro e w1 ⟨rfl, hb1⟩
  replace hb1 := hide (below_via hb1 ((Below.refl w1.heap.size w1).alloc (Nat.le_refl _) (.cells #[.int .i64 0, .int .i64 0, .int .i64 0] 34)))
  go_wp2_with fail
  go_ret2
  exact ⟨rfl, unhide hb1⟩
set_option maxRecDepth 20000 in
set_option maxHeartbeats 1000000 in
theorem real_in (n y m d : Int) (hT : Hid (Tos n y m d 0)) : Place 28 n n 0 := by
  intro w
  go_enter Try.func28, Try.ntmps28
  go_wp2_with fail
  refine (unhide hT _).mono ?_
  rintro e w1 ⟨rfl, hb1⟩
  replace hb1 := hide (below_via hb1 ((Below.refl w1.heap.size w1).alloc (Nat.le_refl _) (.cells #[.int .i64 y, .int .i64 m, .int .i64 d] 34)))
  go_wp2_with fail
  go_ret2
  exact ⟨rfl, unhide hb1⟩
theorem real_ok (n : Int) (h1 : 1 ≤ n) (h2 : n ≤ 3652059) : Place 28 n n 0 := by
  obtain ⟨y, m, d, hv, rfl⟩ := date_of n h1 h2
  exact real_in _ y m d (hide (to_ok y m d hv))
set_option maxRecDepth 20000 in
set_option maxHeartbeats 1000000 in
theorem flat_no (n : Int) (h : n < 1 ∨ 3652059 < n) : Place 27 n 0 5 := by
  intro w
  have hT := hide (to_no n h)
  go_enter Try.func27, Try.ntmps27
  go_wp2_with fail
  refine (unhide hT _).mono ?_
  rintro e w1 ⟨rfl, hb1⟩
  replace hb1 := hide (below_via hb1 ((Below.refl w1.heap.size w1).alloc (Nat.le_refl _) (.cells #[.int .i64 0, .int .i64 0, .int .i64 0] 34)))
  go_wp2_with fail
  go_ret2
  exact ⟨rfl, unhide hb1⟩
set_option maxRecDepth 20000 in
set_option maxHeartbeats 1000000 in
theorem flat_31 (n y m : Int) (y1 : 1 ≤ y) (y2 : y ≤ 9999) (m1 : 1 ≤ m) (m2 : m ≤ 12) (hT : Hid (Tos n y m 31 0)) : Place 27 n (360 * y + 30 * m + 30) 0 := by
  intro w
  go_enter Try.func27, Try.ntmps27
  go_wp2_with fail
  refine (unhide hT _).mono ?_
  rintro e w1 ⟨rfl, hb1⟩
  replace hb1 := hide (below_via hb1 ((Below.refl w1.heap.size w1).alloc (Nat.le_refl _) (.cells #[.int .i64 y, .int .i64 m, .int .i64 31] 34)))
  go_wp2_with fail
  go_ret2
  exact ⟨rfl, unhide hb1⟩
set_option maxRecDepth 20000 in
set_option maxHeartbeats 1000000 in
theorem flat_30 (n y m d : Int) (y1 : 1 ≤ y) (y2 : y ≤ 9999) (m1 : 1 ≤ m) (m2 : m ≤ 12) (d1 : 1 ≤ d) (d2 : d ≤ 30) (hT : Hid (Tos n y m d 0)) : Place 27 n (360 * y + 30 * m + d) 0 := by
  intro w
  go_enter Try.func27, Try.ntmps27
  go_wp2_with fail
  refine (unhide hT _).mono ?_
  rintro e w1 ⟨rfl, hb1⟩
  replace hb1 := hide (below_via hb1 ((Below.refl w1.heap.size w1).alloc (Nat.le_refl _) (.cells #[.int .i64 y, .int .i64 m, .int .i64 d] 34)))
  go_wp2_with fail
  go_ret2
  exact ⟨rfl, unhide hb1⟩
theorem flat_ok {y m d : Int} (h : Valid y m d) : Place 27 (num y m d) (fp y m d) 0 := by
  have hT := hide (to_ok y m d h)
  obtain ⟨a, b, c, e, f, g⟩ := h
  have := len_bd (leap y) m
  unfold fp
  by_cases c31 : d = 31
  · rw [if_pos c31]
    subst c31
    exact flat_31 _ y m a b c e hT
  · rw [if_neg c31]
    exact flat_30 _ y m d a b c e f (by omega) hT
/-- Days answers. -/
def DaysA (a b way v e : Int) : Prop := ∀ w : World, Calls Try.prog 9 #[.int .i64 a, .int .i64 b, .int .i64 way] w fun z w' => z = .returned (.tuple #[.int .i64 v, .int .i64 e]) ∧ Below w.heap.size w w'
/-- Basis answers. -/
def BasisA (way v : Int) : Prop := ∀ w : World, Calls Try.prog 13 #[.int .i64 way] w fun z w' => z = .returned (.int .i64 v) ∧ Below w.heap.size w w'
set_option maxRecDepth 20000 in
theorem basis_1 : BasisA 1 360 := by
  intro w
  have hC := hide cnt_1
  go_enter Try.func13, Try.ntmps13
  go_wp2_with fail
  refine (unhide hC _).mono ?_
  rintro e w1 ⟨rfl, hb1⟩
  have hK := K3.new w1 (.int .i64 1) (.int .i64 360) (.func (.func 27) #[] #[])
  replace hb1 := hide (below_via hb1 ((Below.refl w1.heap.size w1).alloc (Nat.le_refl _) (.cells #[.int .i64 1, .int .i64 360, .func (.func 27) #[] #[]] 42)))
  replace hK := hide hK
  go_wp2_with fail
  go_ret
  exact ⟨rfl, unhide hb1⟩
set_option maxRecDepth 20000 in
theorem basis_2 : BasisA 2 360 := by
  intro w
  have hC := hide cnt_2
  go_enter Try.func13, Try.ntmps13
  go_wp2_with fail
  refine (unhide hC _).mono ?_
  rintro e w1 ⟨rfl, hb1⟩
  have hK := K3.new w1 (.int .i64 2) (.int .i64 360) (.func (.func 28) #[] #[])
  replace hb1 := hide (below_via hb1 ((Below.refl w1.heap.size w1).alloc (Nat.le_refl _) (.cells #[.int .i64 2, .int .i64 360, .func (.func 28) #[] #[]] 42)))
  replace hK := hide hK
  go_wp2_with fail
  go_ret
  exact ⟨rfl, unhide hb1⟩
set_option maxRecDepth 20000 in
theorem basis_3 : BasisA 3 365 := by
  intro w
  have hC := hide cnt_3
  go_enter Try.func13, Try.ntmps13
  go_wp2_with fail
  refine (unhide hC _).mono ?_
  rintro e w1 ⟨rfl, hb1⟩
  have hK := K3.new w1 (.int .i64 3) (.int .i64 365) (.func (.func 28) #[] #[])
  replace hb1 := hide (below_via hb1 ((Below.refl w1.heap.size w1).alloc (Nat.le_refl _) (.cells #[.int .i64 3, .int .i64 365, .func (.func 28) #[] #[]] 42)))
  replace hK := hide hK
  go_wp2_with fail
  go_ret
  exact ⟨rfl, unhide hb1⟩
set_option maxRecDepth 20000 in
theorem basis_0 (way : Int) (n1 : ((1 : Int) == way) = false) (n2 : ((2 : Int) == way) = false) (n3 : ((3 : Int) == way) = false) : BasisA way 0 := by
  intro w
  have hC := hide (cnt_0 way n1 n2 n3)
  go_enter Try.func13, Try.ntmps13
  go_wp2_with fail
  refine (unhide hC _).mono ?_
  rintro e w1 ⟨rfl, hb1⟩
  have hK := K3.new w1 (.int .i64 0) (.int .i64 0) (.nilFunc)
  replace hb1 := hide (below_via hb1 ((Below.refl w1.heap.size w1).alloc (Nat.le_refl _) (.cells #[.int .i64 0, .int .i64 0, .nilFunc] 42)))
  replace hK := hide hK
  go_wp2_with fail
  go_ret
  exact ⟨rfl, unhide hb1⟩
set_option maxRecDepth 20000 in
theorem days_0 (a b : Int) (way : Int) (n1 : ((1 : Int) == way) = false) (n2 : ((2 : Int) == way) = false) (n3 : ((3 : Int) == way) = false) : DaysA a b way 0 2 := by
  intro w
  have hC := hide (cnt_0 way n1 n2 n3)
  go_enter Try.func9, Try.ntmps9
  go_wp2_with fail
  refine (unhide hC _).mono ?_
  rintro e w1 ⟨rfl, hb1⟩
  have hK := K3.new w1 (.int .i64 0) (.int .i64 0) (.nilFunc)
  replace hb1 := hide (below_via hb1 ((Below.refl w1.heap.size w1).alloc (Nat.le_refl _) (.cells #[.int .i64 0, .int .i64 0, .nilFunc] 42)))
  replace hK := hide hK
  go_wp2_with fail
  go_ret2
  exact ⟨rfl, unhide hb1⟩
set_option maxRecDepth 20000 in
theorem days_1a (a b : Int) (hA : Hid (Place 27 a 0 5)) : DaysA a b 1 0 5 := by
  intro w
  have hC := hide cnt_1
  go_enter Try.func9, Try.ntmps9
  go_wp2_with fail
  refine (unhide hC _).mono ?_
  rintro e w1 ⟨rfl, hb1⟩
  have hK := K3.new w1 (.int .i64 1) (.int .i64 360) (.func (.func 27) #[] #[])
  replace hb1 := hide (below_via hb1 ((Below.refl w1.heap.size w1).alloc (Nat.le_refl _) (.cells #[.int .i64 1, .int .i64 360, .func (.func 27) #[] #[]] 42)))
  replace hK := hide hK
  go_wp2_with fail
  generalize w1.alloc (.cells #[.int .i64 1, .int .i64 360, .func (.func 27) #[] #[]] 42) = W1 at hK hb1 ⊢
  refine (unhide hA _).mono ?_
  rintro e w2 ⟨rfl, hb⟩
  replace hK := hide ((unhide hK).keep hb (unhide hK).lt)
  replace hb1 := hide (below_via (unhide hb1) hb)
  clear hb
  go_wp2_with fail
  go_ret2
  exact ⟨rfl, unhide hb1⟩
set_option maxRecDepth 20000 in
theorem days_1b (a b v : Int) (hA : Hid (Place 27 a v 0)) (hB : Hid (Place 27 b 0 5)) : DaysA a b 1 0 5 := by
  intro w
  have hC := hide cnt_1
  go_enter Try.func9, Try.ntmps9
  go_wp2_with fail
  refine (unhide hC _).mono ?_
  rintro e w1 ⟨rfl, hb1⟩
  have hK := K3.new w1 (.int .i64 1) (.int .i64 360) (.func (.func 27) #[] #[])
  replace hb1 := hide (below_via hb1 ((Below.refl w1.heap.size w1).alloc (Nat.le_refl _) (.cells #[.int .i64 1, .int .i64 360, .func (.func 27) #[] #[]] 42)))
  replace hK := hide hK
  go_wp2_with fail
  generalize w1.alloc (.cells #[.int .i64 1, .int .i64 360, .func (.func 27) #[] #[]] 42) = W1 at hK hb1 ⊢
  refine (unhide hA _).mono ?_
  rintro e w2 ⟨rfl, hb⟩
  replace hK := hide ((unhide hK).keep hb (unhide hK).lt)
  replace hb1 := hide (below_via (unhide hb1) hb)
  clear hb
  have c2 := (unhide hK).c2
  go_wp2_with fail
  refine (unhide hB _).mono ?_
  rintro e w3 ⟨rfl, hb⟩
  replace hK := hide ((unhide hK).keep hb (unhide hK).lt)
  replace hb1 := hide (below_via (unhide hb1) hb)
  clear hb
  go_wp2_with fail
  go_ret2
  exact ⟨rfl, unhide hb1⟩
set_option maxRecDepth 20000 in
theorem days_1 (a b v u : Int) (v1 : 1 ≤ v) (v2 : v ≤ 4000000) (u1 : 1 ≤ u) (u2 : u ≤ 4000000) (hA : Hid (Place 27 a v 0)) (hB : Hid (Place 27 b u 0)) : DaysA a b 1 (u - v) 0 := by
  intro w
  have hC := hide cnt_1
  go_enter Try.func9, Try.ntmps9
  go_wp2_with fail
  refine (unhide hC _).mono ?_
  rintro e w1 ⟨rfl, hb1⟩
  have hK := K3.new w1 (.int .i64 1) (.int .i64 360) (.func (.func 27) #[] #[])
  replace hb1 := hide (below_via hb1 ((Below.refl w1.heap.size w1).alloc (Nat.le_refl _) (.cells #[.int .i64 1, .int .i64 360, .func (.func 27) #[] #[]] 42)))
  replace hK := hide hK
  go_wp2_with fail
  generalize w1.alloc (.cells #[.int .i64 1, .int .i64 360, .func (.func 27) #[] #[]] 42) = W1 at hK hb1 ⊢
  refine (unhide hA _).mono ?_
  rintro e w2 ⟨rfl, hb⟩
  replace hK := hide ((unhide hK).keep hb (unhide hK).lt)
  replace hb1 := hide (below_via (unhide hb1) hb)
  clear hb
  have c2 := (unhide hK).c2
  go_wp2_with fail
  refine (unhide hB _).mono ?_
  rintro e w3 ⟨rfl, hb⟩
  replace hK := hide ((unhide hK).keep hb (unhide hK).lt)
  replace hb1 := hide (below_via (unhide hb1) hb)
  clear hb
  go_wp2_with fail
  go_ret2
  exact ⟨rfl, unhide hb1⟩
set_option maxRecDepth 20000 in
theorem days_2a (a b : Int) (hA : Hid (Place 28 a 0 5)) : DaysA a b 2 0 5 := by
  intro w
  have hC := hide cnt_2
  go_enter Try.func9, Try.ntmps9
  go_wp2_with fail
  refine (unhide hC _).mono ?_
  rintro e w1 ⟨rfl, hb1⟩
  have hK := K3.new w1 (.int .i64 2) (.int .i64 360) (.func (.func 28) #[] #[])
  replace hb1 := hide (below_via hb1 ((Below.refl w1.heap.size w1).alloc (Nat.le_refl _) (.cells #[.int .i64 2, .int .i64 360, .func (.func 28) #[] #[]] 42)))
  replace hK := hide hK
  go_wp2_with fail
  generalize w1.alloc (.cells #[.int .i64 2, .int .i64 360, .func (.func 28) #[] #[]] 42) = W1 at hK hb1 ⊢
  refine (unhide hA _).mono ?_
  rintro e w2 ⟨rfl, hb⟩
  replace hK := hide ((unhide hK).keep hb (unhide hK).lt)
  replace hb1 := hide (below_via (unhide hb1) hb)
  clear hb
  go_wp2_with fail
  go_ret2
  exact ⟨rfl, unhide hb1⟩
set_option maxRecDepth 20000 in
theorem days_2b (a b v : Int) (hA : Hid (Place 28 a v 0)) (hB : Hid (Place 28 b 0 5)) : DaysA a b 2 0 5 := by
  intro w
  have hC := hide cnt_2
  go_enter Try.func9, Try.ntmps9
  go_wp2_with fail
  refine (unhide hC _).mono ?_
  rintro e w1 ⟨rfl, hb1⟩
  have hK := K3.new w1 (.int .i64 2) (.int .i64 360) (.func (.func 28) #[] #[])
  replace hb1 := hide (below_via hb1 ((Below.refl w1.heap.size w1).alloc (Nat.le_refl _) (.cells #[.int .i64 2, .int .i64 360, .func (.func 28) #[] #[]] 42)))
  replace hK := hide hK
  go_wp2_with fail
  generalize w1.alloc (.cells #[.int .i64 2, .int .i64 360, .func (.func 28) #[] #[]] 42) = W1 at hK hb1 ⊢
  refine (unhide hA _).mono ?_
  rintro e w2 ⟨rfl, hb⟩
  replace hK := hide ((unhide hK).keep hb (unhide hK).lt)
  replace hb1 := hide (below_via (unhide hb1) hb)
  clear hb
  have c2 := (unhide hK).c2
  go_wp2_with fail
  refine (unhide hB _).mono ?_
  rintro e w3 ⟨rfl, hb⟩
  replace hK := hide ((unhide hK).keep hb (unhide hK).lt)
  replace hb1 := hide (below_via (unhide hb1) hb)
  clear hb
  go_wp2_with fail
  go_ret2
  exact ⟨rfl, unhide hb1⟩
set_option maxRecDepth 20000 in
theorem days_2 (a b v u : Int) (v1 : 1 ≤ v) (v2 : v ≤ 4000000) (u1 : 1 ≤ u) (u2 : u ≤ 4000000) (hA : Hid (Place 28 a v 0)) (hB : Hid (Place 28 b u 0)) : DaysA a b 2 (u - v) 0 := by
  intro w
  have hC := hide cnt_2
  go_enter Try.func9, Try.ntmps9
  go_wp2_with fail
  refine (unhide hC _).mono ?_
  rintro e w1 ⟨rfl, hb1⟩
  have hK := K3.new w1 (.int .i64 2) (.int .i64 360) (.func (.func 28) #[] #[])
  replace hb1 := hide (below_via hb1 ((Below.refl w1.heap.size w1).alloc (Nat.le_refl _) (.cells #[.int .i64 2, .int .i64 360, .func (.func 28) #[] #[]] 42)))
  replace hK := hide hK
  go_wp2_with fail
  generalize w1.alloc (.cells #[.int .i64 2, .int .i64 360, .func (.func 28) #[] #[]] 42) = W1 at hK hb1 ⊢
  refine (unhide hA _).mono ?_
  rintro e w2 ⟨rfl, hb⟩
  replace hK := hide ((unhide hK).keep hb (unhide hK).lt)
  replace hb1 := hide (below_via (unhide hb1) hb)
  clear hb
  have c2 := (unhide hK).c2
  go_wp2_with fail
  refine (unhide hB _).mono ?_
  rintro e w3 ⟨rfl, hb⟩
  replace hK := hide ((unhide hK).keep hb (unhide hK).lt)
  replace hb1 := hide (below_via (unhide hb1) hb)
  clear hb
  go_wp2_with fail
  go_ret2
  exact ⟨rfl, unhide hb1⟩
set_option maxRecDepth 20000 in
theorem days_3a (a b : Int) (hA : Hid (Place 28 a 0 5)) : DaysA a b 3 0 5 := by
  intro w
  have hC := hide cnt_3
  go_enter Try.func9, Try.ntmps9
  go_wp2_with fail
  refine (unhide hC _).mono ?_
  rintro e w1 ⟨rfl, hb1⟩
  have hK := K3.new w1 (.int .i64 3) (.int .i64 365) (.func (.func 28) #[] #[])
  replace hb1 := hide (below_via hb1 ((Below.refl w1.heap.size w1).alloc (Nat.le_refl _) (.cells #[.int .i64 3, .int .i64 365, .func (.func 28) #[] #[]] 42)))
  replace hK := hide hK
  go_wp2_with fail
  generalize w1.alloc (.cells #[.int .i64 3, .int .i64 365, .func (.func 28) #[] #[]] 42) = W1 at hK hb1 ⊢
  refine (unhide hA _).mono ?_
  rintro e w2 ⟨rfl, hb⟩
  replace hK := hide ((unhide hK).keep hb (unhide hK).lt)
  replace hb1 := hide (below_via (unhide hb1) hb)
  clear hb
  go_wp2_with fail
  go_ret2
  exact ⟨rfl, unhide hb1⟩
set_option maxRecDepth 20000 in
theorem days_3b (a b v : Int) (hA : Hid (Place 28 a v 0)) (hB : Hid (Place 28 b 0 5)) : DaysA a b 3 0 5 := by
  intro w
  have hC := hide cnt_3
  go_enter Try.func9, Try.ntmps9
  go_wp2_with fail
  refine (unhide hC _).mono ?_
  rintro e w1 ⟨rfl, hb1⟩
  have hK := K3.new w1 (.int .i64 3) (.int .i64 365) (.func (.func 28) #[] #[])
  replace hb1 := hide (below_via hb1 ((Below.refl w1.heap.size w1).alloc (Nat.le_refl _) (.cells #[.int .i64 3, .int .i64 365, .func (.func 28) #[] #[]] 42)))
  replace hK := hide hK
  go_wp2_with fail
  generalize w1.alloc (.cells #[.int .i64 3, .int .i64 365, .func (.func 28) #[] #[]] 42) = W1 at hK hb1 ⊢
  refine (unhide hA _).mono ?_
  rintro e w2 ⟨rfl, hb⟩
  replace hK := hide ((unhide hK).keep hb (unhide hK).lt)
  replace hb1 := hide (below_via (unhide hb1) hb)
  clear hb
  have c2 := (unhide hK).c2
  go_wp2_with fail
  refine (unhide hB _).mono ?_
  rintro e w3 ⟨rfl, hb⟩
  replace hK := hide ((unhide hK).keep hb (unhide hK).lt)
  replace hb1 := hide (below_via (unhide hb1) hb)
  clear hb
  go_wp2_with fail
  go_ret2
  exact ⟨rfl, unhide hb1⟩
set_option maxRecDepth 20000 in
theorem days_3 (a b v u : Int) (v1 : 1 ≤ v) (v2 : v ≤ 4000000) (u1 : 1 ≤ u) (u2 : u ≤ 4000000) (hA : Hid (Place 28 a v 0)) (hB : Hid (Place 28 b u 0)) : DaysA a b 3 (u - v) 0 := by
  intro w
  have hC := hide cnt_3
  go_enter Try.func9, Try.ntmps9
  go_wp2_with fail
  refine (unhide hC _).mono ?_
  rintro e w1 ⟨rfl, hb1⟩
  have hK := K3.new w1 (.int .i64 3) (.int .i64 365) (.func (.func 28) #[] #[])
  replace hb1 := hide (below_via hb1 ((Below.refl w1.heap.size w1).alloc (Nat.le_refl _) (.cells #[.int .i64 3, .int .i64 365, .func (.func 28) #[] #[]] 42)))
  replace hK := hide hK
  go_wp2_with fail
  generalize w1.alloc (.cells #[.int .i64 3, .int .i64 365, .func (.func 28) #[] #[]] 42) = W1 at hK hb1 ⊢
  refine (unhide hA _).mono ?_
  rintro e w2 ⟨rfl, hb⟩
  replace hK := hide ((unhide hK).keep hb (unhide hK).lt)
  replace hb1 := hide (below_via (unhide hb1) hb)
  clear hb
  have c2 := (unhide hK).c2
  go_wp2_with fail
  refine (unhide hB _).mono ?_
  rintro e w3 ⟨rfl, hb⟩
  replace hK := hide ((unhide hK).keep hb (unhide hK).lt)
  replace hb1 := hide (below_via (unhide hb1) hb)
  clear hb
  go_wp2_with fail
  go_ret2
  exact ⟨rfl, unhide hb1⟩
end Go.Proofs.Ythlakemoiicdfaa
