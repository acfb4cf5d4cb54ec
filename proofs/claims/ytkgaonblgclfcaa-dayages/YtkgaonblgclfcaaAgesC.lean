/- Walks for DayAges: 400 years on a date is 146097 days on, of the same weekday; a year has 365 or 366 days; later dates have greater numbers. -/
import Derived.Test.YtkgaonblgclfcaaAgesW
import Derived.WalkKit
import Derived.WalkSpells
import Derived.Lib.SmallJoins
import Derived.ProofKit
import Derived.OpenShut
import Derived.ShutString
import Derived.ChangeOld
import Derived.Below
namespace Go.Proofs.Ytkgaonblgclfcaa.dayAges
open Go.ChangeShapes Go.WideShapes Go.ChangeAt Go.RowKit
set_option linter.unusedSimpArgs false
set_option maxRecDepth 20000 in
set_option maxHeartbeats 4000000 in
theorem go_5y (y m d p q r : Int) (n k F Z a : Int) (B L : Bool) (w : World) (t1 : decide (y < p) = false) (t2 : (p == y) = true) (t3 : decide (m < q) = false) (t4 : (q == m) = true) (t5 : decide (d < r) = true) (h1 : Hid (Froms y m d n 0)) (h2 : Hid (Froms p q r k 0)) (hq : ∀ w, (binOp .eql 23 (.agg #[.int .i64 y, .int .i64 m, .int .i64 d]) (.agg #[.int .i64 p, .int .i64 q, .int .i64 r])).run Try.prog w = .ok (.bool B) w) (s1 : decide (n < k) = true) (s2 : (k == n) = B) (y1 : 1 ≤ y) (y2 : y ≤ 9999) (n1 : 1 ≤ n) (n2 : n ≤ 3652059) (h5 : Hid (Froms y 1 1 F 0)) (h6 : Hid (Froms y 12 31 Z 0)) (hL : Hid (Q 15 #[.int .i64 y] (.bool L))) (z1 : (wrap64 (Z - F) == 365) = L) (z2 : (wrap64 (Z - F) == 364) = !L) (ag : decide (y + 400 ≤ 9999) = true) (h3 : Hid (Froms (y + 400) m d (n + 146097) 0)) (hw : Hid (Q 13 #[.int .i64 n] (.int .i64 a))) (hw2 : Hid (Q 13 #[.int .i64 (n + 146097)] (.int .i64 a))) : Good y m d p q r w := by
  unfold Good
  have hal := hide alive_any
  go_enter Try.func6, Try.ntmps6
  go_wp2_with fail
  have A1 := (R3.new w y m d).alloc (.cells #[.int .i64 p, .int .i64 q, .int .i64 r] 23)
  have A2 := R3.new (w.alloc (.cells #[.int .i64 y, .int .i64 m, .int .i64 d] 23)) p q r
  rw [show (w.alloc (.cells #[.int .i64 y, .int .i64 m, .int .i64 d] 23)).heap.size = w.heap.size + 1 from by simp] at A2
  have A3 := ((Below.refl w.heap.size w).alloc (Nat.le_refl _) (.cells #[.int .i64 y, .int .i64 m, .int .i64 d] 23)).alloc (by simp) (.cells #[.int .i64 p, .int .i64 q, .int .i64 r] 23)
  generalize (w.alloc (.cells #[.int .i64 y, .int .i64 m, .int .i64 d] 23)).alloc (.cells #[.int .i64 p, .int .i64 q, .int .i64 r] 23) = W at A1 A2 A3 ⊢
  refine (unhide hal _).mono ?_
  rintro e w1 ⟨rfl, hb1⟩
  replace A1 := A1.keep hb1 A1.lt
  replace A2 := A2.keep hb1 A2.lt
  replace A3 := hide (below_via A3 hb1)
  clear hb1 hal
  have c0 := A1.c0
  have c1 := A1.c1
  have c2 := A1.c2
  have g0 := A2.c0
  have g1 := A2.c1
  have g2 := A2.c2
  have A1' := hide A1
  have A2' := hide A2
  clear A1 A2
  go_wp2_with fail
  clear c0 c1 c2 g0 g1 g2
  have A1 := unhide A1'
  have A2 := unhide A2'
  clear A1' A2'
  refine (unhide h1 _).mono ?_
  rintro e w2 ⟨rfl, hb2⟩
  replace A1 := A1.keep hb2 A1.lt
  replace A2 := A2.keep hb2 A2.lt
  replace A3 := hide (below_via (unhide A3) hb2)
  clear hb2
  have c0 := A1.c0
  have c1 := A1.c1
  have c2 := A1.c2
  have g0 := A2.c0
  have g1 := A2.c1
  have g2 := A2.c2
  have A1' := hide A1
  have A2' := hide A2
  clear A1 A2
  go_wp2_with fail
  clear c0 c1 c2 g0 g1 g2
  have A1 := unhide A1'
  have A2 := unhide A2'
  clear A1' A2'
  refine (unhide h2 _).mono ?_
  rintro e w3 ⟨rfl, hb3⟩
  replace A1 := A1.keep hb3 A1.lt
  replace A2 := A2.keep hb3 A2.lt
  replace A3 := hide (below_via (unhide A3) hb3)
  clear hb3
  have D1 := A1.alloc (.cells #[.int .i64 (y + 400), .int .i64 m, .int .i64 d] 23)
  have D2 := A2.alloc (.cells #[.int .i64 (y + 400), .int .i64 m, .int .i64 d] 23)
  have D3 := hide (below_via (unhide A3) ((Below.refl w3.heap.size w3).alloc (Nat.le_refl _) (.cells #[.int .i64 (y + 400), .int .i64 m, .int .i64 d] 23)))
  have e0 := D1.c0
  have e1 := D1.c1
  have e2 := D1.c2
  replace D1 := hide D1
  replace D2 := hide D2
  have c0 := A1.c0
  have c1 := A1.c1
  have c2 := A1.c2
  have g0 := A2.c0
  have g1 := A2.c1
  have g2 := A2.c2
  have A1' := hide A1
  have A2' := hide A2
  clear A1 A2
  go_wp2_with (rw [build3])
  clear c0 c1 c2 g0 g1 g2 e0 e1 e2 A1' A2' A3
  have A1 := unhide D1
  have A2 := unhide D2
  have A3 := D3
  clear D1 D2 D3
  generalize w3.alloc (.cells #[.int .i64 (y + 400), .int .i64 m, .int .i64 d] 23) = w4 at A1 A2 A3 ⊢
  refine (unhide h3 _).mono ?_
  rintro e w5 ⟨rfl, hb5⟩
  replace A1 := A1.keep hb5 A1.lt
  replace A2 := A2.keep hb5 A2.lt
  replace A3 := hide (below_via (unhide A3) hb5)
  clear hb5
  have c0 := A1.c0
  have c1 := A1.c1
  have c2 := A1.c2
  have g0 := A2.c0
  have g1 := A2.c1
  have g2 := A2.c2
  have A1' := hide A1
  have A2' := hide A2
  clear A1 A2
  go_wp2_with fail
  refine (unhide hw2 _).mono ?_
  rintro e w6 ⟨rfl, rfl⟩
  go_wp2_with fail
  refine (unhide hw _).mono ?_
  rintro e w6 ⟨rfl, rfl⟩
  go_wp2_with (rw [build3])
  clear c0 c1 c2 g0 g1 g2
  have A1 := unhide A1'
  have A2 := unhide A2'
  clear A1' A2'
  refine (unhide h5 _).mono ?_
  rintro e w7 ⟨rfl, hb7⟩
  replace A1 := A1.keep hb7 A1.lt
  replace A2 := A2.keep hb7 A2.lt
  replace A3 := hide (below_via (unhide A3) hb7)
  clear hb7
  have c0 := A1.c0
  have c1 := A1.c1
  have c2 := A1.c2
  have g0 := A2.c0
  have g1 := A2.c1
  have g2 := A2.c2
  have A1' := hide A1
  have A2' := hide A2
  clear A1 A2
  go_wp2_with (rw [build3])
  clear c0 c1 c2 g0 g1 g2
  have A1 := unhide A1'
  have A2 := unhide A2'
  clear A1' A2'
  refine (unhide h6 _).mono ?_
  rintro e w8 ⟨rfl, hb8⟩
  replace A1 := A1.keep hb8 A1.lt
  replace A2 := A2.keep hb8 A2.lt
  replace A3 := hide (below_via (unhide A3) hb8)
  clear hb8
  have c0 := A1.c0
  have c1 := A1.c1
  have c2 := A1.c2
  have g0 := A2.c0
  have g1 := A2.c1
  have g2 := A2.c2
  have A1' := hide A1
  have A2' := hide A2
  clear A1 A2
  go_wp2_with fail
  refine (unhide hL _).mono ?_
  rintro e w9 ⟨rfl, rfl⟩
  go_wp2_with fail
  refine (unhide hL _).mono ?_
  rintro e w9 ⟨rfl, rfl⟩
  go_wp2_with fail
  go_ret
  exact ⟨by simp, unhide A3⟩
set_option maxRecDepth 20000 in
set_option maxHeartbeats 4000000 in
theorem go_5n (y m d p q r : Int) (n k F Z : Int) (B L : Bool) (w : World) (t1 : decide (y < p) = false) (t2 : (p == y) = true) (t3 : decide (m < q) = false) (t4 : (q == m) = true) (t5 : decide (d < r) = true) (h1 : Hid (Froms y m d n 0)) (h2 : Hid (Froms p q r k 0)) (hq : ∀ w, (binOp .eql 23 (.agg #[.int .i64 y, .int .i64 m, .int .i64 d]) (.agg #[.int .i64 p, .int .i64 q, .int .i64 r])).run Try.prog w = .ok (.bool B) w) (s1 : decide (n < k) = true) (s2 : (k == n) = B) (y1 : 1 ≤ y) (y2 : y ≤ 9999) (_n1 : 1 ≤ n) (_n2 : n ≤ 3652059) (h5 : Hid (Froms y 1 1 F 0)) (h6 : Hid (Froms y 12 31 Z 0)) (hL : Hid (Q 15 #[.int .i64 y] (.bool L))) (z1 : (wrap64 (Z - F) == 365) = L) (z2 : (wrap64 (Z - F) == 364) = !L) (ag : decide (y + 400 ≤ 9999) = false) : Good y m d p q r w := by
  unfold Good
  have hal := hide alive_any
  go_enter Try.func6, Try.ntmps6
  go_wp2_with fail
  have A1 := (R3.new w y m d).alloc (.cells #[.int .i64 p, .int .i64 q, .int .i64 r] 23)
  have A2 := R3.new (w.alloc (.cells #[.int .i64 y, .int .i64 m, .int .i64 d] 23)) p q r
  rw [show (w.alloc (.cells #[.int .i64 y, .int .i64 m, .int .i64 d] 23)).heap.size = w.heap.size + 1 from by simp] at A2
  have A3 := ((Below.refl w.heap.size w).alloc (Nat.le_refl _) (.cells #[.int .i64 y, .int .i64 m, .int .i64 d] 23)).alloc (by simp) (.cells #[.int .i64 p, .int .i64 q, .int .i64 r] 23)
  generalize (w.alloc (.cells #[.int .i64 y, .int .i64 m, .int .i64 d] 23)).alloc (.cells #[.int .i64 p, .int .i64 q, .int .i64 r] 23) = W at A1 A2 A3 ⊢
  refine (unhide hal _).mono ?_
  rintro e w1 ⟨rfl, hb1⟩
  replace A1 := A1.keep hb1 A1.lt
  replace A2 := A2.keep hb1 A2.lt
  replace A3 := hide (below_via A3 hb1)
  clear hb1 hal
  have c0 := A1.c0
  have c1 := A1.c1
  have c2 := A1.c2
  have g0 := A2.c0
  have g1 := A2.c1
  have g2 := A2.c2
  have A1' := hide A1
  have A2' := hide A2
  clear A1 A2
  go_wp2_with fail
  clear c0 c1 c2 g0 g1 g2
  have A1 := unhide A1'
  have A2 := unhide A2'
  clear A1' A2'
  refine (unhide h1 _).mono ?_
  rintro e w2 ⟨rfl, hb2⟩
  replace A1 := A1.keep hb2 A1.lt
  replace A2 := A2.keep hb2 A2.lt
  replace A3 := hide (below_via (unhide A3) hb2)
  clear hb2
  have c0 := A1.c0
  have c1 := A1.c1
  have c2 := A1.c2
  have g0 := A2.c0
  have g1 := A2.c1
  have g2 := A2.c2
  have A1' := hide A1
  have A2' := hide A2
  clear A1 A2
  go_wp2_with fail
  clear c0 c1 c2 g0 g1 g2
  have A1 := unhide A1'
  have A2 := unhide A2'
  clear A1' A2'
  refine (unhide h2 _).mono ?_
  rintro e w3 ⟨rfl, hb3⟩
  replace A1 := A1.keep hb3 A1.lt
  replace A2 := A2.keep hb3 A2.lt
  replace A3 := hide (below_via (unhide A3) hb3)
  clear hb3
  have D1 := A1.alloc (.cells #[.int .i64 (y + 400), .int .i64 m, .int .i64 d] 23)
  have D2 := A2.alloc (.cells #[.int .i64 (y + 400), .int .i64 m, .int .i64 d] 23)
  have D3 := hide (below_via (unhide A3) ((Below.refl w3.heap.size w3).alloc (Nat.le_refl _) (.cells #[.int .i64 (y + 400), .int .i64 m, .int .i64 d] 23)))
  have e0 := D1.c0
  have e1 := D1.c1
  have e2 := D1.c2
  replace D1 := hide D1
  replace D2 := hide D2
  have c0 := A1.c0
  have c1 := A1.c1
  have c2 := A1.c2
  have g0 := A2.c0
  have g1 := A2.c1
  have g2 := A2.c2
  have A1' := hide A1
  have A2' := hide A2
  clear A1 A2
  go_wp2_with (rw [build3])
  clear c0 c1 c2 g0 g1 g2 e0 e1 e2 A1' A2' A3
  have A1 := unhide D1
  have A2 := unhide D2
  have A3 := D3
  clear D1 D2 D3
  generalize w3.alloc (.cells #[.int .i64 (y + 400), .int .i64 m, .int .i64 d] 23) = w4 at A1 A2 A3 ⊢
  refine (unhide h5 _).mono ?_
  rintro e w7 ⟨rfl, hb7⟩
  replace A1 := A1.keep hb7 A1.lt
  replace A2 := A2.keep hb7 A2.lt
  replace A3 := hide (below_via (unhide A3) hb7)
  clear hb7
  have c0 := A1.c0
  have c1 := A1.c1
  have c2 := A1.c2
  have g0 := A2.c0
  have g1 := A2.c1
  have g2 := A2.c2
  have A1' := hide A1
  have A2' := hide A2
  clear A1 A2
  go_wp2_with (rw [build3])
  clear c0 c1 c2 g0 g1 g2
  have A1 := unhide A1'
  have A2 := unhide A2'
  clear A1' A2'
  refine (unhide h6 _).mono ?_
  rintro e w8 ⟨rfl, hb8⟩
  replace A1 := A1.keep hb8 A1.lt
  replace A2 := A2.keep hb8 A2.lt
  replace A3 := hide (below_via (unhide A3) hb8)
  clear hb8
  have c0 := A1.c0
  have c1 := A1.c1
  have c2 := A1.c2
  have g0 := A2.c0
  have g1 := A2.c1
  have g2 := A2.c2
  have A1' := hide A1
  have A2' := hide A2
  clear A1 A2
  go_wp2_with fail
  refine (unhide hL _).mono ?_
  rintro e w9 ⟨rfl, rfl⟩
  go_wp2_with fail
  refine (unhide hL _).mono ?_
  rintro e w9 ⟨rfl, rfl⟩
  go_wp2_with fail
  go_ret
  exact ⟨by simp, unhide A3⟩
set_option maxRecDepth 20000 in
set_option maxHeartbeats 4000000 in
theorem go_6y (y m d p q r : Int) (n k F Z a : Int) (B L : Bool) (w : World) (t1 : decide (y < p) = false) (t2 : (p == y) = true) (t3 : decide (m < q) = false) (t4 : (q == m) = true) (t5 : decide (d < r) = false) (h1 : Hid (Froms y m d n 0)) (h2 : Hid (Froms p q r k 0)) (hq : ∀ w, (binOp .eql 23 (.agg #[.int .i64 y, .int .i64 m, .int .i64 d]) (.agg #[.int .i64 p, .int .i64 q, .int .i64 r])).run Try.prog w = .ok (.bool B) w) (s1 : decide (n < k) = false) (s2 : (k == n) = B) (y1 : 1 ≤ y) (y2 : y ≤ 9999) (n1 : 1 ≤ n) (n2 : n ≤ 3652059) (h5 : Hid (Froms y 1 1 F 0)) (h6 : Hid (Froms y 12 31 Z 0)) (hL : Hid (Q 15 #[.int .i64 y] (.bool L))) (z1 : (wrap64 (Z - F) == 365) = L) (z2 : (wrap64 (Z - F) == 364) = !L) (ag : decide (y + 400 ≤ 9999) = true) (h3 : Hid (Froms (y + 400) m d (n + 146097) 0)) (hw : Hid (Q 13 #[.int .i64 n] (.int .i64 a))) (hw2 : Hid (Q 13 #[.int .i64 (n + 146097)] (.int .i64 a))) : Good y m d p q r w := by
  unfold Good
  have hal := hide alive_any
  go_enter Try.func6, Try.ntmps6
  go_wp2_with fail
  have A1 := (R3.new w y m d).alloc (.cells #[.int .i64 p, .int .i64 q, .int .i64 r] 23)
  have A2 := R3.new (w.alloc (.cells #[.int .i64 y, .int .i64 m, .int .i64 d] 23)) p q r
  rw [show (w.alloc (.cells #[.int .i64 y, .int .i64 m, .int .i64 d] 23)).heap.size = w.heap.size + 1 from by simp] at A2
  have A3 := ((Below.refl w.heap.size w).alloc (Nat.le_refl _) (.cells #[.int .i64 y, .int .i64 m, .int .i64 d] 23)).alloc (by simp) (.cells #[.int .i64 p, .int .i64 q, .int .i64 r] 23)
  generalize (w.alloc (.cells #[.int .i64 y, .int .i64 m, .int .i64 d] 23)).alloc (.cells #[.int .i64 p, .int .i64 q, .int .i64 r] 23) = W at A1 A2 A3 ⊢
  refine (unhide hal _).mono ?_
  rintro e w1 ⟨rfl, hb1⟩
  replace A1 := A1.keep hb1 A1.lt
  replace A2 := A2.keep hb1 A2.lt
  replace A3 := hide (below_via A3 hb1)
  clear hb1 hal
  have c0 := A1.c0
  have c1 := A1.c1
  have c2 := A1.c2
  have g0 := A2.c0
  have g1 := A2.c1
  have g2 := A2.c2
  have A1' := hide A1
  have A2' := hide A2
  clear A1 A2
  go_wp2_with fail
  clear c0 c1 c2 g0 g1 g2
  have A1 := unhide A1'
  have A2 := unhide A2'
  clear A1' A2'
  refine (unhide h1 _).mono ?_
  rintro e w2 ⟨rfl, hb2⟩
  replace A1 := A1.keep hb2 A1.lt
  replace A2 := A2.keep hb2 A2.lt
  replace A3 := hide (below_via (unhide A3) hb2)
  clear hb2
  have c0 := A1.c0
  have c1 := A1.c1
  have c2 := A1.c2
  have g0 := A2.c0
  have g1 := A2.c1
  have g2 := A2.c2
  have A1' := hide A1
  have A2' := hide A2
  clear A1 A2
  go_wp2_with fail
  clear c0 c1 c2 g0 g1 g2
  have A1 := unhide A1'
  have A2 := unhide A2'
  clear A1' A2'
  refine (unhide h2 _).mono ?_
  rintro e w3 ⟨rfl, hb3⟩
  replace A1 := A1.keep hb3 A1.lt
  replace A2 := A2.keep hb3 A2.lt
  replace A3 := hide (below_via (unhide A3) hb3)
  clear hb3
  have D1 := A1.alloc (.cells #[.int .i64 (y + 400), .int .i64 m, .int .i64 d] 23)
  have D2 := A2.alloc (.cells #[.int .i64 (y + 400), .int .i64 m, .int .i64 d] 23)
  have D3 := hide (below_via (unhide A3) ((Below.refl w3.heap.size w3).alloc (Nat.le_refl _) (.cells #[.int .i64 (y + 400), .int .i64 m, .int .i64 d] 23)))
  have e0 := D1.c0
  have e1 := D1.c1
  have e2 := D1.c2
  replace D1 := hide D1
  replace D2 := hide D2
  have c0 := A1.c0
  have c1 := A1.c1
  have c2 := A1.c2
  have g0 := A2.c0
  have g1 := A2.c1
  have g2 := A2.c2
  have A1' := hide A1
  have A2' := hide A2
  clear A1 A2
  go_wp2_with (rw [build3])
  clear c0 c1 c2 g0 g1 g2 e0 e1 e2 A1' A2' A3
  have A1 := unhide D1
  have A2 := unhide D2
  have A3 := D3
  clear D1 D2 D3
  generalize w3.alloc (.cells #[.int .i64 (y + 400), .int .i64 m, .int .i64 d] 23) = w4 at A1 A2 A3 ⊢
  refine (unhide h3 _).mono ?_
  rintro e w5 ⟨rfl, hb5⟩
  replace A1 := A1.keep hb5 A1.lt
  replace A2 := A2.keep hb5 A2.lt
  replace A3 := hide (below_via (unhide A3) hb5)
  clear hb5
  have c0 := A1.c0
  have c1 := A1.c1
  have c2 := A1.c2
  have g0 := A2.c0
  have g1 := A2.c1
  have g2 := A2.c2
  have A1' := hide A1
  have A2' := hide A2
  clear A1 A2
  go_wp2_with fail
  refine (unhide hw2 _).mono ?_
  rintro e w6 ⟨rfl, rfl⟩
  go_wp2_with fail
  refine (unhide hw _).mono ?_
  rintro e w6 ⟨rfl, rfl⟩
  go_wp2_with (rw [build3])
  clear c0 c1 c2 g0 g1 g2
  have A1 := unhide A1'
  have A2 := unhide A2'
  clear A1' A2'
  refine (unhide h5 _).mono ?_
  rintro e w7 ⟨rfl, hb7⟩
  replace A1 := A1.keep hb7 A1.lt
  replace A2 := A2.keep hb7 A2.lt
  replace A3 := hide (below_via (unhide A3) hb7)
  clear hb7
  have c0 := A1.c0
  have c1 := A1.c1
  have c2 := A1.c2
  have g0 := A2.c0
  have g1 := A2.c1
  have g2 := A2.c2
  have A1' := hide A1
  have A2' := hide A2
  clear A1 A2
  go_wp2_with (rw [build3])
  clear c0 c1 c2 g0 g1 g2
  have A1 := unhide A1'
  have A2 := unhide A2'
  clear A1' A2'
  refine (unhide h6 _).mono ?_
  rintro e w8 ⟨rfl, hb8⟩
  replace A1 := A1.keep hb8 A1.lt
  replace A2 := A2.keep hb8 A2.lt
  replace A3 := hide (below_via (unhide A3) hb8)
  clear hb8
  have c0 := A1.c0
  have c1 := A1.c1
  have c2 := A1.c2
  have g0 := A2.c0
  have g1 := A2.c1
  have g2 := A2.c2
  have A1' := hide A1
  have A2' := hide A2
  clear A1 A2
  go_wp2_with fail
  refine (unhide hL _).mono ?_
  rintro e w9 ⟨rfl, rfl⟩
  go_wp2_with fail
  refine (unhide hL _).mono ?_
  rintro e w9 ⟨rfl, rfl⟩
  go_wp2_with fail
  go_ret
  exact ⟨by simp, unhide A3⟩
set_option maxRecDepth 20000 in
set_option maxHeartbeats 4000000 in
theorem go_6n (y m d p q r : Int) (n k F Z : Int) (B L : Bool) (w : World) (t1 : decide (y < p) = false) (t2 : (p == y) = true) (t3 : decide (m < q) = false) (t4 : (q == m) = true) (t5 : decide (d < r) = false) (h1 : Hid (Froms y m d n 0)) (h2 : Hid (Froms p q r k 0)) (hq : ∀ w, (binOp .eql 23 (.agg #[.int .i64 y, .int .i64 m, .int .i64 d]) (.agg #[.int .i64 p, .int .i64 q, .int .i64 r])).run Try.prog w = .ok (.bool B) w) (s1 : decide (n < k) = false) (s2 : (k == n) = B) (y1 : 1 ≤ y) (y2 : y ≤ 9999) (_n1 : 1 ≤ n) (_n2 : n ≤ 3652059) (h5 : Hid (Froms y 1 1 F 0)) (h6 : Hid (Froms y 12 31 Z 0)) (hL : Hid (Q 15 #[.int .i64 y] (.bool L))) (z1 : (wrap64 (Z - F) == 365) = L) (z2 : (wrap64 (Z - F) == 364) = !L) (ag : decide (y + 400 ≤ 9999) = false) : Good y m d p q r w := by
  unfold Good
  have hal := hide alive_any
  go_enter Try.func6, Try.ntmps6
  go_wp2_with fail
  have A1 := (R3.new w y m d).alloc (.cells #[.int .i64 p, .int .i64 q, .int .i64 r] 23)
  have A2 := R3.new (w.alloc (.cells #[.int .i64 y, .int .i64 m, .int .i64 d] 23)) p q r
  rw [show (w.alloc (.cells #[.int .i64 y, .int .i64 m, .int .i64 d] 23)).heap.size = w.heap.size + 1 from by simp] at A2
  have A3 := ((Below.refl w.heap.size w).alloc (Nat.le_refl _) (.cells #[.int .i64 y, .int .i64 m, .int .i64 d] 23)).alloc (by simp) (.cells #[.int .i64 p, .int .i64 q, .int .i64 r] 23)
  generalize (w.alloc (.cells #[.int .i64 y, .int .i64 m, .int .i64 d] 23)).alloc (.cells #[.int .i64 p, .int .i64 q, .int .i64 r] 23) = W at A1 A2 A3 ⊢
  refine (unhide hal _).mono ?_
  rintro e w1 ⟨rfl, hb1⟩
  replace A1 := A1.keep hb1 A1.lt
  replace A2 := A2.keep hb1 A2.lt
  replace A3 := hide (below_via A3 hb1)
  clear hb1 hal
  have c0 := A1.c0
  have c1 := A1.c1
  have c2 := A1.c2
  have g0 := A2.c0
  have g1 := A2.c1
  have g2 := A2.c2
  have A1' := hide A1
  have A2' := hide A2
  clear A1 A2
  go_wp2_with fail
  clear c0 c1 c2 g0 g1 g2
  have A1 := unhide A1'
  have A2 := unhide A2'
  clear A1' A2'
  refine (unhide h1 _).mono ?_
  rintro e w2 ⟨rfl, hb2⟩
  replace A1 := A1.keep hb2 A1.lt
  replace A2 := A2.keep hb2 A2.lt
  replace A3 := hide (below_via (unhide A3) hb2)
  clear hb2
  have c0 := A1.c0
  have c1 := A1.c1
  have c2 := A1.c2
  have g0 := A2.c0
  have g1 := A2.c1
  have g2 := A2.c2
  have A1' := hide A1
  have A2' := hide A2
  clear A1 A2
  go_wp2_with fail
  clear c0 c1 c2 g0 g1 g2
  have A1 := unhide A1'
  have A2 := unhide A2'
  clear A1' A2'
  refine (unhide h2 _).mono ?_
  rintro e w3 ⟨rfl, hb3⟩
  replace A1 := A1.keep hb3 A1.lt
  replace A2 := A2.keep hb3 A2.lt
  replace A3 := hide (below_via (unhide A3) hb3)
  clear hb3
  have D1 := A1.alloc (.cells #[.int .i64 (y + 400), .int .i64 m, .int .i64 d] 23)
  have D2 := A2.alloc (.cells #[.int .i64 (y + 400), .int .i64 m, .int .i64 d] 23)
  have D3 := hide (below_via (unhide A3) ((Below.refl w3.heap.size w3).alloc (Nat.le_refl _) (.cells #[.int .i64 (y + 400), .int .i64 m, .int .i64 d] 23)))
  have e0 := D1.c0
  have e1 := D1.c1
  have e2 := D1.c2
  replace D1 := hide D1
  replace D2 := hide D2
  have c0 := A1.c0
  have c1 := A1.c1
  have c2 := A1.c2
  have g0 := A2.c0
  have g1 := A2.c1
  have g2 := A2.c2
  have A1' := hide A1
  have A2' := hide A2
  clear A1 A2
  go_wp2_with (rw [build3])
  clear c0 c1 c2 g0 g1 g2 e0 e1 e2 A1' A2' A3
  have A1 := unhide D1
  have A2 := unhide D2
  have A3 := D3
  clear D1 D2 D3
  generalize w3.alloc (.cells #[.int .i64 (y + 400), .int .i64 m, .int .i64 d] 23) = w4 at A1 A2 A3 ⊢
  refine (unhide h5 _).mono ?_
  rintro e w7 ⟨rfl, hb7⟩
  replace A1 := A1.keep hb7 A1.lt
  replace A2 := A2.keep hb7 A2.lt
  replace A3 := hide (below_via (unhide A3) hb7)
  clear hb7
  have c0 := A1.c0
  have c1 := A1.c1
  have c2 := A1.c2
  have g0 := A2.c0
  have g1 := A2.c1
  have g2 := A2.c2
  have A1' := hide A1
  have A2' := hide A2
  clear A1 A2
  go_wp2_with (rw [build3])
  clear c0 c1 c2 g0 g1 g2
  have A1 := unhide A1'
  have A2 := unhide A2'
  clear A1' A2'
  refine (unhide h6 _).mono ?_
  rintro e w8 ⟨rfl, hb8⟩
  replace A1 := A1.keep hb8 A1.lt
  replace A2 := A2.keep hb8 A2.lt
  replace A3 := hide (below_via (unhide A3) hb8)
  clear hb8
  have c0 := A1.c0
  have c1 := A1.c1
  have c2 := A1.c2
  have g0 := A2.c0
  have g1 := A2.c1
  have g2 := A2.c2
  have A1' := hide A1
  have A2' := hide A2
  clear A1 A2
  go_wp2_with fail
  refine (unhide hL _).mono ?_
  rintro e w9 ⟨rfl, rfl⟩
  go_wp2_with fail
  refine (unhide hL _).mono ?_
  rintro e w9 ⟨rfl, rfl⟩
  go_wp2_with fail
  go_ret
  exact ⟨by simp, unhide A3⟩
end Go.Proofs.Ytkgaonblgclfcaa.dayAges
