/- Proved here: DayBack: a number's date has that number; a date's number has that date. No condition. -/
import Derived.Test.YtkgaonblgclfcaaAlive
import Derived.ProofKit
import Derived.Lib.SmallJoins
import Derived.OpenShut
import Derived.ShutString
import Derived.ChangeOld
import Derived.Below
namespace Go.Proofs.Ytkgaonblgclfcaa.dayBack
open Go.ChangeShapes Go.WideShapes Go.ChangeAt Go.RowKit
set_option linter.unusedSimpArgs false
def Good (y m d n : Int) (w : World) : Prop := Calls Try.prog 4 #[.agg #[.int .i64 y, .int .i64 m, .int .i64 d], .int .i64 n] w fun e w' => e = .returned (.bool true) ∧ Below w.heap.size w w'
set_option maxRecDepth 20000 in
set_option maxHeartbeats 2000000 in
theorem go_AV (y m d n Y M D k : Int) (w : World) (hT : Hid (Tos n Y M D 0)) (hF1 : Hid (Froms Y M D n 0)) (hF : Hid (Froms y m d k 0)) (hT2 : Hid (Tos k y m d 0)) (k1 : decide (1 ≤ k) = true) (k2 : decide (k ≤ 3652059) = true) (hq : ∀ w, (binOp .eql 23 (.agg #[.int .i64 y, .int .i64 m, .int .i64 d]) (.agg #[.int .i64 y, .int .i64 m, .int .i64 d])).run Try.prog w = .ok (.bool true) w) : Good y m d n w := by
  unfold Good
  have hal := hide alive_any
  go_enter Try.func4, Try.ntmps4
  go_wp2_with fail
  have B1 := R3.new w y m d
  have B2 := (Below.refl w.heap.size w).alloc (Nat.le_refl _) (.cells #[.int .i64 y, .int .i64 m, .int .i64 d] 23)
  generalize w.alloc (.cells #[.int .i64 y, .int .i64 m, .int .i64 d] 23) = W at B1 B2 ⊢
  refine (unhide hal _).mono ?_
  rintro e w1 ⟨rfl, hb1⟩
  replace B1 := hide (B1.keep hb1 B1.lt)
  replace B2 := hide (below_via B2 hb1)
  clear hb1 hal
  go_wp2_with fail
  refine (unhide hT _).mono ?_
  rintro e w2 ⟨rfl, hb2⟩
  replace B1 := (unhide B1).keep hb2 (unhide B1).lt
  replace B2 := hide (below_via (unhide B2) hb2)
  clear hb2
  have N1 := B1.alloc (.cells #[.int .i64 Y, .int .i64 M, .int .i64 D] 23)
  have N2 := hide (below_via (unhide B2) ((Below.refl w2.heap.size w2).alloc (Nat.le_refl _) (.cells #[.int .i64 Y, .int .i64 M, .int .i64 D] 23)))
  replace B1 := hide B1
  go_wp2_with fail
  generalize w2.alloc (.cells #[.int .i64 Y, .int .i64 M, .int .i64 D] 23) = W2 at N1 N2 ⊢
  refine (unhide hF1 _).mono ?_
  rintro e w3 ⟨rfl, hb3⟩
  have A1 := N1.keep hb3 N1.lt
  have A2 := hide (below_via (unhide N2) hb3)
  clear hb3 N1 N2 B1 B2
  have c0 := A1.c0
  have c1 := A1.c1
  have c2 := A1.c2
  replace A1 := hide A1
  go_wp2_with fail
  clear c0 c1 c2
  replace A1 := unhide A1
  refine (unhide hF _).mono ?_
  rintro e w4 ⟨rfl, hb4⟩
  replace A1 := A1.keep hb4 A1.lt
  replace A2 := hide (below_via (unhide A2) hb4)
  clear hb4
  replace A1 := hide A1
  go_wp2_with fail
  refine (unhide hT2 _).mono ?_
  rintro e w5 ⟨rfl, hb5⟩
  have B1 := (unhide A1).keep hb5 (unhide A1).lt
  have B2 := hide (below_via (unhide A2) hb5)
  clear hb5 A1 A2
  have N1 := B1.alloc (.cells #[.int .i64 y, .int .i64 m, .int .i64 d] 23)
  have N2 := hide (below_via (unhide B2) ((Below.refl w5.heap.size w5).alloc (Nat.le_refl _) (.cells #[.int .i64 y, .int .i64 m, .int .i64 d] 23)))
  replace B1 := hide B1
  have c0 := N1.c0
  have c1 := N1.c1
  have c2 := N1.c2
  replace N1 := hide N1
  go_wp2_with fail
  go_ret
  exact ⟨rfl, unhide N2⟩
set_option maxRecDepth 20000 in
set_option maxHeartbeats 2000000 in
theorem go_AX (y m d n Y M D : Int) (w : World) (hT : Hid (Tos n Y M D 0)) (hF1 : Hid (Froms Y M D n 0)) (hF : Hid (Froms y m d 0 5)) (d1 : decide (d < 1) = true) : Good y m d n w := by
  unfold Good
  have hal := hide alive_any
  go_enter Try.func4, Try.ntmps4
  go_wp2_with fail
  have B1 := R3.new w y m d
  have B2 := (Below.refl w.heap.size w).alloc (Nat.le_refl _) (.cells #[.int .i64 y, .int .i64 m, .int .i64 d] 23)
  generalize w.alloc (.cells #[.int .i64 y, .int .i64 m, .int .i64 d] 23) = W at B1 B2 ⊢
  refine (unhide hal _).mono ?_
  rintro e w1 ⟨rfl, hb1⟩
  replace B1 := hide (B1.keep hb1 B1.lt)
  replace B2 := hide (below_via B2 hb1)
  clear hb1 hal
  go_wp2_with fail
  refine (unhide hT _).mono ?_
  rintro e w2 ⟨rfl, hb2⟩
  replace B1 := (unhide B1).keep hb2 (unhide B1).lt
  replace B2 := hide (below_via (unhide B2) hb2)
  clear hb2
  have N1 := B1.alloc (.cells #[.int .i64 Y, .int .i64 M, .int .i64 D] 23)
  have N2 := hide (below_via (unhide B2) ((Below.refl w2.heap.size w2).alloc (Nat.le_refl _) (.cells #[.int .i64 Y, .int .i64 M, .int .i64 D] 23)))
  replace B1 := hide B1
  go_wp2_with fail
  generalize w2.alloc (.cells #[.int .i64 Y, .int .i64 M, .int .i64 D] 23) = W2 at N1 N2 ⊢
  refine (unhide hF1 _).mono ?_
  rintro e w3 ⟨rfl, hb3⟩
  have A1 := N1.keep hb3 N1.lt
  have A2 := hide (below_via (unhide N2) hb3)
  clear hb3 N1 N2 B1 B2
  have c0 := A1.c0
  have c1 := A1.c1
  have c2 := A1.c2
  replace A1 := hide A1
  go_wp2_with fail
  clear c0 c1 c2
  replace A1 := unhide A1
  refine (unhide hF _).mono ?_
  rintro e w4 ⟨rfl, hb4⟩
  replace A1 := A1.keep hb4 A1.lt
  replace A2 := hide (below_via (unhide A2) hb4)
  clear hb4
  have c0 := A1.c0
  have c1 := A1.c1
  have c2 := A1.c2
  replace A1 := hide A1
  go_wp2_with fail
  go_quiet (fail)
  go_wp2_with fail
  go_ret
  exact ⟨rfl, below_drewN (unhide A2) _⟩
set_option maxRecDepth 20000 in
set_option maxHeartbeats 2000000 in
theorem go_AZ (y m d n Y M D l : Int) (w : World) (hT : Hid (Tos n Y M D 0)) (hF1 : Hid (Froms Y M D n 0)) (hF : Hid (Froms y m d 0 5)) (d1 : decide (d < 1) = false) (hl : Hid (Q 17 #[.int .i64 y, .int .i64 m] (.int .i64 l))) (d2 : decide (l < d) = true) : Good y m d n w := by
  unfold Good
  have hal := hide alive_any
  go_enter Try.func4, Try.ntmps4
  go_wp2_with fail
  have B1 := R3.new w y m d
  have B2 := (Below.refl w.heap.size w).alloc (Nat.le_refl _) (.cells #[.int .i64 y, .int .i64 m, .int .i64 d] 23)
  generalize w.alloc (.cells #[.int .i64 y, .int .i64 m, .int .i64 d] 23) = W at B1 B2 ⊢
  refine (unhide hal _).mono ?_
  rintro e w1 ⟨rfl, hb1⟩
  replace B1 := hide (B1.keep hb1 B1.lt)
  replace B2 := hide (below_via B2 hb1)
  clear hb1 hal
  go_wp2_with fail
  refine (unhide hT _).mono ?_
  rintro e w2 ⟨rfl, hb2⟩
  replace B1 := (unhide B1).keep hb2 (unhide B1).lt
  replace B2 := hide (below_via (unhide B2) hb2)
  clear hb2
  have N1 := B1.alloc (.cells #[.int .i64 Y, .int .i64 M, .int .i64 D] 23)
  have N2 := hide (below_via (unhide B2) ((Below.refl w2.heap.size w2).alloc (Nat.le_refl _) (.cells #[.int .i64 Y, .int .i64 M, .int .i64 D] 23)))
  replace B1 := hide B1
  go_wp2_with fail
  generalize w2.alloc (.cells #[.int .i64 Y, .int .i64 M, .int .i64 D] 23) = W2 at N1 N2 ⊢
  refine (unhide hF1 _).mono ?_
  rintro e w3 ⟨rfl, hb3⟩
  have A1 := N1.keep hb3 N1.lt
  have A2 := hide (below_via (unhide N2) hb3)
  clear hb3 N1 N2 B1 B2
  have c0 := A1.c0
  have c1 := A1.c1
  have c2 := A1.c2
  replace A1 := hide A1
  go_wp2_with fail
  clear c0 c1 c2
  replace A1 := unhide A1
  refine (unhide hF _).mono ?_
  rintro e w4 ⟨rfl, hb4⟩
  replace A1 := A1.keep hb4 A1.lt
  replace A2 := hide (below_via (unhide A2) hb4)
  clear hb4
  have c0 := A1.c0
  have c1 := A1.c1
  have c2 := A1.c2
  replace A1 := hide A1
  go_wp2_with fail
  go_quiet ((go_at_call 17; exact Calls.quiet_of_same (unhide hl _)))
  go_wp2_with fail
  go_ret
  exact ⟨rfl, below_drewN (unhide A2) _⟩
set_option maxRecDepth 20000 in
set_option maxHeartbeats 2000000 in
theorem go_BV (y m d n k : Int) (w : World) (hT : Hid (Tos n 0 0 0 5)) (n1 : decide (1 ≤ n) = false) (hF : Hid (Froms y m d k 0)) (hT2 : Hid (Tos k y m d 0)) (k1 : decide (1 ≤ k) = true) (k2 : decide (k ≤ 3652059) = true) (hq : ∀ w, (binOp .eql 23 (.agg #[.int .i64 y, .int .i64 m, .int .i64 d]) (.agg #[.int .i64 y, .int .i64 m, .int .i64 d])).run Try.prog w = .ok (.bool true) w) : Good y m d n w := by
  unfold Good
  have hal := hide alive_any
  go_enter Try.func4, Try.ntmps4
  go_wp2_with fail
  have B1 := R3.new w y m d
  have B2 := (Below.refl w.heap.size w).alloc (Nat.le_refl _) (.cells #[.int .i64 y, .int .i64 m, .int .i64 d] 23)
  generalize w.alloc (.cells #[.int .i64 y, .int .i64 m, .int .i64 d] 23) = W at B1 B2 ⊢
  refine (unhide hal _).mono ?_
  rintro e w1 ⟨rfl, hb1⟩
  replace B1 := hide (B1.keep hb1 B1.lt)
  replace B2 := hide (below_via B2 hb1)
  clear hb1 hal
  go_wp2_with fail
  refine (unhide hT _).mono ?_
  rintro e w2 ⟨rfl, hb2⟩
  replace B1 := (unhide B1).keep hb2 (unhide B1).lt
  replace B2 := hide (below_via (unhide B2) hb2)
  clear hb2
  have N1 := B1.alloc (.cells #[.int .i64 0, .int .i64 0, .int .i64 0] 23)
  have N2 := hide (below_via (unhide B2) ((Below.refl w2.heap.size w2).alloc (Nat.le_refl _) (.cells #[.int .i64 0, .int .i64 0, .int .i64 0] 23)))
  replace B1 := hide B1
  have c0 := N1.c0
  have c1 := N1.c1
  have c2 := N1.c2
  replace N1 := hide N1
  go_wp2_with fail
  clear c0 c1 c2
  replace N1 := unhide N1
  generalize w2.alloc (.cells #[.int .i64 0, .int .i64 0, .int .i64 0] 23) = w3 at N1 N2 ⊢
  have A1 := N1
  have A2 := N2
  clear N1 N2 B1 B2
  refine (unhide hF _).mono ?_
  rintro e w4 ⟨rfl, hb4⟩
  replace A1 := A1.keep hb4 A1.lt
  replace A2 := hide (below_via (unhide A2) hb4)
  clear hb4
  replace A1 := hide A1
  go_wp2_with fail
  refine (unhide hT2 _).mono ?_
  rintro e w5 ⟨rfl, hb5⟩
  have B1 := (unhide A1).keep hb5 (unhide A1).lt
  have B2 := hide (below_via (unhide A2) hb5)
  clear hb5 A1 A2
  have N1 := B1.alloc (.cells #[.int .i64 y, .int .i64 m, .int .i64 d] 23)
  have N2 := hide (below_via (unhide B2) ((Below.refl w5.heap.size w5).alloc (Nat.le_refl _) (.cells #[.int .i64 y, .int .i64 m, .int .i64 d] 23)))
  replace B1 := hide B1
  have c0 := N1.c0
  have c1 := N1.c1
  have c2 := N1.c2
  replace N1 := hide N1
  go_wp2_with fail
  go_ret
  exact ⟨rfl, unhide N2⟩
set_option maxRecDepth 20000 in
set_option maxHeartbeats 2000000 in
theorem go_BX (y m d n : Int) (w : World) (hT : Hid (Tos n 0 0 0 5)) (n1 : decide (1 ≤ n) = false) (hF : Hid (Froms y m d 0 5)) (d1 : decide (d < 1) = true) : Good y m d n w := by
  unfold Good
  have hal := hide alive_any
  go_enter Try.func4, Try.ntmps4
  go_wp2_with fail
  have B1 := R3.new w y m d
  have B2 := (Below.refl w.heap.size w).alloc (Nat.le_refl _) (.cells #[.int .i64 y, .int .i64 m, .int .i64 d] 23)
  generalize w.alloc (.cells #[.int .i64 y, .int .i64 m, .int .i64 d] 23) = W at B1 B2 ⊢
  refine (unhide hal _).mono ?_
  rintro e w1 ⟨rfl, hb1⟩
  replace B1 := hide (B1.keep hb1 B1.lt)
  replace B2 := hide (below_via B2 hb1)
  clear hb1 hal
  go_wp2_with fail
  refine (unhide hT _).mono ?_
  rintro e w2 ⟨rfl, hb2⟩
  replace B1 := (unhide B1).keep hb2 (unhide B1).lt
  replace B2 := hide (below_via (unhide B2) hb2)
  clear hb2
  have N1 := B1.alloc (.cells #[.int .i64 0, .int .i64 0, .int .i64 0] 23)
  have N2 := hide (below_via (unhide B2) ((Below.refl w2.heap.size w2).alloc (Nat.le_refl _) (.cells #[.int .i64 0, .int .i64 0, .int .i64 0] 23)))
  replace B1 := hide B1
  have c0 := N1.c0
  have c1 := N1.c1
  have c2 := N1.c2
  replace N1 := hide N1
  go_wp2_with fail
  clear c0 c1 c2
  replace N1 := unhide N1
  generalize w2.alloc (.cells #[.int .i64 0, .int .i64 0, .int .i64 0] 23) = w3 at N1 N2 ⊢
  have A1 := N1
  have A2 := N2
  clear N1 N2 B1 B2
  refine (unhide hF _).mono ?_
  rintro e w4 ⟨rfl, hb4⟩
  replace A1 := A1.keep hb4 A1.lt
  replace A2 := hide (below_via (unhide A2) hb4)
  clear hb4
  have c0 := A1.c0
  have c1 := A1.c1
  have c2 := A1.c2
  replace A1 := hide A1
  go_wp2_with fail
  go_quiet (fail)
  go_wp2_with fail
  go_ret
  exact ⟨rfl, below_drewN (unhide A2) _⟩
set_option maxRecDepth 20000 in
set_option maxHeartbeats 2000000 in
theorem go_BZ (y m d n l : Int) (w : World) (hT : Hid (Tos n 0 0 0 5)) (n1 : decide (1 ≤ n) = false) (hF : Hid (Froms y m d 0 5)) (d1 : decide (d < 1) = false) (hl : Hid (Q 17 #[.int .i64 y, .int .i64 m] (.int .i64 l))) (d2 : decide (l < d) = true) : Good y m d n w := by
  unfold Good
  have hal := hide alive_any
  go_enter Try.func4, Try.ntmps4
  go_wp2_with fail
  have B1 := R3.new w y m d
  have B2 := (Below.refl w.heap.size w).alloc (Nat.le_refl _) (.cells #[.int .i64 y, .int .i64 m, .int .i64 d] 23)
  generalize w.alloc (.cells #[.int .i64 y, .int .i64 m, .int .i64 d] 23) = W at B1 B2 ⊢
  refine (unhide hal _).mono ?_
  rintro e w1 ⟨rfl, hb1⟩
  replace B1 := hide (B1.keep hb1 B1.lt)
  replace B2 := hide (below_via B2 hb1)
  clear hb1 hal
  go_wp2_with fail
  refine (unhide hT _).mono ?_
  rintro e w2 ⟨rfl, hb2⟩
  replace B1 := (unhide B1).keep hb2 (unhide B1).lt
  replace B2 := hide (below_via (unhide B2) hb2)
  clear hb2
  have N1 := B1.alloc (.cells #[.int .i64 0, .int .i64 0, .int .i64 0] 23)
  have N2 := hide (below_via (unhide B2) ((Below.refl w2.heap.size w2).alloc (Nat.le_refl _) (.cells #[.int .i64 0, .int .i64 0, .int .i64 0] 23)))
  replace B1 := hide B1
  have c0 := N1.c0
  have c1 := N1.c1
  have c2 := N1.c2
  replace N1 := hide N1
  go_wp2_with fail
  clear c0 c1 c2
  replace N1 := unhide N1
  generalize w2.alloc (.cells #[.int .i64 0, .int .i64 0, .int .i64 0] 23) = w3 at N1 N2 ⊢
  have A1 := N1
  have A2 := N2
  clear N1 N2 B1 B2
  refine (unhide hF _).mono ?_
  rintro e w4 ⟨rfl, hb4⟩
  replace A1 := A1.keep hb4 A1.lt
  replace A2 := hide (below_via (unhide A2) hb4)
  clear hb4
  have c0 := A1.c0
  have c1 := A1.c1
  have c2 := A1.c2
  replace A1 := hide A1
  go_wp2_with fail
  go_quiet ((go_at_call 17; exact Calls.quiet_of_same (unhide hl _)))
  go_wp2_with fail
  go_ret
  exact ⟨rfl, below_drewN (unhide A2) _⟩
set_option maxRecDepth 20000 in
set_option maxHeartbeats 2000000 in
theorem go_CV (y m d n k : Int) (w : World) (hT : Hid (Tos n 0 0 0 5)) (n1 : decide (1 ≤ n) = true) (n2 : decide (n ≤ 3652059) = false) (hF : Hid (Froms y m d k 0)) (hT2 : Hid (Tos k y m d 0)) (k1 : decide (1 ≤ k) = true) (k2 : decide (k ≤ 3652059) = true) (hq : ∀ w, (binOp .eql 23 (.agg #[.int .i64 y, .int .i64 m, .int .i64 d]) (.agg #[.int .i64 y, .int .i64 m, .int .i64 d])).run Try.prog w = .ok (.bool true) w) : Good y m d n w := by
  unfold Good
  have hal := hide alive_any
  go_enter Try.func4, Try.ntmps4
  go_wp2_with fail
  have B1 := R3.new w y m d
  have B2 := (Below.refl w.heap.size w).alloc (Nat.le_refl _) (.cells #[.int .i64 y, .int .i64 m, .int .i64 d] 23)
  generalize w.alloc (.cells #[.int .i64 y, .int .i64 m, .int .i64 d] 23) = W at B1 B2 ⊢
  refine (unhide hal _).mono ?_
  rintro e w1 ⟨rfl, hb1⟩
  replace B1 := hide (B1.keep hb1 B1.lt)
  replace B2 := hide (below_via B2 hb1)
  clear hb1 hal
  go_wp2_with fail
  refine (unhide hT _).mono ?_
  rintro e w2 ⟨rfl, hb2⟩
  replace B1 := (unhide B1).keep hb2 (unhide B1).lt
  replace B2 := hide (below_via (unhide B2) hb2)
  clear hb2
  have N1 := B1.alloc (.cells #[.int .i64 0, .int .i64 0, .int .i64 0] 23)
  have N2 := hide (below_via (unhide B2) ((Below.refl w2.heap.size w2).alloc (Nat.le_refl _) (.cells #[.int .i64 0, .int .i64 0, .int .i64 0] 23)))
  replace B1 := hide B1
  have c0 := N1.c0
  have c1 := N1.c1
  have c2 := N1.c2
  replace N1 := hide N1
  go_wp2_with fail
  clear c0 c1 c2
  replace N1 := unhide N1
  generalize w2.alloc (.cells #[.int .i64 0, .int .i64 0, .int .i64 0] 23) = w3 at N1 N2 ⊢
  have A1 := N1
  have A2 := N2
  clear N1 N2 B1 B2
  refine (unhide hF _).mono ?_
  rintro e w4 ⟨rfl, hb4⟩
  replace A1 := A1.keep hb4 A1.lt
  replace A2 := hide (below_via (unhide A2) hb4)
  clear hb4
  replace A1 := hide A1
  go_wp2_with fail
  refine (unhide hT2 _).mono ?_
  rintro e w5 ⟨rfl, hb5⟩
  have B1 := (unhide A1).keep hb5 (unhide A1).lt
  have B2 := hide (below_via (unhide A2) hb5)
  clear hb5 A1 A2
  have N1 := B1.alloc (.cells #[.int .i64 y, .int .i64 m, .int .i64 d] 23)
  have N2 := hide (below_via (unhide B2) ((Below.refl w5.heap.size w5).alloc (Nat.le_refl _) (.cells #[.int .i64 y, .int .i64 m, .int .i64 d] 23)))
  replace B1 := hide B1
  have c0 := N1.c0
  have c1 := N1.c1
  have c2 := N1.c2
  replace N1 := hide N1
  go_wp2_with fail
  go_ret
  exact ⟨rfl, unhide N2⟩
set_option maxRecDepth 20000 in
set_option maxHeartbeats 2000000 in
theorem go_CX (y m d n : Int) (w : World) (hT : Hid (Tos n 0 0 0 5)) (n1 : decide (1 ≤ n) = true) (n2 : decide (n ≤ 3652059) = false) (hF : Hid (Froms y m d 0 5)) (d1 : decide (d < 1) = true) : Good y m d n w := by
  unfold Good
  have hal := hide alive_any
  go_enter Try.func4, Try.ntmps4
  go_wp2_with fail
  have B1 := R3.new w y m d
  have B2 := (Below.refl w.heap.size w).alloc (Nat.le_refl _) (.cells #[.int .i64 y, .int .i64 m, .int .i64 d] 23)
  generalize w.alloc (.cells #[.int .i64 y, .int .i64 m, .int .i64 d] 23) = W at B1 B2 ⊢
  refine (unhide hal _).mono ?_
  rintro e w1 ⟨rfl, hb1⟩
  replace B1 := hide (B1.keep hb1 B1.lt)
  replace B2 := hide (below_via B2 hb1)
  clear hb1 hal
  go_wp2_with fail
  refine (unhide hT _).mono ?_
  rintro e w2 ⟨rfl, hb2⟩
  replace B1 := (unhide B1).keep hb2 (unhide B1).lt
  replace B2 := hide (below_via (unhide B2) hb2)
  clear hb2
  have N1 := B1.alloc (.cells #[.int .i64 0, .int .i64 0, .int .i64 0] 23)
  have N2 := hide (below_via (unhide B2) ((Below.refl w2.heap.size w2).alloc (Nat.le_refl _) (.cells #[.int .i64 0, .int .i64 0, .int .i64 0] 23)))
  replace B1 := hide B1
  have c0 := N1.c0
  have c1 := N1.c1
  have c2 := N1.c2
  replace N1 := hide N1
  go_wp2_with fail
  clear c0 c1 c2
  replace N1 := unhide N1
  generalize w2.alloc (.cells #[.int .i64 0, .int .i64 0, .int .i64 0] 23) = w3 at N1 N2 ⊢
  have A1 := N1
  have A2 := N2
  clear N1 N2 B1 B2
  refine (unhide hF _).mono ?_
  rintro e w4 ⟨rfl, hb4⟩
  replace A1 := A1.keep hb4 A1.lt
  replace A2 := hide (below_via (unhide A2) hb4)
  clear hb4
  have c0 := A1.c0
  have c1 := A1.c1
  have c2 := A1.c2
  replace A1 := hide A1
  go_wp2_with fail
  go_quiet (fail)
  go_wp2_with fail
  go_ret
  exact ⟨rfl, below_drewN (unhide A2) _⟩
set_option maxRecDepth 20000 in
set_option maxHeartbeats 2000000 in
theorem go_CZ (y m d n l : Int) (w : World) (hT : Hid (Tos n 0 0 0 5)) (n1 : decide (1 ≤ n) = true) (n2 : decide (n ≤ 3652059) = false) (hF : Hid (Froms y m d 0 5)) (d1 : decide (d < 1) = false) (hl : Hid (Q 17 #[.int .i64 y, .int .i64 m] (.int .i64 l))) (d2 : decide (l < d) = true) : Good y m d n w := by
  unfold Good
  have hal := hide alive_any
  go_enter Try.func4, Try.ntmps4
  go_wp2_with fail
  have B1 := R3.new w y m d
  have B2 := (Below.refl w.heap.size w).alloc (Nat.le_refl _) (.cells #[.int .i64 y, .int .i64 m, .int .i64 d] 23)
  generalize w.alloc (.cells #[.int .i64 y, .int .i64 m, .int .i64 d] 23) = W at B1 B2 ⊢
  refine (unhide hal _).mono ?_
  rintro e w1 ⟨rfl, hb1⟩
  replace B1 := hide (B1.keep hb1 B1.lt)
  replace B2 := hide (below_via B2 hb1)
  clear hb1 hal
  go_wp2_with fail
  refine (unhide hT _).mono ?_
  rintro e w2 ⟨rfl, hb2⟩
  replace B1 := (unhide B1).keep hb2 (unhide B1).lt
  replace B2 := hide (below_via (unhide B2) hb2)
  clear hb2
  have N1 := B1.alloc (.cells #[.int .i64 0, .int .i64 0, .int .i64 0] 23)
  have N2 := hide (below_via (unhide B2) ((Below.refl w2.heap.size w2).alloc (Nat.le_refl _) (.cells #[.int .i64 0, .int .i64 0, .int .i64 0] 23)))
  replace B1 := hide B1
  have c0 := N1.c0
  have c1 := N1.c1
  have c2 := N1.c2
  replace N1 := hide N1
  go_wp2_with fail
  clear c0 c1 c2
  replace N1 := unhide N1
  generalize w2.alloc (.cells #[.int .i64 0, .int .i64 0, .int .i64 0] 23) = w3 at N1 N2 ⊢
  have A1 := N1
  have A2 := N2
  clear N1 N2 B1 B2
  refine (unhide hF _).mono ?_
  rintro e w4 ⟨rfl, hb4⟩
  replace A1 := A1.keep hb4 A1.lt
  replace A2 := hide (below_via (unhide A2) hb4)
  clear hb4
  have c0 := A1.c0
  have c1 := A1.c1
  have c2 := A1.c2
  replace A1 := hide A1
  go_wp2_with fail
  go_quiet ((go_at_call 17; exact Calls.quiet_of_same (unhide hl _)))
  go_wp2_with fail
  go_ret
  exact ⟨rfl, below_drewN (unhide A2) _⟩
theorem not_valid {y m d : Int} (h : ¬ Valid y m d) (h1 : ¬ d < 1) : last y m < d := by
  by_cases c : 1 ≤ y ∧ y ≤ 9999
  · rw [last_in c.1 c.2]
    by_cases c2 : 1 ≤ m ∧ m ≤ 12
    · by_cases c3 : d ≤ len (leap y) m
      · exact absurd ⟨c.1, c.2, c2.1, c2.2, by omega, c3⟩ h
      · omega
    · rw [len_none _ c2]; omega
  · rw [last_out c]; omega
theorem walk (y m d n : Int) (w : World) (_wy : (Lit.int .i64 y).wf = true) (_wm : (Lit.int .i64 m).wf = true) (_wd : (Lit.int .i64 d).wf = true) (_wn : (Lit.int .i64 n).wf = true) : Calls Try.prog 4 #[.agg #[.int .i64 y, .int .i64 m, .int .i64 d], .int .i64 n] w fun e w' => e = .returned (.bool true) ∧ Below w.heap.size w w' := by
  have hd : ∀ P : Prop, ((h : Valid y m d) → P) → (Froms y m d 0 5 → decide (d < 1) = true → P) → (Froms y m d 0 5 → decide (d < 1) = false → decide (last y m < d) = true → P) → P := by
    intro P p1 p2 p3
    by_cases h : Valid y m d
    · exact p1 h
    · by_cases h1 : d < 1
      · exact p2 (from_no h) (decide_eq_true h1)
      · exact p3 (from_no h) (decide_eq_false h1) (decide_eq_true (not_valid h h1))
  have hq : ∀ w, (binOp .eql 23 (.agg #[.int .i64 y, .int .i64 m, .int .i64 d]) (.agg #[.int .i64 y, .int .i64 m, .int .i64 d])).run Try.prog w = .ok (.bool true) w := fun w => by rw [eql23]; simp
  have hl := last_any y m
  by_cases c1 : 1 ≤ n
  · by_cases c2 : n ≤ 3652059
    · obtain ⟨Y, M, D, hv, e⟩ := date_of n c1 c2
      have hT := to_ok Y M D hv
      have hF1 := from_ok hv
      rw [e] at hT hF1
      refine hd _ (fun h => ?_) (fun a b => ?_) (fun a b c => ?_)
      · exact go_AV y m d n Y M D _ w (hide hT) (hide hF1) (hide (from_ok h)) (hide (to_ok y m d h)) (decide_eq_true (num_range h).1) (decide_eq_true (num_range h).2) hq
      · exact go_AX y m d n Y M D w (hide hT) (hide hF1) (hide a) b
      · exact go_AZ y m d n Y M D _ w (hide hT) (hide hF1) (hide a) b (hide hl) c
    · have hT := to_no n (by omega)
      have n1 := decide_eq_true c1
      have n2 := decide_eq_false c2
      refine hd _ (fun h => ?_) (fun a b => ?_) (fun a b c => ?_)
      · exact go_CV y m d n _ w (hide hT) n1 n2 (hide (from_ok h)) (hide (to_ok y m d h)) (decide_eq_true (num_range h).1) (decide_eq_true (num_range h).2) hq
      · exact go_CX y m d n w (hide hT) n1 n2 (hide a) b
      · exact go_CZ y m d n _ w (hide hT) n1 n2 (hide a) b (hide hl) c
  · have hT := to_no n (by omega)
    have n1 := decide_eq_false c1
    refine hd _ (fun h => ?_) (fun a b => ?_) (fun a b c => ?_)
    · exact go_BV y m d n _ w (hide hT) n1 (hide (from_ok h)) (hide (to_ok y m d h)) (decide_eq_true (num_range h).1) (decide_eq_true (num_range h).2) hq
    · exact go_BX y m d n w (hide hT) n1 (hide a) b
    · exact go_BZ y m d n _ w (hide hT) n1 (hide a) b (hide hl) c
theorem cells23 : Try.prog.cellsOf 23 = 3 := by kernel_rfl
theorem one_int {H : Type} {enc : TypeId × Value → H} {P : Program} {w : World} {base : Nat} {spare : Nat → Bool} {held : Bool} {k : IntKind} {a : Int} {T : TypeId} (hu : P.underlying T = some (.int k)) (h : (Lit.int k a).wf = true) : ∃ n, DataW.trod enc P w base spare held n T [.int k a] = some (.lit (.int k a), []) := ⟨1, by simp [DataW.trod, hu, h]⟩
theorem own : ownKnob Try.prog.godebug = none := by kernel_rfl
set_option linter.unusedVariables false in
set_option maxRecDepth 100000 in
theorem lifted (os : Os) (started : os.Started) (H : Type) (enc : TypeId × Value → H) :
    ReturnsInHanded {} Try.checked os 4 .any (Rows.dayBackSpec.pre6 enc Try.prog Try.f4 Rows.dayBackRow.domain false) (Rows.dayBackSpec.post enc Try.prog Try.f4 false true false false) := by
  refine returnsInHanded_of_change (C := Try.checked) own started (by kernel_rfl) Try.func4
    (ChangeSpec.witness6 (enc := enc) (C := Try.checked) false ⟨#[], #[.agg #[.int .i64 0, .int .i64 0, .int .i64 0], .int .i64 0], []⟩ 8 (by kernel_rfl) (by kernel_rfl) (by kernel_rfl) (by kernel_rfl)) ?_
  intro W base args ds gs before hval0 hW hcnd _
  have hval : ∀ (j : Nat) t v, Try.f4.params[j]? = some t → args[j]? = some v → Value.okWide Try.prog W .any base t v := hval0
  have hW' := hW
  obtain ⟨p, q, hA0, hV, rfl, hfz, hnd⟩ := hW
  have hA : DataW.TrodAll enc Try.prog W 0 (fun _ => true) true Try.f4.params.toList args.toList ds p := hA0
  rw [Try.params4] at hA hval
  obtain ⟨v0, vs0, d0, ds0, p0, q0, hargs, rfl, rfl, h0, r0⟩ := trodAll_cons hA
  obtain ⟨v1, vs1, d1, ds1, p1, q1, rfl, rfl, rfl, h1, r1⟩ := trodAll_cons r0
  obtain ⟨rfl, rfl, rfl⟩ := trodAll_nil r1
  obtain rfl : args = #[v0, v1] := by cases args; simp_all
  obtain ⟨rfl, rfl⟩ := trodVars_none hV
  obtain ⟨c00, c01, c02, y00, y01, y02, m0, rfl, rfl, rfl, hy00, hy01, hy02⟩ := Joins.open_agg3 Try.underlying23 (by kernel_rfl) cells23 (hval 0 23 v0 rfl rfl) h0
  obtain ⟨a00, e00, rfl, w00⟩ := DataW.trod_int Try.underlying3 hy00
  obtain ⟨a01, e01, rfl, w01⟩ := DataW.trod_int Try.underlying3 hy01
  obtain ⟨a02, e02, rfl, w02⟩ := DataW.trod_int Try.underlying3 hy02
  simp at e00 e01 e02
  subst e00 e01 e02
  obtain ⟨a1, rfl, rfl, rfl, w1⟩ := open_int Try.underlying3 (hval 1 3 v1 rfl rfl) h1
  clear hA0 hval0
  simp only [List.append_nil] at hW'
  refine (walk a00 a01 a02 a1 W w00 w01 w02 w1).mono fun e W' ⟨he, bel⟩ => ?_
  subst he
  exact ⟨_, rfl, _, _, _, [], _, [], hW', trodAll_mk1 (shut_bool Try.underlying4 _), (trodAll_cons_mk (Joins.shut_agg3 (y0 := (.lit (.int .i64 a00), [])) (y1 := (.lit (.int .i64 a01), [])) (y2 := (.lit (.int .i64 a02), [])) Try.underlying23 (by kernel_rfl) cells23 (one_int Try.underlying3 w00) (one_int Try.underlying3 w01) (one_int Try.underlying3 w02)) (trodAll_cons_mk (shut_int Try.underlying3 w1) trodAll_mk0)), rfl, bel.frame _, fun h => by cases h⟩
theorem over : Rows.dayBackRow.holds Try.pinned (OpenSpec.ofChange Rows.dayBackSpec) :=
  OpenClaim.holds_of_wide 4 Try.f4 rfl rfl rfl rfl rfl rfl rfl ⟨rfl, rfl, rfl, rfl, rfl⟩ rfl rfl rfl rfl rfl (by kernel_rfl) Try.func4 (by kernel_rfl)
    (of_decide_eq_true (by kernel_rfl)) (by unfold Func.isWrapper; first | (rw [if_pos (by decide +kernel)]; kernel_rfl) | (rw [if_neg (by decide +kernel)]; exact ⟨rfl, rfl⟩))
    (fun os started H enc _ => lifted os started H enc)
/-- The statement. -/
theorem proved : Rows.DayBackSaid := over
#print axioms proved
end Go.Proofs.Ytkgaonblgclfcaa.dayBack
namespace Go.Proofs.Ytkgaonblgclfcaa
theorem dayBack_holds : Rows.DayBackSaid := dayBack.proved
end Go.Proofs.Ytkgaonblgclfcaa
