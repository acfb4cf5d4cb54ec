/- Walks for DayAges: 400 years on a date is 146097 days on, of the same weekday; a year has 365 or 366 days; later dates have greater numbers. -/
import Derived.Test.YtkgaonblgclfcaaAlive
import Derived.WalkKit
import Derived.WalkSpells
import Derived.Lib.SmallJoins
import Derived.ProofKit
import Derived.OpenShut
import Derived.ShutString
import Derived.ChangeOld
import Derived.Below
namespace Go.Proofs.Ytkgaonblgclfcaa.dayAges
open Go.ChangeShapes Go.WideShapes Go.ChangeAt Go.RowKit
set_option linter.unusedSimpArgs false
def Good (y m d p q r : Int) (w : World) : Prop := Calls Try.prog 6 #[.agg #[.int .i64 y, .int .i64 m, .int .i64 d], .agg #[.int .i64 p, .int .i64 q, .int .i64 r]] w fun e w' => e = .returned (.bool true) ∧ Below w.heap.size w w'
set_option maxRecDepth 20000 in
set_option maxHeartbeats 4000000 in
theorem go_n1 (y m d p q r : Int) (w : World) (m2 e2 : Int) (h1 : Hid (Froms y m d 0 5)) (h2 : Hid (Froms p q r m2 e2)) : Good y m d p q r w := by
  unfold Good
  have hal := hide alive_any
  go_enter Try.func6, Try.ntmps6
  go_wp2_with fail
  have A1 := (R3.new w y m d).alloc (.cells #[.int .i64 p, .int .i64 q, .int .i64 r] 23)
  have A2 := R3.new (w.alloc (.cells #[.int .i64 y, .int .i64 m, .int .i64 d] 23)) p q r
  rw [show (w.alloc (.cells #[.int .i64 y, .int .i64 m, .int .i64 d] 23)).heap.size = w.heap.size + 1 from by simp] at A2
  have A3 := ((Below.refl w.heap.size w).alloc (Nat.le_refl _) (.cells #[.int .i64 y, .int .i64 m, .int .i64 d] 23)).alloc (by simp) (.cells #[.int .i64 p, .int .i64 q, .int .i64 r] 23)
  generalize (w.alloc (.cells #[.int .i64 y, .int .i64 m, .int .i64 d] 23)).alloc (.cells #[.int .i64 p, .int .i64 q, .int .i64 r] 23) = W at A1 A2 A3 ⊢
  refine (unhide hal _).mono ?_
  rintro e w1 ⟨rfl, hb1⟩
  replace A1 := A1.keep hb1 A1.lt
  replace A2 := A2.keep hb1 A2.lt
  replace A3 := hide (below_via A3 hb1)
  clear hb1 hal
  have c0 := A1.c0
  have c1 := A1.c1
  have c2 := A1.c2
  have g0 := A2.c0
  have g1 := A2.c1
  have g2 := A2.c2
  have A1' := hide A1
  have A2' := hide A2
  clear A1 A2
  go_wp2_with fail
  clear c0 c1 c2 g0 g1 g2
  have A1 := unhide A1'
  have A2 := unhide A2'
  clear A1' A2'
  refine (unhide h1 _).mono ?_
  rintro e w2 ⟨rfl, hb2⟩
  replace A1 := A1.keep hb2 A1.lt
  replace A2 := A2.keep hb2 A2.lt
  replace A3 := hide (below_via (unhide A3) hb2)
  clear hb2
  have c0 := A1.c0
  have c1 := A1.c1
  have c2 := A1.c2
  have g0 := A2.c0
  have g1 := A2.c1
  have g2 := A2.c2
  have A1' := hide A1
  have A2' := hide A2
  clear A1 A2
  go_wp2_with fail
  clear c0 c1 c2 g0 g1 g2
  have A1 := unhide A1'
  have A2 := unhide A2'
  clear A1' A2'
  refine (unhide h2 _).mono ?_
  rintro e w3 ⟨rfl, hb3⟩
  replace A1 := A1.keep hb3 A1.lt
  replace A2 := A2.keep hb3 A2.lt
  replace A3 := hide (below_via (unhide A3) hb3)
  clear hb3
  have c0 := A1.c0
  have c1 := A1.c1
  have c2 := A1.c2
  have g0 := A2.c0
  have g1 := A2.c1
  have g2 := A2.c2
  have A1' := hide A1
  have A2' := hide A2
  clear A1 A2
  go_wp2_with fail
  go_ret
  exact ⟨rfl, unhide A3⟩
set_option maxRecDepth 20000 in
set_option maxHeartbeats 4000000 in
theorem go_n2 (y m d p q r : Int) (w : World) (n : Int) (h1 : Hid (Froms y m d n 0)) (h2 : Hid (Froms p q r 0 5)) : Good y m d p q r w := by
  unfold Good
  have hal := hide alive_any
  go_enter Try.func6, Try.ntmps6
  go_wp2_with fail
  have A1 := (R3.new w y m d).alloc (.cells #[.int .i64 p, .int .i64 q, .int .i64 r] 23)
  have A2 := R3.new (w.alloc (.cells #[.int .i64 y, .int .i64 m, .int .i64 d] 23)) p q r
  rw [show (w.alloc (.cells #[.int .i64 y, .int .i64 m, .int .i64 d] 23)).heap.size = w.heap.size + 1 from by simp] at A2
  have A3 := ((Below.refl w.heap.size w).alloc (Nat.le_refl _) (.cells #[.int .i64 y, .int .i64 m, .int .i64 d] 23)).alloc (by simp) (.cells #[.int .i64 p, .int .i64 q, .int .i64 r] 23)
  generalize (w.alloc (.cells #[.int .i64 y, .int .i64 m, .int .i64 d] 23)).alloc (.cells #[.int .i64 p, .int .i64 q, .int .i64 r] 23) = W at A1 A2 A3 ⊢
  refine (unhide hal _).mono ?_
  rintro e w1 ⟨rfl, hb1⟩
  replace A1 := A1.keep hb1 A1.lt
  replace A2 := A2.keep hb1 A2.lt
  replace A3 := hide (below_via A3 hb1)
  clear hb1 hal
  have c0 := A1.c0
  have c1 := A1.c1
  have c2 := A1.c2
  have g0 := A2.c0
  have g1 := A2.c1
  have g2 := A2.c2
  have A1' := hide A1
  have A2' := hide A2
  clear A1 A2
  go_wp2_with fail
  clear c0 c1 c2 g0 g1 g2
  have A1 := unhide A1'
  have A2 := unhide A2'
  clear A1' A2'
  refine (unhide h1 _).mono ?_
  rintro e w2 ⟨rfl, hb2⟩
  replace A1 := A1.keep hb2 A1.lt
  replace A2 := A2.keep hb2 A2.lt
  replace A3 := hide (below_via (unhide A3) hb2)
  clear hb2
  have c0 := A1.c0
  have c1 := A1.c1
  have c2 := A1.c2
  have g0 := A2.c0
  have g1 := A2.c1
  have g2 := A2.c2
  have A1' := hide A1
  have A2' := hide A2
  clear A1 A2
  go_wp2_with fail
  clear c0 c1 c2 g0 g1 g2
  have A1 := unhide A1'
  have A2 := unhide A2'
  clear A1' A2'
  refine (unhide h2 _).mono ?_
  rintro e w3 ⟨rfl, hb3⟩
  replace A1 := A1.keep hb3 A1.lt
  replace A2 := A2.keep hb3 A2.lt
  replace A3 := hide (below_via (unhide A3) hb3)
  clear hb3
  have c0 := A1.c0
  have c1 := A1.c1
  have c2 := A1.c2
  have g0 := A2.c0
  have g1 := A2.c1
  have g2 := A2.c2
  have A1' := hide A1
  have A2' := hide A2
  clear A1 A2
  go_wp2_with fail
  go_ret
  exact ⟨rfl, unhide A3⟩
end Go.Proofs.Ytkgaonblgclfcaa.dayAges
