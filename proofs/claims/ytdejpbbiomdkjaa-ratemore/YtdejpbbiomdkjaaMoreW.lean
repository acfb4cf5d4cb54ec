/- What the walks of RateMore share. -/
import Derived.Test.YtdejpbbiomdkjaaAlive
import Derived.ProofKit
import Derived.OpenShut
import Derived.ShutString
import Derived.ChangeOld
import Derived.Below
namespace Go.Proofs.Ytdejpbbiomdkjaa.rateMore
open Go.ChangeShapes Go.WideShapes Go.ChangeAt Go.RowKit
set_option linter.unusedSimpArgs false
def Good (x y r s : Int) (w : World) : Prop := Calls Try.prog 6 #[.agg #[.int .i64 x, .int .i64 y, .int .i64 r, .int .i64 s]] w fun e w' => e = .returned (.bool true) ∧ Below w.heap.size w w'
theorem below_to_drew {W w2 w0 : World} (h : Below w0.heap.size w0 W) (h2 : W.drew.drew = w2) : Below w0.heap.size w0 w2 := by rw [← h2]; exact below_drew (below_drew h)
theorem box4 {w w1 : World} {x y r s : Value} {t : TypeId} (h : Below (w.alloc (.cells #[x, y, r, s] t)).heap.size (w.alloc (.cells #[x, y, r, s] t)) w1) :
    w1.cell? ⟨w.heap.size, 0, none⟩ = some x ∧ w1.cell? ⟨w.heap.size, 1, none⟩ = some y ∧ w1.cell? ⟨w.heap.size, 2, none⟩ = some r ∧ w1.cell? ⟨w.heap.size, 3, none⟩ = some s ∧ w.heap.size < w1.heap.size := by
  have hs : w.heap.size < (w.alloc (.cells #[x, y, r, s] t)).heap.size := by simp
  exact ⟨kept h hs (by simp [go_sem]), kept h hs (by simp [go_sem]), kept h hs (by simp [go_sem]), kept h hs (by simp [go_sem]), Nat.lt_of_lt_of_le hs h.size⟩
def Told10 (x r n : Int) : Prop := ∀ w : World, Calls Try.prog 22 #[.func (.func 10) #[] #[], .int .i64 x, .int .i64 r] w fun z w' => z = .returned (.int .i64 n) ∧ Below w.heap.size w w'
theorem told10 {x r n : Int} (h : Ans 10 x r n 0) : Told10 x r n := by
  intro w
  replace h := hide h
  go_enter Try.func22, Try.ntmps22
  go_wp2_with fail
  refine (unhide h _).mono ?_
  rintro e w1 ⟨rfl, hb⟩
  go_wp2_with fail
  go_ret
  exact ⟨rfl, hb⟩
def Told12 (x r n : Int) : Prop := ∀ w : World, Calls Try.prog 22 #[.func (.func 12) #[] #[], .int .i64 x, .int .i64 r] w fun z w' => z = .returned (.int .i64 n) ∧ Below w.heap.size w w'
theorem told12 {x r n : Int} (h : Ans 12 x r n 0) : Told12 x r n := by
  intro w
  replace h := hide h
  go_enter Try.func22, Try.ntmps22
  go_wp2_with fail
  refine (unhide h _).mono ?_
  rintro e w1 ⟨rfl, hb⟩
  go_wp2_with fail
  go_ret
  exact ⟨rfl, hb⟩
def Told14 (x r n : Int) : Prop := ∀ w : World, Calls Try.prog 22 #[.func (.func 14) #[] #[], .int .i64 x, .int .i64 r] w fun z w' => z = .returned (.int .i64 n) ∧ Below w.heap.size w w'
theorem told14 {x r n : Int} (h : Ans 14 x r n 0) : Told14 x r n := by
  intro w
  replace h := hide h
  go_enter Try.func22, Try.ntmps22
  go_wp2_with fail
  refine (unhide h _).mono ?_
  rintro e w1 ⟨rfl, hb⟩
  go_wp2_with fail
  go_ret
  exact ⟨rfl, hb⟩
def Mays (r : Int) (b : Bool) : Prop := ∀ w : World, Calls Try.prog 16 #[.int .i64 r] w fun e w' => e = .returned (.bool b) ∧ w = w'
end Go.Proofs.Ytdejpbbiomdkjaa.rateMore
