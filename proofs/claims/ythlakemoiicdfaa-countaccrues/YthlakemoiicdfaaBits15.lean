/- Power and Part of the reference; and of rate, where their arguments are wrong. -/
import Derived.Test.YthlakemoiicdfaaBits14
namespace Go.Proofs.Ythlakemoiicdfaa
open Go.RowKit
set_option linter.unusedSimpArgs false
def RParts (r o l a e : Int) : Prop := ∀ w : World, Calls Try.prog 22 #[.int .i64 r, .int .i64 o, .int .i64 l] w fun z w' => z = .returned (.tuple #[.int .i64 a, .int .i64 e]) ∧ Below w.heap.size w w'
theorem part_lo (r o l : Int) (d1 : decide (o < 0) = true) : Parts r o l 0 2 := by
  intro w
  go_enter Try.func19, Try.ntmps19
  go_wp2_with fail
  go_ret2
  exact ⟨rfl, Below.refl _ _⟩
theorem part_hi (r o l : Int) (d1 : decide (o < 0) = false) (d2 : decide (l ≤ 0) = true) : Parts r o l 0 2 := by
  intro w
  go_enter Try.func19, Try.ntmps19
  go_wp2_with fail
  go_ret2
  exact ⟨rfl, Below.refl _ _⟩
theorem rpart_lo (r o l : Int) (d1 : decide (o < 0) = true) : RParts r o l 0 2 := by
  intro w
  go_enter Try.func22, Try.ntmps22
  go_wp2_with fail
  go_ret2
  exact ⟨rfl, Below.refl _ _⟩
theorem rpart_hi (r o l : Int) (d1 : decide (o < 0) = false) (d2 : decide (l ≤ 0) = true) : RParts r o l 0 2 := by
  intro w
  go_enter Try.func22, Try.ntmps22
  go_wp2_with fail
  go_ret2
  exact ⟨rfl, Below.refl _ _⟩
theorem rpart_yes (r o l : Int) (hr : In64 r) (ho : In64 o) (hl : In64 l) (h0 : 0 ≤ o) (h1 : 0 < l) : RParts r o l (okN (near (r * o) l)) (okE (near (r * o) l)) := by
  intro w
  have hd := hide (rmd r o l hr ho hl h1)
  have d1 : decide (o < 0) = false := decide_eq_false (by omega)
  have d2 : decide (l ≤ 0) = false := decide_eq_false (by omega)
  generalize near (r * o) l = q at *
  go_enter Try.func22, Try.ntmps22
  go_wp2_with fail
  refine (unhide hd _).mono ?_
  rintro e w1 ⟨rfl, hb⟩
  go_wp2_with fail
  go_ret2
  exact ⟨rfl, hb⟩
end Go.Proofs.Ythlakemoiicdfaa
