/- What rate's functions answer. -/
import Derived.Test.YtmepmmhhiphfiaaNear
import Derived.Handy
namespace Go.Proofs.Ytmepmmhhiphfiaa
open Go.RowKit
set_option linter.unusedSimpArgs false
def May (r : Int) : Prop := -990000000000 ≤ r ∧ r ≤ 10000000000000
def mayB (r : Int) : Bool := decide (-990000000000 ≤ r) && decide (r ≤ 10000000000000)
theorem mayB_yes {r : Int} (h : May r) : mayB r = true := by
  unfold mayB
  rw [decide_eq_true h.1, decide_eq_true h.2]; rfl
theorem mayB_no {r : Int} (h : ¬ May r) : mayB r = false := by
  unfold mayB
  by_cases h1 : -990000000000 ≤ r
  · by_cases h2 : r ≤ 10000000000000
    · exact absurd ⟨h1, h2⟩ h
    · rw [decide_eq_true h1, decide_eq_false h2]; rfl
  · rw [decide_eq_false h1]; rfl
theorem may_any (r : Int) (w : World) : Calls Try.prog 30 #[.int .i64 r] w fun e w' => e = .returned (.bool (mayB r)) ∧ w = w' := by
  by_cases h1 : -990000000000 ≤ r
  · by_cases h2 : r ≤ 10000000000000
    · have hm : mayB r = true := mayB_yes ⟨h1, h2⟩
      have t1 := decide_eq_true h1
      have t2 := decide_eq_true h2
      rw [hm]
      go_enter Try.func30, Try.ntmps30
      go_wp2_with fail
      go_ret
      exact ⟨rfl, rfl⟩
    · have hm : mayB r = false := mayB_no (fun h => h2 h.2)
      have t1 := decide_eq_true h1
      have t2 := decide_eq_false h2
      rw [hm]
      go_enter Try.func30, Try.ntmps30
      go_wp2_with fail
      go_ret
      exact ⟨rfl, rfl⟩
  · have hm : mayB r = false := mayB_no (fun h => h1 h.1)
    have t1 := decide_eq_false h1
    rw [hm]
    go_enter Try.func30, Try.ntmps30
    go_wp2_with fail
    go_ret
    exact ⟨rfl, rfl⟩
theorem may_yes {r : Int} (h : May r) (w : World) : Calls Try.prog 30 #[.int .i64 r] w fun e w' => e = .returned (.bool true) ∧ w = w' := by
  have := may_any r w
  rwa [mayB_yes h] at this
theorem may_no {r : Int} (h : ¬ May r) (w : World) : Calls Try.prog 30 #[.int .i64 r] w fun e w' => e = .returned (.bool false) ∧ w = w' := by
  have := may_any r w
  rwa [mayB_no h] at this
theorem md_near (a b c : Int) (ha : In64 a) (hb : In64 b) (hc : In64 c) (h0 : 0 < c) (w : World) : Calls Try.prog 31 #[.int .i64 a, .int .i64 b, .int .i64 c, .int .i64 1] w fun e w' => e = .returned (.tuple #[.int .i64 (okN (near (a * b) c)), .int .i64 (okE (near (a * b) c))]) ∧ Below w.heap.size w w' := by
  have := muldiv_near a b c ha hb hc (by omega) w
  rwa [quot1_near h0] at this
theorem may64 {r : Int} (h : May r) : In64 r := ⟨by have := h.1; omega, by have := h.2; omega⟩
/-- What a call answers: a number and an error. -/
def Ans (f : Nat) (x r n e : Int) : Prop := ∀ w : World, Calls Try.prog f #[.int .i64 x, .int .i64 r] w fun z w' => z = .returned (.tuple #[.int .i64 n, .int .i64 e]) ∧ Below w.heap.size w w'
theorem interest_no (x r : Int) (h : ¬ May r) : Ans 17 x r 0 2 := by
  intro w
  have hm := hide (may_no h)
  go_enter Try.func17, Try.ntmps17
  go_wp2_with fail
  refine (unhide hm _).mono ?_
  rintro e w1 ⟨rfl, rfl⟩
  go_wp2_with fail
  go_ret2
  exact ⟨rfl, Below.refl _ _⟩
theorem interest_yes (x r : Int) (hx : In64 x) (h : May r) : Ans 17 x r (okN (near (x * r) 1000000000000)) (okE (near (x * r) 1000000000000)) := by
  intro w
  have hm := hide (may_yes h)
  have hd := hide (md_near x r 1000000000000 hx (may64 h) ⟨by omega, by omega⟩ (by omega))
  go_enter Try.func17, Try.ntmps17
  go_wp2_with fail
  refine (unhide hm _).mono ?_
  rintro e w1 ⟨rfl, rfl⟩
  go_wp2_with fail
  refine (unhide hd _).mono ?_
  rintro e w2 ⟨rfl, hb⟩
  go_wp2_with fail
  go_ret2
  exact ⟨rfl, hb⟩
/-- The quotient that each of the three answers with: 10 interest, 12 growth, 14 discount. -/
def qI (x r : Int) : Int := near (x * r) 1000000000000
theorem interest_ok {x r : Int} (hx : In64 x) (h : May r) : Ans 17 x r (okN (qI x r)) (okE (qI x r)) := interest_yes x r hx h
theorem in_ok {f : Nat} {x r q : Int} (h : Ans f x r (okN q) (okE q)) (hq : In64 q) : Ans f x r q 0 := by
  rwa [okN_in (turn_in hq), okE_in (turn_in hq)] at h
end Go.Proofs.Ytmepmmhhiphfiaa
