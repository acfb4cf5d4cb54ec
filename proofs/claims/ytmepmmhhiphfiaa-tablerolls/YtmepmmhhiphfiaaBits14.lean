/- What the reference of stage 3 answers: May, near, Interest, Grow, Discount, Power, Part; and what rate's Power and Part answer where their arguments are wrong. -/
import Derived.Test.YtmepmmhhiphfiaaBits13
namespace Go.Proofs.Ytmepmmhhiphfiaa
open Go.RowKit
set_option linter.unusedSimpArgs false
theorem rmay_any (r : Int) (w : World) : Calls Try.prog 23 #[.int .i64 r] w fun e w' => e = .returned (.bool (mayB r)) ∧ w = w' := by
  by_cases h1 : -990000000000 ≤ r
  · by_cases h2 : r ≤ 10000000000000
    · rw [mayB_yes (show May r from ⟨h1, h2⟩)]
      have d1 : decide (-990000000000 ≤ r) = true := decide_eq_true h1
      have d2 : decide (r ≤ 10000000000000) = true := decide_eq_true h2
      go_enter Try.func23, Try.ntmps23
      go_wp2_with fail
      go_ret
      exact ⟨rfl, rfl⟩
    · rw [mayB_no (show ¬ May r from fun h => h2 h.2)]
      have d1 : decide (-990000000000 ≤ r) = true := decide_eq_true h1
      have d2 : decide (r ≤ 10000000000000) = false := decide_eq_false h2
      go_enter Try.func23, Try.ntmps23
      go_wp2_with fail
      go_ret
      exact ⟨rfl, rfl⟩
  · rw [mayB_no (show ¬ May r from fun h => h1 h.1)]
    have d1 : decide (-990000000000 ≤ r) = false := decide_eq_false h1
    go_enter Try.func23, Try.ntmps23
    go_wp2_with fail
    go_ret
    exact ⟨rfl, rfl⟩
theorem rmay_yes {r : Int} (h : May r) (w : World) : Calls Try.prog 23 #[.int .i64 r] w fun e w' => e = .returned (.bool true) ∧ w = w' := by
  have := rmay_any r w
  rwa [mayB_yes h] at this
theorem rmay_no {r : Int} (h : ¬ May r) (w : World) : Calls Try.prog 23 #[.int .i64 r] w fun e w' => e = .returned (.bool false) ∧ w = w' := by
  have := rmay_any r w
  rwa [mayB_no h] at this
def Nears (r a b c n e : Int) : Prop := ∀ w : World, Calls Try.prog 32 #[.int .i64 r, .int .i64 a, .int .i64 b, .int .i64 c] w fun z w' => z = .returned (.tuple #[.int .i64 n, .int .i64 e]) ∧ Below w.heap.size w w'
theorem near_no (r a b c : Int) (h : ¬ May r) : Nears r a b c 0 2 := by
  intro w
  have hm := hide (rmay_no h)
  go_enter Try.func32, Try.ntmps32
  go_wp2_with fail
  refine (unhide hm _).mono ?_
  rintro e w1 ⟨rfl, rfl⟩
  go_wp2_with fail
  go_ret2
  exact ⟨rfl, Below.refl _ _⟩
theorem near_yes (r a b c : Int) (h : May r) (ha : In64 a) (hb : In64 b) (hc : In64 c) (h0 : 0 < c) : Nears r a b c (okN (near (a * b) c)) (okE (near (a * b) c)) := by
  intro w
  have hm := hide (rmay_yes h)
  have hd := hide (rmd a b c ha hb hc h0)
  obtain ⟨n, hn⟩ : ∃ n, n = okN (near (a * b) c) := ⟨_, rfl⟩
  obtain ⟨f, hf⟩ : ∃ f, f = okE (near (a * b) c) := ⟨_, rfl⟩
  rw [← hn, ← hf] at hd ⊢
  clear hn hf
  go_enter Try.func32, Try.ntmps32
  go_wp2_with fail
  refine (unhide hm _).mono ?_
  rintro e w1 ⟨rfl, rfl⟩
  go_wp2_with fail
  refine (unhide hd _).mono ?_
  rintro e w2 ⟨rfl, hb2⟩
  replace hb2 := hide hb2
  go_wp2_with fail
  go_ret2
  exact ⟨rfl, unhide hb2⟩
theorem rint_of {x r n e : Int} (h : Nears r x r 1000000000000 n e) : Ans 24 x r n e := by
  intro w
  replace h := hide h
  go_enter Try.func24, Try.ntmps24
  go_wp2_with fail
  refine (unhide h _).mono ?_
  rintro e w2 ⟨rfl, hb2⟩
  replace hb2 := hide hb2
  go_wp2_with fail
  go_ret2
  exact ⟨rfl, unhide hb2⟩
theorem unit_in {r : Int} (h : May r) : In64 (1000000000000 + r) := by have := h.1; have := h.2; exact ⟨by omega, by omega⟩
theorem may_in {r : Int} (h : May r) : In64 r := by have := h.1; have := h.2; exact ⟨by omega, by omega⟩
theorem rint_ok {x r : Int} (hx : In64 x) (h : May r) : Ans 24 x r (okN (qI x r)) (okE (qI x r)) := rint_of (near_yes r x r _ h hx (may_in h) ⟨by omega, by omega⟩ (by omega))
theorem rint_no {x r : Int} (h : ¬ May r) : Ans 24 x r 0 2 := rint_of (near_no r x r _ h)
end Go.Proofs.Ytmepmmhhiphfiaa
