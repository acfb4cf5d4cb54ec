/- What the reference of stage 3 answers: MulDiv to the nearer one, near, Interest, Grow, Discount, May, Power, Part. -/
import Derived.Test.YtmepmmhhiphfiaaBits12
import Derived.Test.YtmepmmhhiphfiaaRate
namespace Go.Proofs.Ytmepmmhhiphfiaa
open Go.RowKit
set_option linter.unusedSimpArgs false
theorem sign_mul {a b : Int} (h : a * b ≠ 0) : (decide (a < 0) != decide (b < 0)) = decide (a * b < 0) := by
  have ha : a ≠ 0 := fun c => h (by rw [c, Int.zero_mul])
  have hb : b ≠ 0 := fun c => h (by rw [c, Int.mul_zero])
  by_cases a0 : a < 0
  · by_cases b0 : b < 0
    · have := Int.mul_pos_of_neg_of_neg a0 b0
      rw [decide_eq_true a0, decide_eq_true b0, decide_eq_false (by omega)]; rfl
    · have := Int.mul_neg_of_neg_of_pos a0 (show 0 < b by omega)
      rw [decide_eq_true a0, decide_eq_false b0, decide_eq_true this]; rfl
  · by_cases b0 : b < 0
    · have := Int.mul_neg_of_pos_of_neg (show 0 < a by omega) b0
      rw [decide_eq_false a0, decide_eq_true b0, decide_eq_true this]; rfl
    · have := Int.mul_pos (show 0 < a by omega) (show 0 < b by omega)
      rw [decide_eq_false a0, decide_eq_false b0, decide_eq_false (by omega)]; rfl
theorem near_times {a b c : Int} {l : Bool} {f : Nat → Nat} (h : Times a b l f) (hc : 0 < c) : Near l (val f 260) c = near (a * b) c := by
  obtain ⟨-, hl, hv⟩ := h
  unfold Near
  rw [hv, ← Int.natAbs_mul, decide_eq_false (show ¬ c < 0 by omega)]
  have e : ((c.natAbs : Nat) : Int) = c := by omega
  have r := ref_near (a * b) c.natAbs (by omega) l (fun h0 => by rw [hl]; exact sign_mul h0)
  rw [e] at r
  rw [← r]
  unfold sgn
  cases l <;> rfl
theorem times_small {a b : Int} (ha : In64 a) (hb : In64 b) : a.natAbs * b.natAbs + 1 < P2 260 := by
  have h1 : a.natAbs ≤ 9223372036854775808 := by have := ha.lo; have := ha.hi; omega
  have h2 : b.natAbs ≤ 9223372036854775808 := by have := hb.lo; have := hb.hi; omega
  have h3 := Nat.mul_le_mul h1 h2
  have h4 : (9223372036854775808 : Nat) * 9223372036854775808 = 85070591730234615865843651857942052864 := by decide
  rw [h4] at h3
  have h5 := small_260
  omega
/-- The reference's MulDiv, to the nearer one. -/
theorem rmd (a b c : Int) (ha : In64 a) (hb : In64 b) (hc : In64 c) (h0 : 0 < c) (w : World) : Calls Try.prog 39 #[.int .i64 a, .int .i64 b, .int .i64 c, .int .i64 1] w fun e w' => e = .returned (.tuple #[.int .i64 (okN (near (a * b) c)), .int .i64 (okE (near (a * b) c))]) ∧ Below w.heap.size w w' := by
  have ht := hide (times_any a b ha hb)
  have hd := hide (fun (l : Bool) (f : Nat → Nat) (h : Times a b l f) => rdiv_near l f h.1 c hc (by omega) (by rw [h.2.2]; exact times_small ha hb))
  have hn := hide (fun (l : Bool) (f : Nat → Nat) (h : Times a b l f) => near_times (c := c) h h0)
  go_enter Try.func39, Try.ntmps39
  go_wp2_with fail
  refine (unhide ht _).mono ?_
  rintro e w1 ⟨⟨l, f, hT, rfl⟩, hb1⟩
  have hd2 := unhide hd l f hT
  rw [unhide hn l f hT] at hd2
  replace hd2 := hide hd2
  replace hb1 := hide hb1
  replace hT := hide hT
  clear hd hn ht
  go_wp2_with fail
  refine (unhide hd2 _).mono ?_
  rintro e w2 ⟨rfl, hb2⟩
  replace hb2 := hide (below_via (unhide hb1) hb2)
  go_wp2_with fail
  go_ret2
  exact ⟨rfl, unhide hb2⟩
end Go.Proofs.Ytmepmmhhiphfiaa
