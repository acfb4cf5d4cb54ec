/- What the document's answers for sums, differences, products and negatives are, at every number of 64 bits: the same as money's. -/
import Derived.Test.YtcimppdeajhfmaaLeaf
namespace Go.Proofs.Ytcimppdeajhfmaa
open Go.RowKit
theorem out_of {n : Int} (h : ¬ turn n = 0) : 9223372036854775807 < n ∨ n < -9223372036854775808 := by
  by_cases h1 : 9223372036854775807 < n
  · exact Or.inl h1
  · by_cases h2 : n < -9223372036854775808
    · exact Or.inr h2
    · exact absurd (turn_in ⟨by omega, by omega⟩) h
theorem radd_any (a b : Int) (ha : In64 a) (hb : In64 b) (w : World) :
    Calls Try.prog 11 #[.int .i64 a, .int .i64 b] w fun e w' => e = .returned (.tuple #[.int .i64 (okN (a + b)), .int .i64 (okE (a + b))]) ∧ w = w' := by
  have a1 := ha.lo
  have a2 := ha.hi
  have b1 := hb.lo
  have b2 := hb.hi
  by_cases ht : turn (a + b) = 0
  · rw [okN_in ht, okE_in ht]
    have c := in_of_turn ht
    have c1 := c.lo
    have c2 := c.hi
    clear ht c ha hb
    by_cases h0 : 0 < b
    · go_enter Try.func11, Try.ntmps11
      go_wp2
      go_ret2
      exact ⟨rfl, rfl⟩
    · by_cases h9 : b < 0
      · go_enter Try.func11, Try.ntmps11
        go_wp2
        go_ret2
        exact ⟨rfl, rfl⟩
      · go_enter Try.func11, Try.ntmps11
        go_wp2
        go_ret2
        exact ⟨rfl, rfl⟩
  · rw [okN_out ht, okE_out ht]
    have c := out_of ht
    clear ht ha hb
    rcases c with c | c
    · have h0 : 0 < b := by omega
      go_enter Try.func11, Try.ntmps11
      go_wp2
      go_ret2
      exact ⟨rfl, rfl⟩
    · have h0 : ¬ 0 < b := by omega
      have h9 : b < 0 := by omega
      go_enter Try.func11, Try.ntmps11
      go_wp2
      go_ret2
      exact ⟨rfl, rfl⟩
theorem rsub_any (a b : Int) (ha : In64 a) (hb : In64 b) (w : World) :
    Calls Try.prog 13 #[.int .i64 a, .int .i64 b] w fun e w' => e = .returned (.tuple #[.int .i64 (okN (a - b)), .int .i64 (okE (a - b))]) ∧ w = w' := by
  have a1 := ha.lo
  have a2 := ha.hi
  have b1 := hb.lo
  have b2 := hb.hi
  by_cases ht : turn (a - b) = 0
  · rw [okN_in ht, okE_in ht]
    have c := in_of_turn ht
    have c1 := c.lo
    have c2 := c.hi
    clear ht c ha hb
    by_cases h0 : 0 < b
    · have h9 : ¬ b < 0 := by omega
      go_enter Try.func13, Try.ntmps13
      go_wp2
      go_ret2
      exact ⟨rfl, rfl⟩
    · by_cases h9 : b < 0
      · go_enter Try.func13, Try.ntmps13
        go_wp2
        go_ret2
        exact ⟨rfl, rfl⟩
      · go_enter Try.func13, Try.ntmps13
        go_wp2
        go_ret2
        exact ⟨rfl, rfl⟩
  · rw [okN_out ht, okE_out ht]
    have c := out_of ht
    clear ht ha hb
    rcases c with c | c
    · have h0 : ¬ 0 < b := by omega
      have h9 : b < 0 := by omega
      go_enter Try.func13, Try.ntmps13
      go_wp2
      go_ret2
      exact ⟨rfl, rfl⟩
    · have h0 : 0 < b := by omega
      have h9 : ¬ b < 0 := by omega
      go_enter Try.func13, Try.ntmps13
      go_wp2
      go_ret2
      exact ⟨rfl, rfl⟩
theorem rsub_zero_any (a : Int) (ha : In64 a) (w : World) :
    Calls Try.prog 13 #[.int .i64 0, .int .i64 a] w fun e w' => e = .returned (.tuple #[.int .i64 (okN (-a)), .int .i64 (okE (-a))]) ∧ w = w' := by
  have h := rsub_any 0 a ⟨by omega, by omega⟩ ha w
  rw [Int.zero_sub] at h
  exact h
theorem rneg_any (a : Int) (ha : In64 a) (w : World) :
    Calls Try.prog 17 #[.int .i64 a] w fun e w' => e = .returned (.tuple #[.int .i64 (okN (-a)), .int .i64 (okE (-a))]) ∧ w = w' := by
  go_enter Try.func17, Try.ntmps17
  go_wp2_with fail
  refine (rsub_zero_any a ha _).mono ?_
  rintro e w' ⟨rfl, rfl⟩
  go_wp2_with fail
  go_ret2
  exact ⟨rfl, rfl⟩
theorem rmul_any (a b : Int) (ha : In64 a) (hb : In64 b) (w : World) :
    Calls Try.prog 15 #[.int .i64 a, .int .i64 b] w fun e w' => e = .returned (.tuple #[.int .i64 (okN (a * b)), .int .i64 (okE (a * b))]) ∧ w = w' := by
  have z0 : turn 0 = 0 := turn_in ⟨by omega, by omega⟩
  by_cases ha0 : a = 0
  · subst ha0
    rw [Int.zero_mul, okN_in z0, okE_in z0]
    clear z0
    go_enter Try.func15, Try.ntmps15
    go_wp2
    go_ret2
    exact ⟨rfl, rfl⟩
  have ta : (a == 0) = false := by simp [ha0]
  by_cases hb0 : b = 0
  · subst hb0
    rw [Int.mul_zero, okN_in z0, okE_in z0]
    clear z0 ha0
    go_enter Try.func15, Try.ntmps15
    go_wp2
    go_ret2
    exact ⟨rfl, rfl⟩
  clear z0
  have tb : (b == 0) = false := by simp [hb0]
  by_cases ha1 : a = -1
  · subst ha1
    rw [show -1 * b = -b from by omega]
    go_enter Try.func15, Try.ntmps15
    go_wp2_with fail
    refine (rneg_any b hb _).mono ?_
    rintro e w' ⟨rfl, rfl⟩
    go_wp2_with fail
    go_ret2
    exact ⟨rfl, rfl⟩
  have ta1 : (a == -1) = false := by simp [ha1]
  by_cases hb1 : b = -1
  · subst hb1
    rw [show a * -1 = -a from by omega]
    clear ha0 ha1
    go_enter Try.func15, Try.ntmps15
    go_wp2_with fail
    refine (rneg_any a ha _).mono ?_
    rintro e w' ⟨rfl, rfl⟩
    go_wp2_with fail
    go_ret2
    exact ⟨rfl, rfl⟩
  have tb1 : (b == -1) = false := by simp [hb1]
  have hi := times_iff ha hb hb0 hb1
  by_cases ht : turn (a * b) = 0
  · rw [okN_in ht, okE_in ht]
    have hw := hide (wrap_in (in_of_turn ht))
    have h1 : (wrap64 ((wrap64 (a * b)).tdiv b) == a) = true := by simp [hi.2 ht]
    clear ht hi ha0 ha1 hb1
    go_enter Try.func15, Try.ntmps15
    go_wp2
    go_ret2
    exact ⟨by rw [unhide hw]; rfl, rfl⟩
  · rw [okN_out ht, okE_out ht]
    have h1 : (wrap64 ((wrap64 (a * b)).tdiv b) == a) = false := by
      rw [beq_eq_false_iff_ne]; exact fun c => ht (hi.1 c)
    clear ht hi ha0 ha1 hb1
    go_enter Try.func15, Try.ntmps15
    go_wp2
    go_ret2
    exact ⟨rfl, rfl⟩
end Go.Proofs.Ytcimppdeajhfmaa
