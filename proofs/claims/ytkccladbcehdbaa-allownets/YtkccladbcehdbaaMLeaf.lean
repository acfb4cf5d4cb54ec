/- What money's smallest functions answer, at every number of 64 bits. -/
import Derived.Test.YtkccladbcehdbaaMRow
import Derived.WalkKit
import Derived.WalkSpells
import Derived.ProofKit
import Derived.Below
import Derived.OpenShut
import Derived.ShutString
import Derived.ChangeOld
import Derived.Deep.Draws
import Derived.Deep.OwnRows
namespace Go.Proofs.Ytkccladbcehdbaa.Mn
open Go.RowKit
theorem plus_any (a b : Int) (ha : In64 a) (hb : In64 b) (w : World) :
    Calls Try.prog 38 #[.int .i64 a, .int .i64 b] w fun e w' => e = .returned (.tuple #[.int .i64 (wrap64 (a + b)), .int .i64 (turn (a + b))]) ∧ w = w' := by
  by_cases h0 : 0 < b
  · have h9 : ¬ b < 0 := by omega
    by_cases h1 : wrap64 (a + b) < a
    · rw [plus_up ha hb h0 h1]
      go_enter Try.func38, Try.ntmps38
      go_wp2
      go_ret2
      exact ⟨rfl, rfl⟩
    · rw [plus_pos ha hb h0 h1]
      go_enter Try.func38, Try.ntmps38
      go_wp2
      go_ret2
      exact ⟨rfl, rfl⟩
  · by_cases h9 : b < 0
    · by_cases h1 : a < wrap64 (a + b)
      · rw [plus_down ha hb h9 h1]
        go_enter Try.func38, Try.ntmps38
        go_wp2
        go_ret2
        exact ⟨rfl, rfl⟩
      · rw [plus_neg ha hb h9 h1]
        go_enter Try.func38, Try.ntmps38
        go_wp2
        go_ret2
        exact ⟨rfl, rfl⟩
    · rw [plus_zero ha h0 h9]
      go_enter Try.func38, Try.ntmps38
      go_wp2
      go_ret2
      exact ⟨rfl, rfl⟩

theorem exact_no (n t : Int) (h : (t != 0) = true) (w : World) :
    Calls Try.prog 34 #[.int .i64 n, .int .i64 t] w fun e w' => e = .returned (.tuple #[.int .i64 0, .int .i64 3]) ∧ w = w' := by
  go_enter Try.func34, Try.ntmps34
  go_wp2
  go_ret2
  exact ⟨rfl, rfl⟩
theorem exact_yes (n t : Int) (h : (t != 0) = false) (w : World) :
    Calls Try.prog 34 #[.int .i64 n, .int .i64 t] w fun e w' => e = .returned (.tuple #[.int .i64 n, .int .i64 0]) ∧ w = w' := by
  go_enter Try.func34, Try.ntmps34
  go_wp2
  go_ret2
  exact ⟨rfl, rfl⟩
/-- What 'exact' makes of a true number that has been wrapped, and of a sign that it went round. -/
theorem exact_any (n t : Int) (h : t = 0 ↔ turn n = 0) (w : World) :
    Calls Try.prog 34 #[.int .i64 (wrap64 n), .int .i64 t] w fun e w' => e = .returned (.tuple #[.int .i64 (okN n), .int .i64 (okE n)]) ∧ w = w' := by
  by_cases h0 : t = 0
  · rw [okN_in (h.1 h0), okE_in (h.1 h0), wrap_in (in_of_turn (h.1 h0))]
    exact exact_yes n t (by simp [h0]) w
  · rw [okN_out (fun c => h0 (h.2 c)), okE_out (fun c => h0 (h.2 c))]
    exact exact_no _ t (by simp [h0]) w

theorem out_of {n : Int} (h : ¬ turn n = 0) : 9223372036854775807 < n ∨ n < -9223372036854775808 := by
  by_cases h1 : 9223372036854775807 < n
  · exact Or.inl h1
  · by_cases h2 : n < -9223372036854775808
    · exact Or.inr h2
    · exact absurd (turn_in ⟨by omega, by omega⟩) h
theorem radd_any (a b : Int) (ha : In64 a) (hb : In64 b) (w : World) :
    Calls Try.prog 28 #[.int .i64 a, .int .i64 b] w fun e w' => e = .returned (.tuple #[.int .i64 (okN (a + b)), .int .i64 (okE (a + b))]) ∧ w = w' := by
  have a1 := ha.lo
  have a2 := ha.hi
  have b1 := hb.lo
  have b2 := hb.hi
  by_cases ht : turn (a + b) = 0
  · rw [okN_in ht, okE_in ht]
    have c := in_of_turn ht
    have c1 := c.lo
    have c2 := c.hi
    clear ht c ha hb
    by_cases h0 : 0 < b
    · go_enter Try.func28, Try.ntmps28
      go_wp2
      go_ret2
      exact ⟨rfl, rfl⟩
    · by_cases h9 : b < 0
      · go_enter Try.func28, Try.ntmps28
        go_wp2
        go_ret2
        exact ⟨rfl, rfl⟩
      · go_enter Try.func28, Try.ntmps28
        go_wp2
        go_ret2
        exact ⟨rfl, rfl⟩
  · rw [okN_out ht, okE_out ht]
    have c := out_of ht
    clear ht ha hb
    rcases c with c | c
    · have h0 : 0 < b := by omega
      go_enter Try.func28, Try.ntmps28
      go_wp2
      go_ret2
      exact ⟨rfl, rfl⟩
    · have h0 : ¬ 0 < b := by omega
      have h9 : b < 0 := by omega
      go_enter Try.func28, Try.ntmps28
      go_wp2
      go_ret2
      exact ⟨rfl, rfl⟩
theorem minus_any (a b : Int) (ha : In64 a) (hb : In64 b) (w : World) :
    Calls Try.prog 39 #[.int .i64 a, .int .i64 b] w fun e w' => e = .returned (.tuple #[.int .i64 (wrap64 (a - b)), .int .i64 (turn (a - b))]) ∧ w = w' := by
  by_cases h0 : 0 < b
  · have h9 : ¬ b < 0 := by omega
    by_cases h1 : a < wrap64 (a - b)
    · rw [minus_down ha hb h0 h1]
      go_enter Try.func39, Try.ntmps39
      go_wp2
      go_ret2
      exact ⟨rfl, rfl⟩
    · rw [minus_neg ha hb h0 h1]
      go_enter Try.func39, Try.ntmps39
      go_wp2
      go_ret2
      exact ⟨rfl, rfl⟩
  · by_cases h9 : b < 0
    · by_cases h1 : wrap64 (a - b) < a
      · rw [minus_up ha hb h9 h1]
        go_enter Try.func39, Try.ntmps39
        go_wp2
        go_ret2
        exact ⟨rfl, rfl⟩
      · rw [minus_pos ha hb h9 h1]
        go_enter Try.func39, Try.ntmps39
        go_wp2
        go_ret2
        exact ⟨rfl, rfl⟩
    · rw [minus_zero ha h0 h9]
      go_enter Try.func39, Try.ntmps39
      go_wp2
      go_ret2
      exact ⟨rfl, rfl⟩

theorem sub_any (a b : Int) (ha : In64 a) (hb : In64 b) (w : World) :
    Calls Try.prog 36 #[.int .i64 a, .int .i64 b] w fun e w' => e = .returned (.tuple #[.int .i64 (okN (a - b)), .int .i64 (okE (a - b))]) ∧ w = w' := by
  go_enter Try.func36, Try.ntmps36
  go_wp2_with fail
  refine (minus_any a b ha hb _).mono ?_
  rintro e w' ⟨rfl, rfl⟩
  go_wp2_with fail
  refine (exact_any (a - b) _ Iff.rfl _).mono ?_
  rintro e w' ⟨rfl, rfl⟩
  go_wp2_with fail
  go_ret2
  exact ⟨rfl, rfl⟩
theorem rsub_any (a b : Int) (ha : In64 a) (hb : In64 b) (w : World) :
    Calls Try.prog 29 #[.int .i64 a, .int .i64 b] w fun e w' => e = .returned (.tuple #[.int .i64 (okN (a - b)), .int .i64 (okE (a - b))]) ∧ w = w' := by
  have a1 := ha.lo
  have a2 := ha.hi
  have b1 := hb.lo
  have b2 := hb.hi
  by_cases ht : turn (a - b) = 0
  · rw [okN_in ht, okE_in ht]
    have c := in_of_turn ht
    have c1 := c.lo
    have c2 := c.hi
    clear ht c ha hb
    by_cases h0 : 0 < b
    · have h9 : ¬ b < 0 := by omega
      go_enter Try.func29, Try.ntmps29
      go_wp2
      go_ret2
      exact ⟨rfl, rfl⟩
    · by_cases h9 : b < 0
      · go_enter Try.func29, Try.ntmps29
        go_wp2
        go_ret2
        exact ⟨rfl, rfl⟩
      · go_enter Try.func29, Try.ntmps29
        go_wp2
        go_ret2
        exact ⟨rfl, rfl⟩
  · rw [okN_out ht, okE_out ht]
    have c := out_of ht
    clear ht ha hb
    rcases c with c | c
    · have h0 : ¬ 0 < b := by omega
      have h9 : b < 0 := by omega
      go_enter Try.func29, Try.ntmps29
      go_wp2
      go_ret2
      exact ⟨rfl, rfl⟩
    · have h0 : 0 < b := by omega
      have h9 : ¬ b < 0 := by omega
      go_enter Try.func29, Try.ntmps29
      go_wp2
      go_ret2
      exact ⟨rfl, rfl⟩
theorem add_any (a b : Int) (ha : In64 a) (hb : In64 b) (w : World) :
    Calls Try.prog 35 #[.int .i64 a, .int .i64 b] w fun e w' => e = .returned (.tuple #[.int .i64 (okN (a + b)), .int .i64 (okE (a + b))]) ∧ w = w' := by
  go_enter Try.func35, Try.ntmps35
  go_wp2_with fail
  refine (plus_any a b ha hb _).mono ?_
  rintro e w' ⟨rfl, rfl⟩
  go_wp2_with fail
  refine (exact_any (a + b) _ Iff.rfl _).mono ?_
  rintro e w' ⟨rfl, rfl⟩
  go_wp2_with fail
  go_ret2
  exact ⟨rfl, rfl⟩
end Go.Proofs.Ytkccladbcehdbaa.Mn
