/- What money's smallest functions answer, at every number of 64 bits. -/
import Derived.Test.YtcimppdeajhfmaaRows
import Derived.Test.YtcimppdeajhfmaaNum
import Derived.WalkKit
import Derived.WalkSpells
namespace Go.Proofs.Ytcimppdeajhfmaa
open Go.RowKit
theorem hide {p : Prop} (h : p) : Hid p := h
theorem unhide {p : Prop} (h : Hid p) : p := h
theorem plus_any (a b : Int) (ha : In64 a) (hb : In64 b) (w : World) :
    Calls Try.prog 25 #[.int .i64 a, .int .i64 b] w fun e w' => e = .returned (.tuple #[.int .i64 (wrap64 (a + b)), .int .i64 (turn (a + b))]) ∧ w = w' := by
  by_cases h0 : 0 < b
  · have h9 : ¬ b < 0 := by omega
    by_cases h1 : wrap64 (a + b) < a
    · rw [plus_up ha hb h0 h1]
      go_enter Try.func25, Try.ntmps25
      go_wp2
      go_ret2
      exact ⟨rfl, rfl⟩
    · rw [plus_pos ha hb h0 h1]
      go_enter Try.func25, Try.ntmps25
      go_wp2
      go_ret2
      exact ⟨rfl, rfl⟩
  · by_cases h9 : b < 0
    · by_cases h1 : a < wrap64 (a + b)
      · rw [plus_down ha hb h9 h1]
        go_enter Try.func25, Try.ntmps25
        go_wp2
        go_ret2
        exact ⟨rfl, rfl⟩
      · rw [plus_neg ha hb h9 h1]
        go_enter Try.func25, Try.ntmps25
        go_wp2
        go_ret2
        exact ⟨rfl, rfl⟩
    · rw [plus_zero ha h0 h9]
      go_enter Try.func25, Try.ntmps25
      go_wp2
      go_ret2
      exact ⟨rfl, rfl⟩

theorem minus_any (a b : Int) (ha : In64 a) (hb : In64 b) (w : World) :
    Calls Try.prog 27 #[.int .i64 a, .int .i64 b] w fun e w' => e = .returned (.tuple #[.int .i64 (wrap64 (a - b)), .int .i64 (turn (a - b))]) ∧ w = w' := by
  by_cases h0 : 0 < b
  · have h9 : ¬ b < 0 := by omega
    by_cases h1 : a < wrap64 (a - b)
    · rw [minus_down ha hb h0 h1]
      go_enter Try.func27, Try.ntmps27
      go_wp2
      go_ret2
      exact ⟨rfl, rfl⟩
    · rw [minus_neg ha hb h0 h1]
      go_enter Try.func27, Try.ntmps27
      go_wp2
      go_ret2
      exact ⟨rfl, rfl⟩
  · by_cases h9 : b < 0
    · by_cases h1 : wrap64 (a - b) < a
      · rw [minus_up ha hb h9 h1]
        go_enter Try.func27, Try.ntmps27
        go_wp2
        go_ret2
        exact ⟨rfl, rfl⟩
      · rw [minus_pos ha hb h9 h1]
        go_enter Try.func27, Try.ntmps27
        go_wp2
        go_ret2
        exact ⟨rfl, rfl⟩
    · rw [minus_zero ha h0 h9]
      go_enter Try.func27, Try.ntmps27
      go_wp2
      go_ret2
      exact ⟨rfl, rfl⟩

theorem exact_no (n t : Int) (h : (t != 0) = true) (w : World) :
    Calls Try.prog 26 #[.int .i64 n, .int .i64 t] w fun e w' => e = .returned (.tuple #[.int .i64 0, .int .i64 3]) ∧ w = w' := by
  go_enter Try.func26, Try.ntmps26
  go_wp2
  go_ret2
  exact ⟨rfl, rfl⟩
theorem exact_yes (n t : Int) (h : (t != 0) = false) (w : World) :
    Calls Try.prog 26 #[.int .i64 n, .int .i64 t] w fun e w' => e = .returned (.tuple #[.int .i64 n, .int .i64 0]) ∧ w = w' := by
  go_enter Try.func26, Try.ntmps26
  go_wp2
  go_ret2
  exact ⟨rfl, rfl⟩
/-- What 'exact' makes of a true number that has been wrapped, and of a sign that it went round. -/
theorem exact_any (n t : Int) (h : t = 0 ↔ turn n = 0) (w : World) :
    Calls Try.prog 26 #[.int .i64 (wrap64 n), .int .i64 t] w fun e w' => e = .returned (.tuple #[.int .i64 (okN n), .int .i64 (okE n)]) ∧ w = w' := by
  by_cases h0 : t = 0
  · rw [okN_in (h.1 h0), okE_in (h.1 h0), wrap_in (in_of_turn (h.1 h0))]
    exact exact_yes n t (by simp [h0]) w
  · rw [okN_out (fun c => h0 (h.2 c)), okE_out (fun c => h0 (h.2 c))]
    exact exact_no _ t (by simp [h0]) w

theorem add_any (a b : Int) (ha : In64 a) (hb : In64 b) (w : World) :
    Calls Try.prog 10 #[.int .i64 a, .int .i64 b] w fun e w' => e = .returned (.tuple #[.int .i64 (okN (a + b)), .int .i64 (okE (a + b))]) ∧ w = w' := by
  go_enter Try.func10, Try.ntmps10
  go_wp2_with fail
  refine (plus_any a b ha hb _).mono ?_
  rintro e w' ⟨rfl, rfl⟩
  go_wp2_with fail
  refine (exact_any (a + b) _ Iff.rfl _).mono ?_
  rintro e w' ⟨rfl, rfl⟩
  go_wp2_with fail
  go_ret2
  exact ⟨rfl, rfl⟩
theorem sub_any (a b : Int) (ha : In64 a) (hb : In64 b) (w : World) :
    Calls Try.prog 12 #[.int .i64 a, .int .i64 b] w fun e w' => e = .returned (.tuple #[.int .i64 (okN (a - b)), .int .i64 (okE (a - b))]) ∧ w = w' := by
  go_enter Try.func12, Try.ntmps12
  go_wp2_with fail
  refine (minus_any a b ha hb _).mono ?_
  rintro e w' ⟨rfl, rfl⟩
  go_wp2_with fail
  refine (exact_any (a - b) _ Iff.rfl _).mono ?_
  rintro e w' ⟨rfl, rfl⟩
  go_wp2_with fail
  go_ret2
  exact ⟨rfl, rfl⟩
theorem minus_zero_any (a : Int) (ha : In64 a) (w : World) :
    Calls Try.prog 27 #[.int .i64 0, .int .i64 a] w fun e w' => e = .returned (.tuple #[.int .i64 (wrap64 (-a)), .int .i64 (turn (-a))]) ∧ w = w' := by
  have h := minus_any 0 a ⟨by omega, by omega⟩ ha w
  rw [Int.zero_sub] at h
  exact h
theorem neg_any (a : Int) (ha : In64 a) (w : World) :
    Calls Try.prog 16 #[.int .i64 a] w fun e w' => e = .returned (.tuple #[.int .i64 (okN (-a)), .int .i64 (okE (-a))]) ∧ w = w' := by
  go_enter Try.func16, Try.ntmps16
  go_wp2_with fail
  refine (minus_zero_any a ha _).mono ?_
  rintro e w' ⟨rfl, rfl⟩
  go_wp2_with fail
  refine (exact_any (-a) _ Iff.rfl _).mono ?_
  rintro e w' ⟨rfl, rfl⟩
  go_wp2_with fail
  go_ret2
  exact ⟨rfl, rfl⟩
theorem times_any (a b : Int) (ha : In64 a) (hb : In64 b) (w : World) :
    Calls Try.prog 28 #[.int .i64 a, .int .i64 b] w fun e w' => ∃ t : Int, e = .returned (.tuple #[.int .i64 (wrap64 (a * b)), .int .i64 t]) ∧ (t = 0 ↔ turn (a * b) = 0) ∧ w = w' := by
  by_cases h0 : b = -1
  · subst h0
    rw [show a * -1 = -a from by omega]
    go_enter Try.func28, Try.ntmps28
    go_wp2_with fail
    refine (minus_zero_any a ha _).mono ?_
    rintro e w' ⟨rfl, rfl⟩
    go_wp2_with fail
    go_ret2
    exact ⟨_, rfl, Iff.rfl, rfl⟩
  · have hm : (b == -1) = false := by simp [h0]
    by_cases hz : b = 0
    · subst hz
      rw [Int.mul_zero, wrap_in (n := 0) ⟨by omega, by omega⟩]
      have H := hide (turn_in (n := 0) ⟨by omega, by omega⟩)
      go_enter Try.func28, Try.ntmps28
      go_wp2
      go_ret2
      exact ⟨_, rfl, ⟨fun _ => unhide H, fun _ => rfl⟩, rfl⟩
    · have hz' : (b != 0) = true := by simp [hz]
      have hi := times_iff ha hb hz h0
      by_cases ht : turn (a * b) = 0
      · have h1 : (wrap64 ((wrap64 (a * b)).tdiv b) != a) = false := by simp [hi.2 ht]
        have H := hide ht
        clear ht hi h0
        go_enter Try.func28, Try.ntmps28
        go_wp2
        go_ret2
        exact ⟨_, rfl, ⟨fun _ => unhide H, fun _ => rfl⟩, rfl⟩
      · have h1 : (wrap64 ((wrap64 (a * b)).tdiv b) != a) = true := by
          rw [bne_iff_ne]; exact fun c => ht (hi.1 c)
        have H := hide ht
        clear ht hi h0
        go_enter Try.func28, Try.ntmps28
        go_wp2
        go_ret2
        exact ⟨_, rfl, ⟨fun c => absurd c (by decide), fun c => absurd c (unhide H)⟩, rfl⟩
theorem mul_any (a b : Int) (ha : In64 a) (hb : In64 b) (w : World) :
    Calls Try.prog 14 #[.int .i64 a, .int .i64 b] w fun e w' => e = .returned (.tuple #[.int .i64 (okN (a * b)), .int .i64 (okE (a * b))]) ∧ w = w' := by
  go_enter Try.func14, Try.ntmps14
  go_wp2_with fail
  refine (times_any a b ha hb _).mono ?_
  rintro e w' ⟨t, rfl, ht, rfl⟩
  have H := hide ht
  clear ht
  go_wp2_with fail
  refine (exact_any (a * b) _ (unhide H) _).mono ?_
  rintro e w' ⟨rfl, rfl⟩
  go_wp2_with fail
  go_ret2
  exact ⟨rfl, rfl⟩
theorem may_any (a : Int) (w : World) :
    Calls Try.prog 18 #[.int .i64 a] w fun e w' => e = .returned (.bool (may a)) ∧ w = w' := by
  by_cases h0 : -10000000000000 ≤ a
  · by_cases h1 : a ≤ 10000000000000
    · rw [show may a = true from by simp [may, h0, h1]]
      go_enter Try.func18, Try.ntmps18
      go_wp2
      go_ret
      exact ⟨rfl, rfl⟩
    · rw [show may a = false from by simp [may, h1]]
      go_enter Try.func18, Try.ntmps18
      go_wp2
      go_ret
      exact ⟨rfl, rfl⟩
  · rw [show may a = false from by simp [may, h0]]
    go_enter Try.func18, Try.ntmps18
    go_wp2
    go_ret
    exact ⟨rfl, rfl⟩
theorem rmay_any (a : Int) (w : World) :
    Calls Try.prog 19 #[.int .i64 a] w fun e w' => e = .returned (.bool (may a)) ∧ w = w' := by
  by_cases h0 : -10000000000000 ≤ a
  · by_cases h1 : a ≤ 10000000000000
    · rw [show may a = true from by simp [may, h0, h1]]
      go_enter Try.func19, Try.ntmps19
      go_wp2
      go_ret
      exact ⟨rfl, rfl⟩
    · rw [show may a = false from by simp [may, h1]]
      go_enter Try.func19, Try.ntmps19
      go_wp2
      go_ret
      exact ⟨rfl, rfl⟩
  · rw [show may a = false from by simp [may, h0]]
    go_enter Try.func19, Try.ntmps19
    go_wp2
    go_ret
    exact ⟨rfl, rfl⟩
end Go.Proofs.Ytcimppdeajhfmaa
