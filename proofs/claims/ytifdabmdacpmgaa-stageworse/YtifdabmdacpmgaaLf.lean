/- The smallest functions of stage: what a mark tells, what may be. -/
import Derived.Test.YtifdabmdacpmgaaBas
import Derived.Handy
namespace Go.Proofs.Ytifdabmdacpmgaa
open Go.RowKit
set_option linter.unusedVariables false
set_option linter.unusedSimpArgs false
/-- The stage that a mark alone tells. -/
def wst (p d : Int) (b : Bool) : Int := if b = true ∨ 90 ≤ p then 3 else if 30 ≤ p ∨ 3 ≤ d then 2 else 1
abbrev okM (p d : Int) : Prop := 0 ≤ p ∧ p ≤ 10000 ∧ -100 ≤ d ∧ d ≤ 100
abbrev okS (s g : Int) : Prop := 1 ≤ s ∧ s ≤ 3 ∧ 0 ≤ g ∧ g ≤ 2 ∧ (s = 1 → g = 0)
theorem wst_bd (p d : Int) (b : Bool) : 1 ≤ wst p d b ∧ wst p d b ≤ 3 := by
  unfold wst
  split
  · omega
  · split <;> omega
theorem fail_a (p d : Int) (w : World) : Calls Try.prog 23 #[.agg #[.int .i64 p, .int .i64 d, .bool true]] w fun e w' => e = .returned (.tuple #[.int .i64 3, .bool true]) ∧ Below w.heap.size w w' := by
  go_enter Try.func23, Try.ntmps23
  go_wp2_with fail
  go_region
  all_goals (try go_wp2_with fail)
  all_goals go_ret2
  all_goals exact ⟨rfl, (below1 w _).drew⟩
theorem fail_b (p d : Int) (q : decide (90 ≤ p) = true) (w : World) : Calls Try.prog 23 #[.agg #[.int .i64 p, .int .i64 d, .bool false]] w fun e w' => e = .returned (.tuple #[.int .i64 3, .bool true]) ∧ Below w.heap.size w w' := by
  go_enter Try.func23, Try.ntmps23
  go_wp2_with fail
  go_region
  all_goals (try go_wp2_with fail)
  all_goals go_ret2
  all_goals exact ⟨rfl, (below1 w _).drew⟩
theorem fail_c (p d : Int) (q : decide (90 ≤ p) = false) (w : World) : Calls Try.prog 23 #[.agg #[.int .i64 p, .int .i64 d, .bool false]] w fun e w' => e = .returned (.tuple #[.int .i64 3, .bool false]) ∧ Below w.heap.size w w' := by
  go_enter Try.func23, Try.ntmps23
  go_wp2_with fail
  go_region
  all_goals (try go_wp2_with fail)
  all_goals go_ret2
  all_goals exact ⟨rfl, (below1 w _).drew⟩
theorem slip_a (p d : Int) (b : Bool) (q : decide (30 ≤ p) = true) (w : World) : Calls Try.prog 24 #[.agg #[.int .i64 p, .int .i64 d, .bool b]] w fun e w' => e = .returned (.tuple #[.int .i64 2, .bool true]) ∧ Below w.heap.size w w' := by
  go_enter Try.func24, Try.ntmps24
  go_wp2_with fail
  go_region
  all_goals (try go_wp2_with fail)
  all_goals go_ret2
  all_goals exact ⟨rfl, (below1 w _).drew⟩
theorem slip_b (p d : Int) (b : Bool) (q : decide (30 ≤ p) = false) (r : decide (3 ≤ d) = true) (w : World) : Calls Try.prog 24 #[.agg #[.int .i64 p, .int .i64 d, .bool b]] w fun e w' => e = .returned (.tuple #[.int .i64 2, .bool true]) ∧ Below w.heap.size w w' := by
  go_enter Try.func24, Try.ntmps24
  go_wp2_with fail
  go_region
  all_goals (try go_wp2_with fail)
  all_goals go_ret2
  all_goals exact ⟨rfl, (below1 w _).drew⟩
theorem slip_c (p d : Int) (b : Bool) (q : decide (30 ≤ p) = false) (r : decide (3 ≤ d) = false) (w : World) : Calls Try.prog 24 #[.agg #[.int .i64 p, .int .i64 d, .bool b]] w fun e w' => e = .returned (.tuple #[.int .i64 2, .bool false]) ∧ Below w.heap.size w w' := by
  go_enter Try.func24, Try.ntmps24
  go_wp2_with fail
  go_region
  all_goals (try go_wp2_with fail)
  all_goals go_ret2
  all_goals exact ⟨rfl, (below1 w _).drew⟩
theorem sound_a (p d : Int) (b : Bool) (w : World) : Calls Try.prog 25 #[.agg #[.int .i64 p, .int .i64 d, .bool b]] w fun e w' => e = .returned (.tuple #[.int .i64 1, .bool true]) ∧ Below w.heap.size w w' := by
  go_enter Try.func25, Try.ntmps25
  go_wp2_with fail
  go_ret2
  exact ⟨rfl, below1 w _⟩
theorem rw_a (p d : Int) (w : World) : Calls Try.prog 12 #[.agg #[.int .i64 p, .int .i64 d, .bool true]] w fun e w' => e = .returned (.int .i64 3) ∧ Below w.heap.size w w' := by
  go_enter Try.func12, Try.ntmps12
  go_wp2_with fail
  go_ret
  exact ⟨rfl, below1 w _⟩
theorem rw_b (p d : Int) (q : decide (90 ≤ p) = true) (w : World) : Calls Try.prog 12 #[.agg #[.int .i64 p, .int .i64 d, .bool false]] w fun e w' => e = .returned (.int .i64 3) ∧ Below w.heap.size w w' := by
  go_enter Try.func12, Try.ntmps12
  go_wp2_with fail
  go_ret
  exact ⟨rfl, below1 w _⟩
theorem rw_c (p d : Int) (q : decide (90 ≤ p) = false) (r : decide (30 ≤ p) = true) (w : World) : Calls Try.prog 12 #[.agg #[.int .i64 p, .int .i64 d, .bool false]] w fun e w' => e = .returned (.int .i64 2) ∧ Below w.heap.size w w' := by
  go_enter Try.func12, Try.ntmps12
  go_wp2_with fail
  go_ret
  exact ⟨rfl, below1 w _⟩
theorem rw_d (p d : Int) (q : decide (90 ≤ p) = false) (r : decide (30 ≤ p) = false) (r2 : decide (3 ≤ d) = true) (w : World) : Calls Try.prog 12 #[.agg #[.int .i64 p, .int .i64 d, .bool false]] w fun e w' => e = .returned (.int .i64 2) ∧ Below w.heap.size w w' := by
  go_enter Try.func12, Try.ntmps12
  go_wp2_with fail
  go_ret
  exact ⟨rfl, below1 w _⟩
theorem rw_e (p d : Int) (q : decide (90 ≤ p) = false) (r : decide (30 ≤ p) = false) (r2 : decide (3 ≤ d) = false) (w : World) : Calls Try.prog 12 #[.agg #[.int .i64 p, .int .i64 d, .bool false]] w fun e w' => e = .returned (.int .i64 1) ∧ Below w.heap.size w w' := by
  go_enter Try.func12, Try.ntmps12
  go_wp2_with fail
  go_ret
  exact ⟨rfl, below1 w _⟩
theorem mm_0 (p d : Int) (b : Bool) (q0 : decide (0 ≤ p) = false) (w : World) : Calls Try.prog 27 #[.agg #[.int .i64 p, .int .i64 d, .bool b]] w fun e w' => e = .returned (.bool false) ∧ Below w.heap.size w w' := by
  go_enter Try.func27, Try.ntmps27
  go_wp2_with fail
  go_ret
  exact ⟨rfl, below1 w _⟩
theorem mm_1 (p d : Int) (b : Bool) (q0 : decide (0 ≤ p) = true) (q1 : decide (p ≤ 10000) = false) (w : World) : Calls Try.prog 27 #[.agg #[.int .i64 p, .int .i64 d, .bool b]] w fun e w' => e = .returned (.bool false) ∧ Below w.heap.size w w' := by
  go_enter Try.func27, Try.ntmps27
  go_wp2_with fail
  go_ret
  exact ⟨rfl, below1 w _⟩
theorem mm_2 (p d : Int) (b : Bool) (q0 : decide (0 ≤ p) = true) (q1 : decide (p ≤ 10000) = true) (q2 : decide (-100 ≤ d) = false) (w : World) : Calls Try.prog 27 #[.agg #[.int .i64 p, .int .i64 d, .bool b]] w fun e w' => e = .returned (.bool false) ∧ Below w.heap.size w w' := by
  go_enter Try.func27, Try.ntmps27
  go_wp2_with fail
  go_ret
  exact ⟨rfl, below1 w _⟩
theorem mm_3 (p d : Int) (b : Bool) (q0 : decide (0 ≤ p) = true) (q1 : decide (p ≤ 10000) = true) (q2 : decide (-100 ≤ d) = true) (q3 : decide (d ≤ 100) = false) (w : World) : Calls Try.prog 27 #[.agg #[.int .i64 p, .int .i64 d, .bool b]] w fun e w' => e = .returned (.bool false) ∧ Below w.heap.size w w' := by
  go_enter Try.func27, Try.ntmps27
  go_wp2_with fail
  go_ret
  exact ⟨rfl, below1 w _⟩
theorem mm_4 (p d : Int) (b : Bool) (q0 : decide (0 ≤ p) = true) (q1 : decide (p ≤ 10000) = true) (q2 : decide (-100 ≤ d) = true) (q3 : decide (d ≤ 100) = true) (w : World) : Calls Try.prog 27 #[.agg #[.int .i64 p, .int .i64 d, .bool b]] w fun e w' => e = .returned (.bool true) ∧ Below w.heap.size w w' := by
  go_enter Try.func27, Try.ntmps27
  go_wp2_with fail
  go_ret
  exact ⟨rfl, below1 w _⟩
theorem ms_a (s g : Int) (q : (s == 1) = true) (r : (g == 0) = true) (w : World) : Calls Try.prog 26 #[.agg #[.int .i64 s, .int .i64 g]] w fun e w' => e = .returned (.bool true) ∧ Below w.heap.size w w' := by
  go_enter Try.func26, Try.ntmps26
  go_wp2_with fail
  go_ret
  exact ⟨rfl, below1 w _⟩
theorem ms_b (s g : Int) (q : (s == 1) = true) (r : (g == 0) = false) (w : World) : Calls Try.prog 26 #[.agg #[.int .i64 s, .int .i64 g]] w fun e w' => e = .returned (.bool false) ∧ Below w.heap.size w w' := by
  go_enter Try.func26, Try.ntmps26
  go_wp2_with fail
  go_ret
  exact ⟨rfl, below1 w _⟩
theorem ms_0 (s g : Int) (q : (s == 1) = false) (q0 : decide (1 < s) = false) (w : World) : Calls Try.prog 26 #[.agg #[.int .i64 s, .int .i64 g]] w fun e w' => e = .returned (.bool false) ∧ Below w.heap.size w w' := by
  go_enter Try.func26, Try.ntmps26
  go_wp2_with fail
  go_ret
  exact ⟨rfl, below1 w _⟩
theorem ms_1 (s g : Int) (q : (s == 1) = false) (q0 : decide (1 < s) = true) (q1 : decide (s ≤ 3) = false) (w : World) : Calls Try.prog 26 #[.agg #[.int .i64 s, .int .i64 g]] w fun e w' => e = .returned (.bool false) ∧ Below w.heap.size w w' := by
  go_enter Try.func26, Try.ntmps26
  go_wp2_with fail
  go_ret
  exact ⟨rfl, below1 w _⟩
theorem ms_2 (s g : Int) (q : (s == 1) = false) (q0 : decide (1 < s) = true) (q1 : decide (s ≤ 3) = true) (q2 : decide (0 ≤ g) = false) (w : World) : Calls Try.prog 26 #[.agg #[.int .i64 s, .int .i64 g]] w fun e w' => e = .returned (.bool false) ∧ Below w.heap.size w w' := by
  go_enter Try.func26, Try.ntmps26
  go_wp2_with fail
  go_ret
  exact ⟨rfl, below1 w _⟩
theorem ms_3 (s g : Int) (q : (s == 1) = false) (q0 : decide (1 < s) = true) (q1 : decide (s ≤ 3) = true) (q2 : decide (0 ≤ g) = true) (q3 : decide (g < 3) = false) (w : World) : Calls Try.prog 26 #[.agg #[.int .i64 s, .int .i64 g]] w fun e w' => e = .returned (.bool false) ∧ Below w.heap.size w w' := by
  go_enter Try.func26, Try.ntmps26
  go_wp2_with fail
  go_ret
  exact ⟨rfl, below1 w _⟩
theorem ms_4 (s g : Int) (q : (s == 1) = false) (q0 : decide (1 < s) = true) (q1 : decide (s ≤ 3) = true) (q2 : decide (0 ≤ g) = true) (q3 : decide (g < 3) = true) (w : World) : Calls Try.prog 26 #[.agg #[.int .i64 s, .int .i64 g]] w fun e w' => e = .returned (.bool true) ∧ Below w.heap.size w w' := by
  go_enter Try.func26, Try.ntmps26
  go_wp2_with fail
  go_ret
  exact ⟨rfl, below1 w _⟩
theorem fail_yes (p d : Int) (b : Bool) (h : b = true ∨ 90 ≤ p) (w : World) : Calls Try.prog 23 #[.agg #[.int .i64 p, .int .i64 d, .bool b]] w fun e w' => e = .returned (.tuple #[.int .i64 3, .bool true]) ∧ Below w.heap.size w w' := by
  cases b
  · exact fail_b p d (decide_eq_true (by simpa using h)) w
  · exact fail_a p d w
theorem fail_no (p d : Int) (b : Bool) (h : ¬ (b = true ∨ 90 ≤ p)) (w : World) : Calls Try.prog 23 #[.agg #[.int .i64 p, .int .i64 d, .bool b]] w fun e w' => e = .returned (.tuple #[.int .i64 3, .bool false]) ∧ Below w.heap.size w w' := by
  cases b
  · exact fail_c p d (decide_eq_false (by simpa using h)) w
  · exact absurd (Or.inl rfl) h
theorem slip_yes (p d : Int) (b : Bool) (h : 30 ≤ p ∨ 3 ≤ d) (w : World) : Calls Try.prog 24 #[.agg #[.int .i64 p, .int .i64 d, .bool b]] w fun e w' => e = .returned (.tuple #[.int .i64 2, .bool true]) ∧ Below w.heap.size w w' := by
  by_cases q : 30 ≤ p
  · exact slip_a p d b (decide_eq_true q) w
  · exact slip_b p d b (decide_eq_false q) (decide_eq_true (by omega)) w
theorem slip_no (p d : Int) (b : Bool) (h : ¬ (30 ≤ p ∨ 3 ≤ d)) (w : World) : Calls Try.prog 24 #[.agg #[.int .i64 p, .int .i64 d, .bool b]] w fun e w' => e = .returned (.tuple #[.int .i64 2, .bool false]) ∧ Below w.heap.size w w' := slip_c p d b (decide_eq_false (by omega)) (decide_eq_false (by omega)) w
theorem rworst_any (p d : Int) (b : Bool) (w : World) : Calls Try.prog 12 #[.agg #[.int .i64 p, .int .i64 d, .bool b]] w fun e w' => e = .returned (.int .i64 (wst p d b)) ∧ Below w.heap.size w w' := by
  unfold wst
  cases b
  · by_cases h : 90 ≤ p
    · rw [if_pos (Or.inr h)]; exact rw_b p d (decide_eq_true h) w
    · rw [if_neg (by simpa using h)]
      by_cases q : 30 ≤ p
      · rw [if_pos (Or.inl q)]; exact rw_c p d (decide_eq_false h) (decide_eq_true q) w
      · by_cases r : 3 ≤ d
        · rw [if_pos (Or.inr r)]; exact rw_d p d (decide_eq_false h) (decide_eq_false q) (decide_eq_true r) w
        · rw [if_neg (by omega)]; exact rw_e p d (decide_eq_false h) (decide_eq_false q) (decide_eq_false r) w
  · rw [if_pos (Or.inl rfl)]; exact rw_a p d w
theorem mm_yes (p d : Int) (b : Bool) (h : okM p d) (w : World) : Calls Try.prog 27 #[.agg #[.int .i64 p, .int .i64 d, .bool b]] w fun e w' => e = .returned (.bool true) ∧ Below w.heap.size w w' := by
  obtain ⟨h1, h2, h3, h4⟩ := h
  exact mm_4 p d b (decide_eq_true h1) (decide_eq_true h2) (decide_eq_true h3) (decide_eq_true h4) w
theorem mm_no (p d : Int) (b : Bool) (h : ¬ okM p d) (w : World) : Calls Try.prog 27 #[.agg #[.int .i64 p, .int .i64 d, .bool b]] w fun e w' => e = .returned (.bool false) ∧ Below w.heap.size w w' := by
  by_cases h1 : 0 ≤ p
  · by_cases h2 : p ≤ 10000
    · by_cases h3 : -100 ≤ d
      · exact mm_3 p d b (decide_eq_true h1) (decide_eq_true h2) (decide_eq_true h3) (decide_eq_false (fun h4 => h ⟨h1, h2, h3, h4⟩)) w
      · exact mm_2 p d b (decide_eq_true h1) (decide_eq_true h2) (decide_eq_false h3) w
    · exact mm_1 p d b (decide_eq_true h1) (decide_eq_false h2) w
  · exact mm_0 p d b (decide_eq_false h1) w
theorem ms_yes (s g : Int) (h : okS s g) (w : World) : Calls Try.prog 26 #[.agg #[.int .i64 s, .int .i64 g]] w fun e w' => e = .returned (.bool true) ∧ Below w.heap.size w w' := by
  obtain ⟨h1, h2, h3, h4, h5⟩ := h
  by_cases q : s = 1
  · exact ms_a s g (by simp [q]) (by simp [h5 q]) w
  · exact ms_4 s g (by simp [q]) (decide_eq_true (by omega)) (decide_eq_true h2) (decide_eq_true h3) (decide_eq_true (by omega)) w
theorem ms_no (s g : Int) (h : ¬ okS s g) (w : World) : Calls Try.prog 26 #[.agg #[.int .i64 s, .int .i64 g]] w fun e w' => e = .returned (.bool false) ∧ Below w.heap.size w w' := by
  by_cases q : s = 1
  · exact ms_b s g (by simp [q]) (by simp only [beq_eq_false_iff_ne]; intro c; exact h ⟨by omega, by omega, by omega, by omega, fun _ => c⟩) w
  · have q' : (s == 1) = false := by simp [q]
    by_cases h1 : 1 < s
    · by_cases h2 : s ≤ 3
      · by_cases h3 : 0 ≤ g
        · exact ms_3 s g q' (decide_eq_true h1) (decide_eq_true h2) (decide_eq_true h3) (decide_eq_false (fun h4 => h ⟨by omega, h2, h3, by omega, fun c => absurd c q⟩)) w
        · exact ms_2 s g q' (decide_eq_true h1) (decide_eq_true h2) (decide_eq_false h3) w
      · exact ms_1 s g q' (decide_eq_true h1) (decide_eq_false h2) w
    · exact ms_0 s g q' (decide_eq_false h1) w
end Go.Proofs.Ytifdabmdacpmgaa
