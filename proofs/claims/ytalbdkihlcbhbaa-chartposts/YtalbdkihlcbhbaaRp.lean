/- What events are booked as, by the document. -/
import Derived.Test.YtalbdkihlcbhbaaPo
namespace Go.Proofs.Ytalbdkihlcbhbaa
open Go.RowKit
set_option linter.unusedVariables false
set_option linter.unusedSimpArgs false
abbrev P14 : Array Value := #[.int .i64 2, .int .i64 1, .int .i64 2, .int .i64 4, .int .i64 1, .int .i64 2, .int .i64 2, .int .i64 5, .int .i64 6, .int .i64 3, .int .i64 3, .int .i64 2, .int .i64 1, .int .i64 7]
theorem ixp_0 (w : World) : (Instr.index 58 (.agg P14) (.int .i64 0)).run Try.prog w = .ok (.agg #[.int .i64 2, .int .i64 1]) w := by kernel_rfl
theorem ixp_1 (w : World) : (Instr.index 58 (.agg P14) (.int .i64 1)).run Try.prog w = .ok (.agg #[.int .i64 2, .int .i64 4]) w := by kernel_rfl
theorem ixp_2 (w : World) : (Instr.index 58 (.agg P14) (.int .i64 2)).run Try.prog w = .ok (.agg #[.int .i64 1, .int .i64 2]) w := by kernel_rfl
theorem ixp_3 (w : World) : (Instr.index 58 (.agg P14) (.int .i64 3)).run Try.prog w = .ok (.agg #[.int .i64 2, .int .i64 5]) w := by kernel_rfl
theorem ixp_4 (w : World) : (Instr.index 58 (.agg P14) (.int .i64 4)).run Try.prog w = .ok (.agg #[.int .i64 6, .int .i64 3]) w := by kernel_rfl
theorem ixp_5 (w : World) : (Instr.index 58 (.agg P14) (.int .i64 5)).run Try.prog w = .ok (.agg #[.int .i64 3, .int .i64 2]) w := by kernel_rfl
theorem ixp_6 (w : World) : (Instr.index 58 (.agg P14) (.int .i64 6)).run Try.prog w = .ok (.agg #[.int .i64 1, .int .i64 7]) w := by kernel_rfl
theorem ixp (k : Nat) (hk : k < 7) (w : World) : (Instr.index 58 (.agg P14) (.int .i64 (k : Int))).run Try.prog w = .ok (.agg #[.int .i64 (pA ((k : Int) + 1)), .int .i64 (pB ((k : Int) + 1))]) w := by
  match k, hk with
  | 0, _ => exact ixp_0 w
  | 1, _ => exact ixp_1 w
  | 2, _ => exact ixp_2 w
  | 3, _ => exact ixp_3 w
  | 4, _ => exact ixp_4 w
  | 5, _ => exact ixp_5 w
  | 6, _ => exact ixp_6 w
theorem pM_or (k : Int) : ((k = 2 ∨ k = 4 ∨ k = 5) ∧ pM k = -1125899906842624) ∨ (k ≠ 2 ∧ k ≠ 4 ∧ k ≠ 5 ∧ pM k = 0) := by
  unfold pM
  by_cases h2 : k = 2
  · subst h2; exact .inl ⟨.inl rfl, rfl⟩
  by_cases h4 : k = 4
  · subst h4; exact .inl ⟨.inr (.inl rfl), rfl⟩
  by_cases h5 : k = 5
  · subst h5; exact .inl ⟨.inr (.inr rfl), rfl⟩
  refine .inr ⟨h2, h4, h5, ?_⟩
  rw [if_neg h2, if_neg h4, if_neg h5]
  repeat' split
  all_goals rfl
theorem rp_lo (k n : Int) (i1 : -9223372036854775808 ≤ n) (i2 : n ≤ 9223372036854775807) (h : k < 1) (w : World) : Calls Try.prog 10 #[.int .i64 k, .int .i64 n] w fun e w' => e = .returned (.tuple #[.slice none 0 0, .int .i64 2]) ∧ w = w' := by
  go_enter Try.func10, Try.ntmps10
  go_wp2_with fail
  go_ret2
  exact ⟨rfl, rfl⟩
theorem rp_hi (k n : Int) (i1 : -9223372036854775808 ≤ n) (i2 : n ≤ 9223372036854775807) (h0 : ¬ k < 1) (h : 7 < k) (w : World) : Calls Try.prog 10 #[.int .i64 k, .int .i64 n] w fun e w' => e = .returned (.tuple #[.slice none 0 0, .int .i64 2]) ∧ w = w' := by
  go_enter Try.func10, Try.ntmps10
  go_wp2_with fail
  go_ret2
  exact ⟨rfl, rfl⟩
theorem rp_less (k n : Int) (i1 : -9223372036854775808 ≤ n) (i2 : n ≤ 9223372036854775807) (h0 : ¬ k < 1) (h1 : ¬ 7 < k) (h : n < -1125899906842624) (w : World) : Calls Try.prog 10 #[.int .i64 k, .int .i64 n] w fun e w' => e = .returned (.tuple #[.slice none 0 0, .int .i64 2]) ∧ w = w' := by
  go_enter Try.func10, Try.ntmps10
  go_wp2_with fail
  go_ret2
  exact ⟨rfl, rfl⟩
theorem rp_more (k n : Int) (i1 : -9223372036854775808 ≤ n) (i2 : n ≤ 9223372036854775807) (h0 : ¬ k < 1) (h1 : ¬ 7 < k) (h2 : ¬ n < -1125899906842624) (h : 1125899906842624 < n) (w : World) : Calls Try.prog 10 #[.int .i64 k, .int .i64 n] w fun e w' => e = .returned (.tuple #[.slice none 0 0, .int .i64 2]) ∧ w = w' := by
  go_enter Try.func10, Try.ntmps10
  go_wp2_with fail
  go_ret2
  exact ⟨rfl, rfl⟩
theorem rp_neg (k n : Int) (i1 : -9223372036854775808 ≤ n) (i2 : n ≤ 9223372036854775807) (h0 : ¬ k < 1) (h1 : ¬ 7 < k) (h2 : ¬ n < -1125899906842624) (h3 : ¬ 1125899906842624 < n) (h : n < 0) (k2 : (k != 2) = true) (k4 : (k != 4) = true) (k5 : (k != 5) = true) (w : World) : Calls Try.prog 10 #[.int .i64 k, .int .i64 n] w fun e w' => e = .returned (.tuple #[.slice none 0 0, .int .i64 2]) ∧ w = w' := by
  go_enter Try.func10, Try.ntmps10
  go_wp2_with fail
  go_ret2
  exact ⟨rfl, rfl⟩
theorem rp_zero (k n : Int) (i1 : -9223372036854775808 ≤ n) (i2 : n ≤ 9223372036854775807) (h0 : ¬ k < 1) (h1 : ¬ 7 < k) (h : n = 0) (w : World) : Calls Try.prog 10 #[.int .i64 k, .int .i64 n] w fun e w' => e = .returned (.tuple #[.slice none 0 0, .int .i64 0]) ∧ w = w' := by
  subst h
  go_enter Try.func10, Try.ntmps10
  go_wp2_with fail
  go_ret2
  exact ⟨rfl, rfl⟩
theorem rp_pos (k : Nat) (hk : k < 7) (n : Int) (h0 : ¬ ((k : Int) + 1) < 1) (h1 : ¬ 7 < ((k : Int) + 1)) (i1 : -1125899906842624 ≤ n) (i2 : n ≤ 1125899906842624) (h3 : ¬ n = 0) (h : ¬ n < 0) (w : World) : Calls Try.prog 10 #[.int .i64 ((k : Int) + 1), .int .i64 n] w fun e w' => ∃ v, e = .returned (.tuple #[v, .int .i64 0]) ∧ GrowG 48 2 w w' v ([(pA ((k : Int) + 1), n), (pB ((k : Int) + 1), -n)].map liL) := by
  have hneg : IntKind.i64.wrap (-n) = -n := wrap_in' ⟨by omega, by omega⟩
  have k2 : (k : Int) + 1 - 1 = (k : Int) := by omega
  have hi := fun W => ixp k hk W
  unfold P14 at hi
  generalize pA ((k : Int) + 1) = p at *
  generalize pB ((k : Int) + 1) = q at *
  have HB := hide (below1 w (.cells #[.int .i64 p, .int .i64 q] 57))
  clear hk
  go_enter Try.func10, Try.ntmps10
  go_wp2_with (simp only [hi])
  go_ret2
  exact ⟨_, rfl, by have q := two_grow (E := 48) (p := p) (q := n) (r := q) (s := -n) (unhide HB); simpa using q⟩
theorem rp_2 (n : Int) (i1 : -1125899906842624 ≤ n) (i2 : n < 0) (w : World) : Calls Try.prog 10 #[.int .i64 2, .int .i64 n] w fun e w' => ∃ v, e = .returned (.tuple #[v, .int .i64 0]) ∧ GrowG 48 2 w w' v ([(2, n), (4, -n)].map liL) := by
  have hneg : IntKind.i64.wrap (-n) = -n := wrap_in' ⟨by omega, by omega⟩
  have h3 : ¬ n = 0 := by omega
  have hi := fun W => ixp_1 W
  unfold P14 at hi
  have HB := hide (below1 w (.cells #[.int .i64 2, .int .i64 4] 57))
  go_enter Try.func10, Try.ntmps10
  go_wp2_with (simp only [hi])
  go_ret2
  exact ⟨_, rfl, by have q := two_grow (E := 48) (p := 2) (q := n) (r := 4) (s := -n) (unhide HB); simpa using q⟩
theorem rp_4 (n : Int) (i1 : -1125899906842624 ≤ n) (i2 : n < 0) (w : World) : Calls Try.prog 10 #[.int .i64 4, .int .i64 n] w fun e w' => ∃ v, e = .returned (.tuple #[v, .int .i64 0]) ∧ GrowG 48 2 w w' v ([(2, n), (5, -n)].map liL) := by
  have hneg : IntKind.i64.wrap (-n) = -n := wrap_in' ⟨by omega, by omega⟩
  have h3 : ¬ n = 0 := by omega
  have hi := fun W => ixp_3 W
  unfold P14 at hi
  have HB := hide (below1 w (.cells #[.int .i64 2, .int .i64 5] 57))
  go_enter Try.func10, Try.ntmps10
  go_wp2_with (simp only [hi])
  go_ret2
  exact ⟨_, rfl, by have q := two_grow (E := 48) (p := 2) (q := n) (r := 5) (s := -n) (unhide HB); simpa using q⟩
theorem rp_5 (n : Int) (i1 : -1125899906842624 ≤ n) (i2 : n < 0) (w : World) : Calls Try.prog 10 #[.int .i64 5, .int .i64 n] w fun e w' => ∃ v, e = .returned (.tuple #[v, .int .i64 0]) ∧ GrowG 48 2 w w' v ([(6, n), (3, -n)].map liL) := by
  have hneg : IntKind.i64.wrap (-n) = -n := wrap_in' ⟨by omega, by omega⟩
  have h3 : ¬ n = 0 := by omega
  have hi := fun W => ixp_4 W
  unfold P14 at hi
  have HB := hide (below1 w (.cells #[.int .i64 6, .int .i64 3] 57))
  go_enter Try.func10, Try.ntmps10
  go_wp2_with (simp only [hi])
  go_ret2
  exact ⟨_, rfl, by have q := two_grow (E := 48) (p := 6) (q := n) (r := 3) (s := -n) (unhide HB); simpa using q⟩
theorem rpost_any (k n : Int) (i : In64 n) (w : World) : Calls Try.prog 10 #[.int .i64 k, .int .i64 n] w fun e w' => ∃ v, e = .returned (.tuple #[v, .int .i64 (postE k n)]) ∧ GrowG 48 2 w w' v ((postL k n).map liL) := by
  have i1 := i.lo
  have i2 := i.hi
  have none2 : ∀ (hE : postE k n = 2), (Calls Try.prog 10 #[.int .i64 k, .int .i64 n] w fun e w' => e = .returned (.tuple #[.slice none 0 0, .int .i64 2]) ∧ w = w') → Calls Try.prog 10 #[.int .i64 k, .int .i64 n] w fun e w' => ∃ v, e = .returned (.tuple #[v, .int .i64 (postE k n)]) ∧ GrowG 48 2 w w' v ((postL k n).map liL) := fun hE h => h.mono fun e w' ⟨he, hw⟩ => by
    have hL : postL k n = [] := by unfold postL; rw [hE]; rfl
    rw [hE, hL]
    subst hw
    exact ⟨_, he, GrowG.nil _ _ _ _ (Below.refl _ _)⟩
  by_cases h0 : k < 1
  · exact none2 (by unfold postE; rw [if_neg (fun h => by have := h.1; unfold accB at this; simp at this; omega)]) (rp_lo k n i1 i2 h0 w)
  by_cases h1 : 7 < k
  · exact none2 (by unfold postE; rw [if_neg (fun h => by have := h.1; unfold accB at this; simp at this; omega)]) (rp_hi k n i1 i2 h0 h1 w)
  have hM := pM_bd k
  have hB : accB k = true := by unfold accB; simp; omega
  by_cases h2 : n < -1125899906842624
  · exact none2 (by unfold postE; rw [if_neg (fun h => by have := h.2; omega)]) (rp_less k n i1 i2 h0 h1 h2 w)
  by_cases h3 : 1125899906842624 < n
  · exact none2 (by unfold postE; rw [if_neg (fun h => by have := h.2; omega)]) (rp_more k n i1 i2 h0 h1 h2 h3 w)
  by_cases h4 : n = 0
  · have hE : postE k n = 0 := by unfold postE; rw [if_pos ⟨hB, by omega, by omega⟩]
    have hL : postL k n = [] := by unfold postL; rw [if_neg (fun h => h.2 h4)]
    rw [hE, hL]
    refine (rp_zero k n i1 i2 h0 h1 h4 w).mono ?_
    rintro e w' ⟨rfl, rfl⟩
    exact ⟨_, rfl, GrowG.nil _ _ _ _ (Below.refl _ _)⟩
  have yes : pM k ≤ n → postE k n = 0 ∧ postL k n = [(pA k, n), (pB k, -n)] := fun h => by
    have hE : postE k n = 0 := by unfold postE; rw [if_pos ⟨hB, h, by omega⟩]
    exact ⟨hE, by unfold postL; rw [if_pos ⟨hE, h4⟩]⟩
  by_cases h5 : n < 0
  · rcases pM_or k with ⟨hk, hm⟩ | ⟨k2, k4, k5, hm⟩
    · obtain ⟨hE, hL⟩ := yes (by omega)
      rw [hE, hL]
      rcases hk with rfl | rfl | rfl
      · exact rp_2 n (by omega) h5 w
      · exact rp_4 n (by omega) h5 w
      · exact rp_5 n (by omega) h5 w
    · exact none2 (by unfold postE; rw [if_neg (fun h => by have := h.2; omega)]) (rp_neg k n i1 i2 h0 h1 h2 h3 h5 (by simpa using k2) (by simpa using k4) (by simpa using k5) w)
  · obtain ⟨hE, hL⟩ := yes (by omega)
    rw [hE, hL]
    obtain ⟨j, hj, rfl⟩ : ∃ j : Nat, j < 7 ∧ k = (j : Int) + 1 := ⟨(k - 1).toNat, by omega, by omega⟩
    exact rp_pos j hj n h0 h1 (by omega) (by omega) h4 h5 w
end Go.Proofs.Ytalbdkihlcbhbaa
