/- What the day's monthsAhead and yearOf answer. -/
import Derived.Test.YtmpalgfhamahnaaLeaf
namespace Go.Proofs.Ytmpalgfhamahnaa
open Go.RowKit
set_option linter.unusedSimpArgs false
/-- The days of the months ahead, by Last. -/
def mol (y : Int) : Nat → Int
  | 0 => 0
  | k + 1 => mol y k + last y k
theorem last_bd (y m : Int) : 0 ≤ last y m ∧ last y m ≤ 31 := by
  unfold last
  split
  · exact len_bd _ _
  · omega
theorem mol_bd (y : Int) (k : Nat) : 0 ≤ mol y k ∧ mol y k ≤ 31 * k := by
  induction k with
  | zero => exact ⟨Int.le_refl 0, Int.le_refl 0⟩
  | succ k ih =>
    have := last_bd y k
    show 0 ≤ mol y k + last y k ∧ mol y k + last y k ≤ _
    omega
theorem mol_in {y : Int} (h1 : 1 ≤ y) (h2 : y ≤ 9999) (k : Nat) : mol y k = mo (leap y) k := by
  induction k with
  | zero => rfl
  | succ k ih =>
    show mol y k + last y k = mo (leap y) k + len (leap y) k
    rw [ih, last_in h1 h2]
theorem mol_one (y : Int) : mol y 1 = 0 := by
  have e : last y ((0 : Nat) : Int) = 0 := by
    unfold last
    split
    · exact len_none _ (by omega)
    · rfl
  show mol y 0 + last y ((0 : Nat) : Int) = 0
  rw [e]; rfl
theorem mol_step (y : Int) (k : Nat) : mol y (k + 1) = mol y k + last y k := rfl
/-- How far monthsAhead goes. -/
def upto (m : Int) : Nat := if 12 < m then 12 else if m ≤ 1 then 1 else m.toNat
set_option maxHeartbeats 1000001 in
theorem months_far (y m : Int) (hm : 12 < m) : Q 34 #[.int .i64 y, .int .i64 m] (.int .i64 (mol y 12)) := by
  intro w
  have hL := hide (fun k : Nat => last_any y k)
  go_enter Try.func34, Try.ntmps34
  go_wp2_with fail
  go_loopw [5, 6] (fun a i wr => ∃ (k : Nat), 1 ≤ k ∧ k ≤ 12 ∧ i = .int .i64 k ∧ a = .int .i64 (mol y k) ∧ wr = w) (fun _ i _ => 12 - (intOf i).toNat)
  case atStart => exact ⟨1, by omega, by omega, rfl, by rw [mol_one], rfl⟩
  case round =>
    obtain ⟨k, hk1, hk2, rfl, rfl, rfl⟩ := hrel
    by_cases hlt : (k : Int) < (12 : Int)
    · have hlt' : decide ((k : Int) < (12 : Int)) = true := decide_eq_true hlt
      have hb := mol_bd y k
      have hb2 := last_bd y k
      have hw : wrap64 (mol y k + last y k) = mol y (k + 1) := wrap_in ⟨by omega, by omega⟩
      have hl := hide (unhide hL k)
      clear hb hb2
      obtain ⟨z, hz⟩ : ∃ z, z = mol y (k + 1) := ⟨_, rfl⟩
      rw [← hz] at hw
      replace hz := hide hz
      generalize last y k = l at *
      generalize mol y k = q at *
      go_wp2_with fail
      refine (unhide hl _).mono ?_
      rintro e w2 ⟨rfl, rfl⟩
      go_wp2_with fail
      go_roundw
      case rel => exact ⟨k + 1, by omega, by omega, by go_num, by rw [hw, unhide hz], by trivial⟩
      case measure => simp [intOf]; omega
    · have hlt' : decide ((k : Int) < (12 : Int)) = false := decide_eq_false hlt
      have hk : k = 12 := by omega
      subst hk
      clear hL
      go_wp2_with fail
      go_ret
      exact ⟨rfl, rfl⟩
set_option maxHeartbeats 1000001 in
theorem months_near (y : Int) (M : Nat) (h1 : 1 ≤ M) (hm : (M : Int) ≤ 12) : Q 34 #[.int .i64 y, .int .i64 M] (.int .i64 (mol y M)) := by
  intro w
  have hL := hide (fun k : Nat => last_any y k)
  go_enter Try.func34, Try.ntmps34
  go_wp2_with fail
  go_loopw [5, 6] (fun a i wr => ∃ (k : Nat), 1 ≤ k ∧ k ≤ M ∧ i = .int .i64 k ∧ a = .int .i64 (mol y k) ∧ wr = w) (fun _ i _ => M - (intOf i).toNat)
  case atStart => exact ⟨1, by omega, by omega, rfl, by rw [mol_one], rfl⟩
  case round =>
    obtain ⟨k, hk1, hk2, rfl, rfl, rfl⟩ := hrel
    by_cases hlt : (k : Int) < (M : Int)
    · have hlt' : decide ((k : Int) < (M : Int)) = true := decide_eq_true hlt
      have hb := mol_bd y k
      have hb2 := last_bd y k
      have hw : wrap64 (mol y k + last y k) = mol y (k + 1) := wrap_in ⟨by omega, by omega⟩
      have hl := hide (unhide hL k)
      clear hb hb2
      obtain ⟨z, hz⟩ : ∃ z, z = mol y (k + 1) := ⟨_, rfl⟩
      rw [← hz] at hw
      replace hz := hide hz
      generalize last y k = l at *
      generalize mol y k = q at *
      go_wp2_with fail
      refine (unhide hl _).mono ?_
      rintro e w2 ⟨rfl, rfl⟩
      go_wp2_with fail
      go_roundw
      case rel => exact ⟨k + 1, by omega, by omega, by go_num, by rw [hw, unhide hz], by trivial⟩
      case measure => simp [intOf]; omega
    · have hlt' : decide ((k : Int) < (M : Int)) = false := decide_eq_false hlt
      have hk : k = M := by omega
      subst hk
      clear hL
      go_wp2_with fail
      go_ret
      exact ⟨rfl, rfl⟩
set_option maxHeartbeats 1000001 in
theorem months_none (y m : Int) (hm : m ≤ 1) : Q 34 #[.int .i64 y, .int .i64 m] (.int .i64 (mol y 1)) := by
  intro w
  have hL := hide (fun k : Nat => last_any y k)
  go_enter Try.func34, Try.ntmps34
  go_wp2_with fail
  go_loopw [5, 6] (fun a i wr => ∃ (k : Nat), 1 ≤ k ∧ k ≤ 1 ∧ i = .int .i64 k ∧ a = .int .i64 (mol y k) ∧ wr = w) (fun _ i _ => 1 - (intOf i).toNat)
  case atStart => exact ⟨1, by omega, by omega, rfl, by rw [mol_one], rfl⟩
  case round =>
    obtain ⟨k, hk1, hk2, rfl, rfl, rfl⟩ := hrel
    have hlt : ¬ (k : Int) < m := by omega
    have hlt' : decide ((k : Int) < m) = false := decide_eq_false hlt
    have hk : k = 1 := by omega
    subst hk
    clear hL
    go_wp2_with fail
    go_ret
    exact ⟨rfl, rfl⟩
theorem months_any (y m : Int) : Q 34 #[.int .i64 y, .int .i64 m] (.int .i64 (mol y (upto m))) := by
  by_cases h : 12 < m
  · have e : upto m = 12 := if_pos h
    rw [e]; exact months_far y m h
  · by_cases h1 : m ≤ 1
    · have e : upto m = 1 := by unfold upto; rw [if_neg h, if_pos h1]
      rw [e]; exact months_none y m h1
    · have e : upto m = m.toNat := by unfold upto; rw [if_neg h, if_neg h1]
      rw [e]
      obtain ⟨M, rfl⟩ : ∃ M : Nat, m = (M : Int) := ⟨m.toNat, by omega⟩
      rw [Int.toNat_natCast]
      exact months_near y M (by omega) (by omega)
set_option maxHeartbeats 400000 in
theorem year_any (n : Int) (h1 : 1 ≤ n) (h2 : n ≤ 3652059) : Q 32 #[.int .i64 n] (.int .i64 (year n)) := by
  intro w
  obtain ⟨g1, g2, -, -⟩ := guess_bd h1 h2
  have hd := da_any (guess n + 1)
  rw [da_in (by omega) (by omega), show guess n + 1 - 1 = guess n from by omega] at hd
  unfold year
  generalize ds (guess n) = D at *
  unfold guess at *
  replace hd := hide hd
  by_cases h : D < n
  · rw [if_pos h]
    have d : decide (D < n) = true := decide_eq_true h
    go_enter Try.func32, Try.ntmps32
    go_wp2_with fail
    refine (unhide hd _).mono ?_
    rintro e w1 ⟨rfl, rfl⟩
    go_wp2_with fail
    go_ret
    exact ⟨rfl, rfl⟩
  · rw [if_neg h]
    have d : decide (D < n) = false := decide_eq_false h
    go_enter Try.func32, Try.ntmps32
    go_wp2_with fail
    refine (unhide hd _).mono ?_
    rintro e w1 ⟨rfl, rfl⟩
    go_wp2_with fail
    go_ret
    exact ⟨rfl, rfl⟩
end Go.Proofs.Ytmpalgfhamahnaa
