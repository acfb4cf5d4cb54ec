/- What the seekers of days that work answer, the program's and the reference's. -/
import Derived.Test.YtmpalgfhamahnaaWork
namespace Go.Proofs.Ytmpalgfhamahnaa
open Go.RowKit
set_option linter.unusedSimpArgs false
set_option maxHeartbeats 1000000 in
theorem seek_up (bn bh : Nat) (v : Value) (hs : List Int) (n : Int) (w : World) (n1 : 1 ≤ n) (n2 : n ≤ 3652059) (hW : Hid (WorksA 17 v hs w)) (hn : w.cell? ⟨bn, 0, none⟩ = some (.int .i64 n)) (hv : w.cell? ⟨bh, 0, none⟩ = some v) :
    Calls Try.prog 26 #[.int .i64 (1), .pointer (some ⟨bn, 0, none⟩), .pointer (some ⟨bh, 0, none⟩)] w fun e w' => ∃ r : Int, e = .returned (.tuple #[.int .i64 r, .int .i64 (seekE r)]) ∧ w' = w ∧ Up hs n r := by
  go_enter Try.func26, Try.ntmps26
  go_wp2_with fail
  go_loop [6] (fun i => ∃ k : Nat, n + (k : Int) ≤ 3652060 ∧ i = .int .i64 (n + (k : Int)) ∧ Hid (∀ j : Nat, j < k → works hs (n + (j : Int)) = false)) (fun i => 3652060 - (intOf i).toNat)
  case atStart => exact ⟨0, by omega, by simp, hide (fun j hj => by omega)⟩
  case round =>
    obtain ⟨k, hk, rfl, HK⟩ := hrel
    by_cases hlt : n + (k : Int) ≤ 3652059
    · have hw1 := hide (unhide hW (n + (k : Int)))
      have o1 : decide (1 ≤ (n + (k : Int))) = true := decide_eq_true (by omega)
      have o2 : decide ((n + (k : Int)) ≤ 3652059) = true := decide_eq_true (by omega)
      cases hwk : works hs (n + (k : Int))
      · rw [hwk] at hw1
        have HK2 : Hid (∀ j : Nat, j < k + 1 → works hs (n + (j : Int)) = false) := hide (fun j hj => by
          by_cases e : j = k
          · rw [e]; exact hwk
          · exact unhide HK j (by omega))
        clear hwk HK
        go_wp2_with fail
        refine (unhide hw1).mono ?_
        rintro e w2 ⟨rfl, rfl⟩
        clear hw1
        go_wp2_with fail
        go_round
        case rel => exact ⟨k + 1, by omega, by congr 1; omega, HK2⟩
        case measure => simp [intOf]; omega
      · rw [hwk] at hw1
        have HU : Hid (Up hs n (n + (k : Int))) := hide (Or.inr ⟨by omega, by omega, hwk, fun q q1 q2 => by have := unhide HK (q - n).toNat (by omega); rwa [show n + ((q - n).toNat : Int) = q from by omega] at this⟩)
        have HE1 : Hid (Ending.returned (.tuple #[.int .i64 (n + (k : Int)), .int .i64 0]) = Ending.returned (.tuple #[.int .i64 (n + (k : Int)), .int .i64 (seekE (n + (k : Int)))])) := hide (by unfold seekE; rw [if_neg (by omega)])
        clear hwk HK
        go_wp2_with fail
        refine (unhide hw1).mono ?_
        rintro e w2 ⟨rfl, rfl⟩
        clear hw1
        go_wp2_with fail
        go_ret2
        exact ⟨(n + (k : Int)), unhide HE1, rfl, unhide HU⟩
    · have HU : Hid (Up hs n 0) := hide (Or.inl ⟨rfl, fun q q1 q2 => by have := unhide HK (q - n).toNat (by omega); rwa [show n + ((q - n).toNat : Int) = q from by omega] at this⟩)
      have o1 : decide (1 ≤ (n + (k : Int))) = true := decide_eq_true (by omega)
      have o2 : decide ((n + (k : Int)) ≤ 3652059) = false := decide_eq_false (by omega)
      clear HK hW
      go_wp2_with fail
      go_ret2
      exact ⟨0, rfl, rfl, unhide HU⟩
set_option maxHeartbeats 1000000 in
theorem seek_dn (bn bh : Nat) (v : Value) (hs : List Int) (n : Int) (w : World) (n1 : 1 ≤ n) (n2 : n ≤ 3652059) (hW : Hid (WorksA 17 v hs w)) (hn : w.cell? ⟨bn, 0, none⟩ = some (.int .i64 n)) (hv : w.cell? ⟨bh, 0, none⟩ = some v) :
    Calls Try.prog 26 #[.int .i64 (-1), .pointer (some ⟨bn, 0, none⟩), .pointer (some ⟨bh, 0, none⟩)] w fun e w' => ∃ r : Int, e = .returned (.tuple #[.int .i64 r, .int .i64 (seekE r)]) ∧ w' = w ∧ Down hs n r := by
  go_enter Try.func26, Try.ntmps26
  go_wp2_with fail
  go_loop [6] (fun i => ∃ k : Nat, 0 ≤ n - (k : Int) ∧ i = .int .i64 (n - (k : Int)) ∧ Hid (∀ j : Nat, j < k → works hs (n - (j : Int)) = false)) (fun i => (intOf i).toNat)
  case atStart => exact ⟨0, by omega, by simp, hide (fun j hj => by omega)⟩
  case round =>
    obtain ⟨k, hk, rfl, HK⟩ := hrel
    by_cases hlt : 1 ≤ n - (k : Int)
    · have hw1 := hide (unhide hW (n - (k : Int)))
      have o1 : decide (1 ≤ (n - (k : Int))) = true := decide_eq_true (by omega)
      have o2 : decide ((n - (k : Int)) ≤ 3652059) = true := decide_eq_true (by omega)
      cases hwk : works hs (n - (k : Int))
      · rw [hwk] at hw1
        have HK2 : Hid (∀ j : Nat, j < k + 1 → works hs (n - (j : Int)) = false) := hide (fun j hj => by
          by_cases e : j = k
          · rw [e]; exact hwk
          · exact unhide HK j (by omega))
        clear hwk HK
        go_wp2_with fail
        refine (unhide hw1).mono ?_
        rintro e w2 ⟨rfl, rfl⟩
        clear hw1
        go_wp2_with fail
        go_round
        case rel => exact ⟨k + 1, by omega, by congr 1; omega, HK2⟩
        case measure => simp [intOf]; omega
      · rw [hwk] at hw1
        have HU : Hid (Down hs n (n - (k : Int))) := hide (Or.inr ⟨by omega, by omega, hwk, fun q q1 q2 => by have := unhide HK (n - q).toNat (by omega); rwa [show n - ((n - q).toNat : Int) = q from by omega] at this⟩)
        have HE1 : Hid (Ending.returned (.tuple #[.int .i64 (n - (k : Int)), .int .i64 0]) = Ending.returned (.tuple #[.int .i64 (n - (k : Int)), .int .i64 (seekE (n - (k : Int)))])) := hide (by unfold seekE; rw [if_neg (by omega)])
        clear hwk HK
        go_wp2_with fail
        refine (unhide hw1).mono ?_
        rintro e w2 ⟨rfl, rfl⟩
        clear hw1
        go_wp2_with fail
        go_ret2
        exact ⟨(n - (k : Int)), unhide HE1, rfl, unhide HU⟩
    · have HU : Hid (Down hs n 0) := hide (Or.inl ⟨rfl, fun q q1 q2 => by have := unhide HK (n - q).toNat (by omega); rwa [show n - ((n - q).toNat : Int) = q from by omega] at this⟩)
      have o1 : decide (1 ≤ (n - (k : Int))) = false := decide_eq_false (by omega)
      clear HK hW
      go_wp2_with fail
      go_ret2
      exact ⟨0, rfl, rfl, unhide HU⟩
set_option maxHeartbeats 1000000 in
theorem rseek_up (v : Value) (hs : List Int) (n : Int) (w : World) (n1 : 1 ≤ n) (n2 : n ≤ 3652059) (hW : Hid (WorksA 18 v hs w)) :
    Calls Try.prog 28 #[.int .i64 n, .int .i64 (1), v] w fun e w' => ∃ r : Int, e = .returned (.int .i64 r) ∧ w' = w ∧ Up hs n r := by
  go_enter Try.func28, Try.ntmps28
  go_wp2_with fail
  go_loop [0] (fun i => ∃ k : Nat, n + (k : Int) ≤ 3652060 ∧ i = .int .i64 (n + (k : Int)) ∧ Hid (∀ j : Nat, j < k → works hs (n + (j : Int)) = false)) (fun i => 3652060 - (intOf i).toNat)
  case atStart => exact ⟨0, by omega, by simp, hide (fun j hj => by omega)⟩
  case round =>
    obtain ⟨k, hk, rfl, HK⟩ := hrel
    by_cases hlt : n + (k : Int) ≤ 3652059
    · have hw1 := hide (unhide hW (n + (k : Int)))
      have o1 : decide (1 ≤ (n + (k : Int))) = true := decide_eq_true (by omega)
      have o2 : decide ((n + (k : Int)) ≤ 3652059) = true := decide_eq_true (by omega)
      cases hwk : works hs (n + (k : Int))
      · rw [hwk] at hw1
        have HK2 : Hid (∀ j : Nat, j < k + 1 → works hs (n + (j : Int)) = false) := hide (fun j hj => by
          by_cases e : j = k
          · rw [e]; exact hwk
          · exact unhide HK j (by omega))
        clear hwk HK
        go_wp2_with fail
        refine (unhide hw1).mono ?_
        rintro e w2 ⟨rfl, rfl⟩
        clear hw1
        go_wp2_with fail
        go_round
        case rel => exact ⟨k + 1, by omega, by congr 1; omega, HK2⟩
        case measure => simp [intOf]; omega
      · rw [hwk] at hw1
        have HU : Hid (Up hs n (n + (k : Int))) := hide (Or.inr ⟨by omega, by omega, hwk, fun q q1 q2 => by have := unhide HK (q - n).toNat (by omega); rwa [show n + ((q - n).toNat : Int) = q from by omega] at this⟩)
        clear hwk HK
        go_wp2_with fail
        refine (unhide hw1).mono ?_
        rintro e w2 ⟨rfl, rfl⟩
        clear hw1
        go_wp2_with fail
        go_ret
        exact ⟨(n + (k : Int)), rfl, rfl, unhide HU⟩
    · have HU : Hid (Up hs n 0) := hide (Or.inl ⟨rfl, fun q q1 q2 => by have := unhide HK (q - n).toNat (by omega); rwa [show n + ((q - n).toNat : Int) = q from by omega] at this⟩)
      have o1 : decide (1 ≤ (n + (k : Int))) = true := decide_eq_true (by omega)
      have o2 : decide ((n + (k : Int)) ≤ 3652059) = false := decide_eq_false (by omega)
      clear HK hW
      go_wp2_with fail
      go_ret
      exact ⟨0, rfl, rfl, unhide HU⟩
set_option maxHeartbeats 1000000 in
theorem rseek_dn (v : Value) (hs : List Int) (n : Int) (w : World) (n1 : 1 ≤ n) (n2 : n ≤ 3652059) (hW : Hid (WorksA 18 v hs w)) :
    Calls Try.prog 28 #[.int .i64 n, .int .i64 (-1), v] w fun e w' => ∃ r : Int, e = .returned (.int .i64 r) ∧ w' = w ∧ Down hs n r := by
  go_enter Try.func28, Try.ntmps28
  go_wp2_with fail
  go_loop [0] (fun i => ∃ k : Nat, 0 ≤ n - (k : Int) ∧ i = .int .i64 (n - (k : Int)) ∧ Hid (∀ j : Nat, j < k → works hs (n - (j : Int)) = false)) (fun i => (intOf i).toNat)
  case atStart => exact ⟨0, by omega, by simp, hide (fun j hj => by omega)⟩
  case round =>
    obtain ⟨k, hk, rfl, HK⟩ := hrel
    by_cases hlt : 1 ≤ n - (k : Int)
    · have hw1 := hide (unhide hW (n - (k : Int)))
      have o1 : decide (1 ≤ (n - (k : Int))) = true := decide_eq_true (by omega)
      have o2 : decide ((n - (k : Int)) ≤ 3652059) = true := decide_eq_true (by omega)
      cases hwk : works hs (n - (k : Int))
      · rw [hwk] at hw1
        have HK2 : Hid (∀ j : Nat, j < k + 1 → works hs (n - (j : Int)) = false) := hide (fun j hj => by
          by_cases e : j = k
          · rw [e]; exact hwk
          · exact unhide HK j (by omega))
        clear hwk HK
        go_wp2_with fail
        refine (unhide hw1).mono ?_
        rintro e w2 ⟨rfl, rfl⟩
        clear hw1
        go_wp2_with fail
        go_round
        case rel => exact ⟨k + 1, by omega, by congr 1; omega, HK2⟩
        case measure => simp [intOf]; omega
      · rw [hwk] at hw1
        have HU : Hid (Down hs n (n - (k : Int))) := hide (Or.inr ⟨by omega, by omega, hwk, fun q q1 q2 => by have := unhide HK (n - q).toNat (by omega); rwa [show n - ((n - q).toNat : Int) = q from by omega] at this⟩)
        clear hwk HK
        go_wp2_with fail
        refine (unhide hw1).mono ?_
        rintro e w2 ⟨rfl, rfl⟩
        clear hw1
        go_wp2_with fail
        go_ret
        exact ⟨(n - (k : Int)), rfl, rfl, unhide HU⟩
    · have HU : Hid (Down hs n 0) := hide (Or.inl ⟨rfl, fun q q1 q2 => by have := unhide HK (n - q).toNat (by omega); rwa [show n - ((n - q).toNat : Int) = q from by omega] at this⟩)
      have o1 : decide (1 ≤ (n - (k : Int))) = false := decide_eq_false (by omega)
      clear HK hW
      go_wp2_with fail
      go_ret
      exact ⟨0, rfl, rfl, unhide HU⟩
end Go.Proofs.Ytmpalgfhamahnaa
