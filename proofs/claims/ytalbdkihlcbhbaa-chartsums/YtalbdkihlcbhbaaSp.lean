/- Net of Net, in another order, of parts (plain). -/
import Derived.Test.YtalbdkihlcbhbaaNt
namespace Go.Proofs.Ytalbdkihlcbhbaa
open Go.RowKit
set_option linter.unusedVariables false
set_option linter.unusedSimpArgs false
theorem sumA_append (l m : List Li) (a : Int) : sumA (l ++ m) a = sumA l a + sumA m a := by unfold sumA; rw [am_append, Mn.total_append]
theorem sumA_nil (a : Int) : sumA [] a = 0 := rfl
theorem sumA_one (p q a : Int) : sumA [(p, q)] a = if p = a then q else 0 := by
  unfold sumA am
  by_cases h : p = a
  · simp [h, Mn.total]
  · simp [h, Mn.total]
theorem netT_congr {l m : List Li} (h : ∀ i : Nat, i < 7 → sumA l ((i : Int) + 1) = sumA m ((i : Int) + 1)) : ∀ j, j ≤ 7 → netT l j = netT m j ∧ okT l j = okT m j
  | 0, _ => ⟨rfl, rfl⟩
  | j + 1, hj => by
    obtain ⟨h1, h2⟩ := netT_congr h j (by omega)
    have e := h j (by omega)
    exact ⟨by rw [netT, netT, h1, e], by rw [okT, okT, h2, e]⟩
theorem net_congr {l m : List Li} (h : ∀ i : Nat, i < 7 → sumA l ((i : Int) + 1) = sumA m ((i : Int) + 1)) (ha : accAll l = accAll m) : netE l = netE m ∧ netL l = netL m := by
  obtain ⟨h1, h2⟩ := netT_congr h 7 (Nat.le_refl _)
  have hE : netE l = netE m := by unfold netE; rw [ha, h2]
  exact ⟨hE, by unfold netL; rw [hE, h1]⟩
theorem acc_append (l m : List Li) : accAll (l ++ m) = (accAll l && accAll m) := by unfold accAll; rw [List.all_append]
/-- In another order. -/
theorem net_swap (l : List Li) (k : Nat) : netE (l.drop k ++ l.take k) = netE l ∧ netL (l.drop k ++ l.take k) = netL l := by
  have e := List.take_append_drop k l
  refine net_congr (fun i _ => ?_) ?_
  · have h := sumA_append (l.take k) (l.drop k) ((i : Int) + 1)
    rw [e] at h
    rw [sumA_append, h]
    omega
  · have h := acc_append (l.take k) (l.drop k)
    rw [e] at h
    rw [acc_append, h, Bool.and_comm]
theorem sumA_T (l : List Li) (i : Nat) : ∀ j, sumA (netT l j) ((i : Int) + 1) = if i < j then sumA l ((i : Int) + 1) else 0
  | 0 => rfl
  | j + 1 => by
    have h := sumA_T l i j
    rw [netT, sumA_append, h]
    by_cases hz : sumA l ((j : Int) + 1) = 0
    · rw [if_pos hz, sumA_nil]
      by_cases hj : i = j
      · subst hj; rw [if_neg (by omega), if_pos (by omega), hz]; rfl
      · by_cases h1 : i < j
        · rw [if_pos h1, if_pos (by omega)]; omega
        · rw [if_neg h1, if_neg (by omega)]; rfl
    · rw [if_neg hz, sumA_one]
      by_cases hj : i = j
      · subst hj; rw [if_neg (by omega), if_pos rfl, if_pos (by omega)]; omega
      · have hq : ¬ ((j : Int) + 1 = (i : Int) + 1) := by omega
        rw [if_neg hq]
        by_cases h1 : i < j
        · rw [if_pos h1, if_pos (by omega)]; omega
        · rw [if_neg h1, if_neg (by omega)]; rfl
theorem acc_T (l : List Li) : ∀ j, j ≤ 7 → accAll (netT l j) = true
  | 0, _ => rfl
  | j + 1, hj => by
    rw [netT, acc_append, acc_T l j (by omega)]
    split
    · rfl
    · unfold accAll; simp; exact accB_yes (by omega)
theorem net_ok {l : List Li} (h : netE l = 0) : accAll l = true ∧ okT l 7 = true ∧ netL l = netT l 7 := by
  have hL : netL l = netT l 7 := by unfold netL; rw [if_pos h]
  unfold netE at h
  split at h
  · next ha =>
    split at h
    · next ho => exact ⟨ha, ho, hL⟩
    · cases h
  · cases h
theorem sumA_L {l : List Li} (h : netE l = 0) {i : Nat} (hi : i < 7) : sumA (netL l) ((i : Int) + 1) = sumA l ((i : Int) + 1) := by
  rw [(net_ok h).2.2, sumA_T, if_pos hi]
theorem acc_L {l : List Li} (h : netE l = 0) : accAll (netL l) = true := by rw [(net_ok h).2.2]; exact acc_T l 7 (Nat.le_refl _)
/-- Net of Net is Net. -/
theorem net_net {l : List Li} (h : netE l = 0) : netE (netL l) = 0 ∧ netL (netL l) = netL l := by
  obtain ⟨h1, h2⟩ := net_congr (l := netL l) (m := l) (fun i hi => sumA_L h hi) ((acc_L h).trans (net_ok h).1.symm)
  exact ⟨h1.trans h, h2⟩
/-- Two rows' Nets, netted, are the Net of both. -/
theorem net_parts {l : List Li} {k : Nat} (h : netE l = 0) (h1 : netE (l.take k) = 0) (h2 : netE (l.drop k) = 0) : netE (netL (l.take k) ++ netL (l.drop k)) = 0 ∧ netL (netL (l.take k) ++ netL (l.drop k)) = netL l := by
  have e := List.take_append_drop k l
  obtain ⟨q1, q2⟩ := net_congr (l := netL (l.take k) ++ netL (l.drop k)) (m := l) (fun i hi => by
    rw [sumA_append, sumA_L h1 hi, sumA_L h2 hi, ← sumA_append, e]) (by rw [acc_append, acc_L h1, acc_L h2, (net_ok h).1]; rfl)
  exact ⟨q1.trans h, q2⟩
/-- All sums together are the sum of all. -/
def allT (l : List Li) : Nat → Int
  | 0 => 0
  | j + 1 => allT l j + sumA l ((j : Int) + 1)
theorem tot_append (l m : List Li) : tot (l ++ m) = tot l + tot m := by unfold tot; rw [List.map_append, Mn.total_append]
theorem tot_T (l : List Li) : ∀ j, tot (netT l j) = allT l j
  | 0 => rfl
  | j + 1 => by
    rw [netT, tot_append, tot_T l j, allT]
    split
    · next h => rw [h]; rfl
    · simp [tot, Mn.total]
theorem sumA_cons (p q : Int) (r : List Li) (a : Int) : sumA ((p, q) :: r) a = (if p = a then q else 0) + sumA r a := by
  rw [← sumA_one, ← sumA_append]; rfl
theorem allT_cons (p q : Int) (r : List Li) : ∀ j : Nat, allT ((p, q) :: r) j = allT r j + (if 1 ≤ p ∧ p ≤ (j : Int) then q else 0)
  | 0 => by rw [if_neg (by omega)]; rfl
  | j + 1 => by
    rw [allT, allT, allT_cons p q r j, sumA_cons]
    by_cases h : p = (j : Int) + 1
    · rw [if_pos h, if_neg (by omega), if_pos (by omega)]; omega
    · rw [if_neg h]
      by_cases h1 : 1 ≤ p ∧ p ≤ (j : Int)
      · rw [if_pos h1, if_pos (by omega)]; omega
      · rw [if_neg h1, if_neg (by omega)]; omega
theorem allT_nil : ∀ j : Nat, allT [] j = 0
  | 0 => rfl
  | j + 1 => by rw [allT, allT_nil j]; rfl
theorem allT_tot : ∀ {l : List Li}, accAll l = true → allT l 7 = tot l
  | [], _ => allT_nil 7
  | (p, q) :: r, h => by
    unfold accAll at h
    rw [List.all_cons, Bool.and_eq_true] at h
    have e := allT_tot (l := r) h.2
    have hp : accB p = true := h.1
    unfold accB at hp
    simp at hp
    rw [allT_cons, e, if_pos (by omega)]
    have : tot ((p, q) :: r) = q + tot r := by simp [tot, Mn.total]
    omega
/-- Of lines that may be it is nothing all together. -/
theorem tot_L {l : List Li} (h : netE l = 0) (hc : chkE l = 0) : tot (netL l) = 0 := by
  rw [(net_ok h).2.2, tot_T, allT_tot (net_ok h).1]
  unfold chkE at hc
  split at hc
  · cases hc
  · split at hc
    · next h1 => exact h1.2.2
    · cases hc
theorem net_small (l : List Li) : (netL l).length ≤ 7 := by
  unfold netL
  split
  · exact netT_len l 7
  · simp
theorem in_T {l : List Li} : ∀ {j}, okT l j = true → AllIn (netT l j)
  | 0, _ => fun x hx => by cases hx
  | j + 1, h => by
    rw [okT, Bool.and_eq_true, decide_eq_true_eq] at h
    rw [netT]
    intro x hx
    rcases List.mem_append.1 hx with hx | hx
    · exact in_T h.1 x hx
    · split at hx
      · cases hx
      · rw [List.mem_singleton] at hx
        subst hx
        exact in_of_turn h.2
theorem in_L (l : List Li) : AllIn (netL l) := by
  by_cases h : netE l = 0
  · rw [(net_ok h).2.2]; exact in_T (net_ok h).2.1
  · unfold netL; rw [if_neg h]; exact fun x hx => by cases hx
theorem in_append {l m : List Li} (h : AllIn l) (h' : AllIn m) : AllIn (l ++ m) := fun x hx => (List.mem_append.1 hx).elim (h x) (h' x)
theorem in_take {l : List Li} (h : AllIn l) (k : Nat) : AllIn (l.take k) := fun x hx => h x (List.mem_of_mem_take hx)
theorem in_drop {l : List Li} (h : AllIn l) (k : Nat) : AllIn (l.drop k) := fun x hx => h x (List.mem_of_mem_drop hx)
end Go.Proofs.Ytalbdkihlcbhbaa
