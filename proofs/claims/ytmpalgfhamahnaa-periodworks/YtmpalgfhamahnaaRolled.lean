/- Roll and the reference's Roll answer the same. -/
import Derived.Test.YtmpalgfhamahnaaRRoll
import Derived.Test.YtmpalgfhamahnaaAlive
namespace Go.Proofs.Ytmpalgfhamahnaa
open Go.RowKit
theorem up_ex (hs : List Int) : ∀ (K : Nat) (n : Int), 3652060 - n ≤ (K : Int) → ∃ r, Up hs n r
  | 0, n, h => ⟨0, Or.inl ⟨rfl, fun k h1 h2 => by omega⟩⟩
  | K + 1, n, h => by
    cases hw : works hs n
    · obtain ⟨r, hr⟩ := up_ex hs K (n + 1) (by omega)
      refine ⟨r, ?_⟩
      have no : ∀ k : Int, k = n → works hs k = false := fun k e => by rw [e]; exact hw
      rcases hr with ⟨rfl, hr⟩ | ⟨h1, h2, h3, h4⟩
      · exact Or.inl ⟨rfl, fun k a b => by
          by_cases e : k = n
          · exact no k e
          · exact hr k (by omega) b⟩
      · exact Or.inr ⟨by omega, h2, h3, fun k a b => by
          by_cases e : k = n
          · exact no k e
          · exact h4 k (by omega) b⟩
    · by_cases c : n ≤ 3652059
      · exact ⟨n, Or.inr ⟨Int.le_refl _, c, hw, fun k h1 h2 => by omega⟩⟩
      · exact ⟨0, Or.inl ⟨rfl, fun k h1 h2 => by omega⟩⟩
theorem down_ex (hs : List Int) : ∀ (K : Nat) (n : Int), n ≤ (K : Int) → ∃ r, Down hs n r
  | 0, n, h => ⟨0, Or.inl ⟨rfl, fun k h1 h2 => by omega⟩⟩
  | K + 1, n, h => by
    cases hw : works hs n
    · obtain ⟨r, hr⟩ := down_ex hs K (n - 1) (by omega)
      refine ⟨r, ?_⟩
      have no : ∀ k : Int, k = n → works hs k = false := fun k e => by rw [e]; exact hw
      rcases hr with ⟨rfl, hr⟩ | ⟨h1, h2, h3, h4⟩
      · exact Or.inl ⟨rfl, fun k a b => by
          by_cases e : k = n
          · exact no k e
          · exact hr k a (by omega)⟩
      · exact Or.inr ⟨h1, by omega, h3, fun k a b => by
          by_cases e : k = n
          · exact no k e
          · exact h4 k a (by omega)⟩
    · by_cases c : 1 ≤ n
      · exact ⟨n, Or.inr ⟨c, Int.le_refl _, hw, fun k h1 h2 => by omega⟩⟩
      · exact ⟨0, Or.inl ⟨rfl, fun k h1 h2 => by omega⟩⟩
theorem up_bd {hs : List Int} {n r : Int} (h : Up hs n r) : r = 0 ∨ (n ≤ r ∧ r ≤ 3652059) := by
  rcases h with ⟨h, _⟩ | ⟨h1, h2, _⟩
  · exact Or.inl h
  · exact Or.inr ⟨h1, h2⟩
theorem down_bd {hs : List Int} {n r : Int} (h : Down hs n r) : r = 0 ∨ (1 ≤ r ∧ r ≤ n) := by
  rcases h with ⟨h, _⟩ | ⟨h1, h2, _⟩
  · exact Or.inl h
  · exact Or.inr ⟨h1, h2⟩
theorem seekE_0 : seekE 0 = 5 := rfl
theorem seekE_n {r : Int} (h : r ≠ 0) : seekE r = 0 := if_neg h
/-- What both answer. -/
theorem rolls_any (n way : Int) (a : Option Addr) (l c : Nat) (hs : List Int) : ∃ r e : Int, RollA n way a l c hs r e ∧ RRollA n way a l c hs r e := by
  by_cases hn : 1 ≤ n ∧ n ≤ 3652059
  · obtain ⟨y, m, d, hv, e0⟩ := date_of n hn.1 hn.2
    have hT := hide (to_ok y m d hv)
    have hR := hide (rto_ok y m d hv)
    rw [e0] at hT hR
    by_cases w1 : way < 0
    · exact ⟨0, 2, roll_lo n y m d way a l c hs hT (decide_eq_true w1), rroll_lo n y m d way a l c hs hR (decide_eq_true w1)⟩
    by_cases w2 : 3 < way
    · exact ⟨0, 2, roll_hi n y m d way a l c hs hT (decide_eq_false w1) (decide_eq_true w2), rroll_hi n y m d way a l c hs hR (decide_eq_false w1) (decide_eq_true w2)⟩
    by_cases w3 : (600 : Int) < (l : Int)
    · exact ⟨0, 2, roll_long n y m d way a l c hs hT (decide_eq_false w1) (decide_eq_false w2) (decide_eq_true w3), rroll_long n y m d way a l c hs hR (decide_eq_false w1) (decide_eq_false w2) (decide_eq_true w3)⟩
    have d3 : decide ((600 : Int) < (l : Int)) = false := decide_eq_false w3
    by_cases k0 : way = 0
    · subst k0
      exact ⟨n, 0, roll_0 n y m d a l c hs hT d3, rroll_0 n y m d a l c hs hR d3⟩
    obtain ⟨u, hu⟩ := up_ex hs (3652060 - n).toNat n (by omega)
    obtain ⟨t, ht⟩ := down_ex hs n.toNat n (by omega)
    have sU := sk_up (v := .slice a l c) hn.1 hn.2 hu
    have sD := sk_dn (v := .slice a l c) hn.1 hn.2 ht
    have rU := hide (rsk_up (v := .slice a l c) hn.1 hn.2 hu)
    have rD := hide (rsk_dn (v := .slice a l c) hn.1 hn.2 ht)
    have hW := rwk_any n (.slice a l c) hs
    cases hw : works hs n
    · rw [hw] at hW
      replace hW := hide hW
      by_cases k1 : way = 1
      · subst k1
        refine ⟨u, seekE u, roll_1 n y m d u _ a l c hs hT d3 (hide sU), ?_⟩
        by_cases z : u = 0
        · subst z
          exact rroll_1z n y m d 0 t a l c hs hR d3 hW rU rD rfl
        · rw [seekE_n z]
          exact rroll_1y n y m d u t a l c hs hR d3 hW rU rD (beq_false_of_ne z)
      by_cases k3 : way = 3
      · subst k3
        refine ⟨t, seekE t, roll_3 n y m d t _ a l c hs hT d3 (hide sD), ?_⟩
        by_cases z : t = 0
        · subst z
          exact rroll_3z n y m d u 0 a l c hs hR d3 hW rU rD rfl
        · rw [seekE_n z]
          exact rroll_3y n y m d u t a l c hs hR d3 hW rU rD (beq_false_of_ne z)
      obtain rfl : way = 2 := by omega
      by_cases z : u = 0
      · subst z
        refine ⟨t, seekE t, roll_2z n y m d t _ a l c hs hT d3 0 (hide sU) (hide sD), ?_⟩
        have hX := hide (rto_no 0 (by omega))
        by_cases z : t = 0
        · subst z
          exact rroll_2nt n y m d 0 a l c hs hR d3 hW rU rD hX rfl
        · rw [seekE_n z]
          exact rroll_2nf n y m d t a l c hs hR d3 hW rU rD hX (beq_false_of_ne z)
      · have hub := up_bd hu
        rw [seekE_n z] at sU
        obtain ⟨y', m', d', hv', e0'⟩ := date_of u (by omega) (by omega)
        have hT' := hide (to_ok y' m' d' hv')
        have hR' := hide (rto_ok y' m' d' hv')
        rw [e0'] at hT' hR'
        have hS := sameM_any n u y m d y' m' d' hT hT'
        have far : ∀ e : Int, e = seekE t → (((y == y') && (m == m')) = false) → RRollA n 2 a l c hs t e := by
          intro e he hb
          by_cases hm : m' = m
          · have hy : y' ≠ y := fun e => by rw [e, hm] at hb; simp at hb
            by_cases z2 : t = 0
            · subst z2
              rw [he]
              exact rroll_2yt n y m d u 0 y' m' d' a l c hs hR d3 hW rU rD hR' (beq_false_of_ne z) (by simp [hm]) (by simp [hy]) rfl
            · rw [he, seekE_n z2]
              exact rroll_2yf n y m d u t y' m' d' a l c hs hR d3 hW rU rD hR' (beq_false_of_ne z) (by simp [hm]) (by simp [hy]) (beq_false_of_ne z2)
          · by_cases z2 : t = 0
            · subst z2
              rw [he]
              exact rroll_2mt n y m d u 0 y' m' d' a l c hs hR d3 hW rU rD hR' (beq_false_of_ne z) (by simp [hm]) rfl
            · rw [he, seekE_n z2]
              exact rroll_2mf n y m d u t y' m' d' a l c hs hR d3 hW rU rD hR' (beq_false_of_ne z) (by simp [hm]) (beq_false_of_ne z2)
        cases hb : ((y == y') && (m == m'))
        · rw [hb] at hS
          exact ⟨t, seekE t, roll_2n n y m d t _ a l c hs hT d3 u (hide sU) (hide hS) (hide sD), far _ rfl hb⟩
        · rw [hb] at hS
          have hy : y = y' ∧ m = m' := by simpa using hb
          exact ⟨u, 0, roll_2y n y m d u a l c hs hT d3 (hide sU) (hide hS), rroll_2s n y m d u t y' m' d' a l c hs hR d3 hW rU rD hR' (beq_false_of_ne z) (by simp [hy.2]) (by simp [hy.1])⟩
    · rw [hw] at hW
      replace hW := hide hW
      have eu : u = n := hu.only (Or.inr ⟨Int.le_refl _, hn.2, hw, fun k h1 h2 => by omega⟩)
      have et : t = n := ht.only (Or.inr ⟨hn.1, Int.le_refl _, hw, fun k h1 h2 => by omega⟩)
      have e1 : seekE n = 0 := seekE_n (by omega)
      rw [eu, e1] at sU
      rw [et, e1] at sD
      by_cases k1 : way = 1
      · subst k1
        exact ⟨n, 0, roll_1 n y m d n 0 a l c hs hT d3 (hide sU), rroll_w1 n y m d a l c hs hR d3 hW⟩
      by_cases k3 : way = 3
      · subst k3
        exact ⟨n, 0, roll_3 n y m d n 0 a l c hs hT d3 (hide sD), rroll_w3 n y m d a l c hs hR d3 hW⟩
      obtain rfl : way = 2 := by omega
      have hS := sameM_any n n y m d y m d hT hT
      rw [show ((y == y) && (m == m)) = true from by simp] at hS
      exact ⟨n, 0, roll_2y n y m d n a l c hs hT d3 (hide sU) (hide hS), rroll_w2 n y m d a l c hs hR d3 hW⟩
  · exact ⟨0, 5, roll_n n way a l c hs (hide (to_no n (by omega))), rroll_n n way a l c hs (hide (rto_no n (by omega)))⟩
end Go.Proofs.Ytmpalgfhamahnaa
