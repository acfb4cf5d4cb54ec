/- Plain facts on amortized cost: at the rate that was solved what is left is not far from what is to come is worth. -/
import Derived.Test.YtpeoabopeihadaaWQK
set_option linter.unusedVariables false
set_option linter.unusedSimpArgs false
set_option linter.unusedSectionVars false
namespace Go.Proofs.Ytpeoabopeihadaa.Mn
open Go.RowKit
theorem qD_bd {x r : Int} (h : May r) : -(1000000000000 + r) ≤ 2 * (qD x r * (1000000000000 + r) - x * 1000000000000) ∧ 2 * (qD x r * (1000000000000 + r) - x * 1000000000000) ≤ 1000000000000 + r :=
  near_bd (by have := h.1; omega)
theorem fine_near {r : Int} (h : May r) (hr : 0 ≤ r) : ∀ l : List Int, -(501 * (l.length : Int)) ≤ worth r (fine l) - 1000 * worth r l ∧ worth r (fine l) - 1000 * worth r l ≤ 501 * (l.length : Int)
  | [] => by simp [fine, worth]
  | a :: l => by
    have b := fine_near h hr l
    have c := qD_bd (x := worth r (fine l) + a * 1000) h
    have d := qD_bd (x := worth r l + a) h
    rw [show ((a :: l).length : Int) = (l.length : Int) + 1 by simp]
    show _ ≤ qD (worth r (fine l) + a * 1000) r - 1000 * qD (worth r l + a) r ∧ qD (worth r (fine l) + a * 1000) r - 1000 * qD (worth r l + a) r ≤ _
    generalize qD (worth r (fine l) + a * 1000) r = F at *
    generalize qD (worth r l + a) r = W at *
    generalize worth r (fine l) = f at *
    generalize worth r l = w at *
    have e : (F - 1000 * W) * (1000000000000 + r) = F * (1000000000000 + r) - 1000 * (W * (1000000000000 + r)) := by rw [Int.sub_mul, Int.mul_assoc]
    have k : 0 ≤ 501 * ((l.length : Int) + 1) * r := Int.mul_nonneg (by omega) hr
    have g : (501 * ((l.length : Int) + 1) + 1) * (1000000000000 + r) = 501 * ((l.length : Int) + 1) * 1000000000000 + 501 * ((l.length : Int) + 1) * r + (1000000000000 + r) := by rw [Int.add_mul, Int.mul_add (501 * ((l.length : Int) + 1)), Int.one_mul]
    have k2 : 0 ≤ 501 * (l.length : Int) * r := Int.mul_nonneg (by omega) hr
    have e2 : 501 * ((l.length : Int) + 1) * r = 501 * (l.length : Int) * r + 501 * r := by rw [Int.mul_add, Int.add_mul, Int.mul_one]
    constructor
    · rcases Int.lt_or_le (F - 1000 * W) (-(501 * ((l.length : Int) + 1))) with t | t
      · have := Int.mul_le_mul_of_nonneg_right (show F - 1000 * W ≤ -(501 * ((l.length : Int) + 1) + 1) by omega) (show 0 ≤ 1000000000000 + r by omega)
        rw [e, Int.neg_mul, g] at this
        omega
      · exact t
    · rcases Int.lt_or_le (501 * ((l.length : Int) + 1)) (F - 1000 * W) with t | t
      · have := Int.mul_le_mul_of_nonneg_right (show 501 * ((l.length : Int) + 1) + 1 ≤ F - 1000 * W by omega) (show 0 ≤ 1000000000000 + r by omega)
        rw [e, g] at this
        omega
      · exact t
theorem fine_next {r : Int} (hr : 0 ≤ r) (h1 : r < 10000000000000) : ∀ l : List Int, (∀ x ∈ l, 0 ≤ x ∧ x ≤ 1000000) → l.length ≤ 20 → worth r (fine l) ≤ worth (r + 1) (fine l) + 2 * l.length
  | [], _, _ => by simp [fine, worth]
  | a :: l, hl, hn => by
    have hn' : l.length + 1 ≤ 20 := by simpa using hn
    have hl' : ∀ x ∈ l, 0 ≤ x ∧ x ≤ 1000000 := fun x hx => hl x (List.mem_cons_of_mem a hx)
    have hM : May r := ⟨by omega, by omega⟩
    have hM' : May (r + 1) := ⟨by omega, by omega⟩
    have b := fine_next hr h1 l hl' (by omega)
    have c := qD_bd (x := worth r (fine l) + a * 1000) hM
    have d := qD_bd (x := worth (r + 1) (fine l) + a * 1000) hM'
    have z := hl a List.mem_cons_self
    have y := worth_within (M := 1000000000) hM' (by omega) (l := fine l) (by
      intro x hx
      obtain ⟨q, hq, rfl⟩ := List.mem_map.mp hx
      have := hl' q hq
      omega)
    have y0 := worth_nonneg hM' (l := fine l) (fine_pos fun x hx => (hl' x hx).1)
    rw [fine_len] at y
    have v := qD_le (x := worth (r + 1) (fine l) + a * 1000) (r := r + 1) (by omega) (by omega)
    rw [show ((a :: l).length : Int) = (l.length : Int) + 1 by simp]
    show qD (worth r (fine l) + a * 1000) r ≤ qD (worth (r + 1) (fine l) + a * 1000) (r + 1) + _
    generalize qD (worth r (fine l) + a * 1000) r = F at *
    generalize qD (worth (r + 1) (fine l) + a * 1000) (r + 1) = G at *
    generalize worth r (fine l) = f at *
    generalize worth (r + 1) (fine l) = g at *
    rcases Int.lt_or_le (G + 2 * ((l.length : Int) + 1)) F with t | t
    · have := Int.mul_le_mul_of_nonneg_right (show G + (2 * (l.length : Int) + 3) ≤ F by omega) (show 0 ≤ 1000000000000 + r by omega)
      have kr : 0 ≤ (2 * (l.length : Int) + 3) * r := Int.mul_nonneg (by omega) hr
      have e1 : G * (1000000000000 + (r + 1)) = G * (1000000000000 + r) + G := by rw [show 1000000000000 + (r + 1) = 1000000000000 + r + 1 by omega, Int.mul_add, Int.mul_one]
      have kr2 : (2 * (l.length : Int) + 3) * r = 2 * (l.length : Int) * r + 3 * r := Int.add_mul _ _ _
      have kr3 : 0 ≤ 2 * (l.length : Int) * r := Int.mul_nonneg (by omega) hr
      rw [e1] at d
      rw [Int.add_mul, Int.mul_add (2 * (l.length : Int) + 3)] at this
      omega
    · exact t
theorem first_near {o r : Int} {l : List Int} (hr : 0 ≤ r) (hl : ∀ x ∈ l, 0 ≤ x ∧ x ≤ 1000000) (hn : l.length ≤ 20) (h : IsEir o l r) : -(l.length : Int) ≤ o - worth r l ∧ o - worth r l ≤ l.length := by
  have a := h.lo
  have b := h.hi
  have hM : May r := ⟨by omega, by omega⟩
  have c := fine_near hM hr l
  have d := fine_next hr b l hl hn
  have e := (cov_no.mp h.no).2
  have f : fits r (fine l) = true := fine_fits hM hr (fun x hx => ⟨(hl x hx).1, by have := (hl x hx).2; omega⟩) (by omega)
  rcases cov_yes.mp h.yes with g | g
  · rw [f] at g
    exact absurd g (by decide)
  · omega
def farAt (n : Nat) : Nat → Int
  | 0 => (n : Int) + 2
  | k + 1 => farAt n k + (farAt n k / 4 + 2)
theorem farAt_pos (n : Nat) : ∀ k, 2 ≤ farAt n k
  | 0 => by simp only [farAt]; omega
  | k + 1 => by
    have := farAt_pos n k
    simp only [farAt]
    omega
def leftAt (o r : Int) (l : List Int) : Nat → Int
  | 0 => o
  | k + 1 => leftAt o r l k + near (leftAt o r l k * r) 1000000000000 - l.getD k 0
theorem roll_near {x w v a r far : Int} (hM : May r) (hr : 0 ≤ r) (h2 : r ≤ 200000000000) (hf : 2 ≤ far) (hw : w = qD (v + a) r) (h1 : -far ≤ x - w) (h3 : x - w ≤ far) :
    -(far + (far / 4 + 2)) ≤ x + near (x * r) 1000000000000 - a - v ∧ x + near (x * r) 1000000000000 - a - v ≤ far + (far / 4 + 2) := by
  have c := near_bd (x := x * r) (B := 1000000000000) (by omega)
  have d := qD_bd (x := v + a) hM
  rw [← hw] at d
  generalize near (x * r) 1000000000000 = i at *
  have e : (x - w) * r = x * r - w * r := Int.sub_mul _ _ _
  have p1 := Int.mul_le_mul_of_nonneg_right h3 hr
  have p2 := Int.mul_le_mul_of_nonneg_right h1 hr
  have p3 := Int.mul_le_mul_of_nonneg_left h2 (show 0 ≤ far by omega)
  rw [Int.neg_mul] at p2
  rw [e] at p1 p2
  rw [Int.mul_add] at d
  omega
theorem plug_near {x w a r far : Int} (hM : May r) (hr : 0 ≤ r) (h2 : r ≤ 200000000000) (hf : 2 ≤ far) (hw : w = qD a r) (h1 : -far ≤ x - w) (h3 : x - w ≤ far) :
    -(2 * far) ≤ a - x - near (x * r) 1000000000000 ∧ a - x - near (x * r) 1000000000000 ≤ 2 * far := by
  have := roll_near (v := 0) (a := a) hM hr h2 hf (by rw [hw, Int.zero_add]) h1 h3
  have c := near_bd (x := x * r) (B := 1000000000000) (by omega)
  have d := qD_bd (x := a) hM
  rw [← hw] at d
  generalize near (x * r) 1000000000000 = i at *
  have e : (x - w) * r = x * r - w * r := Int.sub_mul _ _ _
  have p1 := Int.mul_le_mul_of_nonneg_right h3 hr
  have p2 := Int.mul_le_mul_of_nonneg_right h1 hr
  have p3 := Int.mul_le_mul_of_nonneg_left h2 (show 0 ≤ far by omega)
  rw [Int.neg_mul] at p2
  rw [e] at p1 p2
  rw [Int.mul_add] at d
  omega
theorem left_near {o r : Int} {l : List Int} (hr : 0 ≤ r) (h2 : r ≤ 200000000000) (hl : ∀ x ∈ l, 0 ≤ x ∧ x ≤ 1000000) (hn : l.length ≤ 20) (h : IsEir o l r) : ∀ k, k ≤ l.length → -farAt l.length k ≤ leftAt o r l k - worth r (l.drop k) ∧ leftAt o r l k - worth r (l.drop k) ≤ farAt l.length k
  | 0, _ => by
    have := first_near hr hl hn h
    simp only [farAt, leftAt, List.drop_zero]
    omega
  | k + 1, hk => by
    have a := left_near hr h2 hl hn h k (by omega)
    exact roll_near (far := farAt l.length k) ⟨by omega, by omega⟩ hr h2 (farAt_pos _ _) (worth_drop (by omega)) a.1 a.2
theorem last_near {o r : Int} {l : List Int} {k : Nat} (hr : 0 ≤ r) (h2 : r ≤ 200000000000) (hl : ∀ x ∈ l, 0 ≤ x ∧ x ≤ 1000000) (hn : l.length ≤ 20) (h : IsEir o l r) (hk : k + 1 = l.length) :
    -(2 * farAt l.length k) ≤ l.getD k 0 - leftAt o r l k - near (leftAt o r l k * r) 1000000000000 ∧ l.getD k 0 - leftAt o r l k - near (leftAt o r l k * r) 1000000000000 ≤ 2 * farAt l.length k := by
  have a := left_near hr h2 hl hn h k (by omega)
  have w := worth_drop (r := r) (l := l) (k := k) (by omega)
  rw [show l.drop (k + 1) = [] from List.drop_of_length_le (by omega), show worth r [] = 0 from rfl, Int.zero_add] at w
  exact plug_near ⟨by omega, by omega⟩ hr h2 (farAt_pos _ _) w a.1 a.2
theorem farAt_hi {n : Nat} (hn : n ≤ 20) : ∀ k, k ≤ n → farAt n k ≤ 32 * 2 ^ k
  | 0, _ => by simp only [farAt]; omega
  | k + 1, hk => by
    have a := farAt_hi hn k (by omega)
    have p : (1 : Int) ≤ 2 ^ k := by
      have := Int.pow_pos (n := 2) (m := k) (by omega)
      omega
    have q : (2 : Int) ^ (k + 1) = 2 ^ k * 2 := Int.pow_succ _ _
    simp only [farAt]
    rw [q]
    generalize (2 : Int) ^ k = t at *
    omega
theorem left_bound {o r : Int} {l : List Int} (hr : 0 ≤ r) (h2 : r ≤ 200000000000) (hl : ∀ x ∈ l, 0 ≤ x ∧ x ≤ 1000000) (hn : l.length ≤ 20) (h : IsEir o l r) (k : Nat) (hk : k ≤ l.length) : -1000000000 ≤ leftAt o r l k ∧ leftAt o r l k ≤ 1000000000 := by
  have a := left_near hr h2 hl hn h k hk
  have b := farAt_hi hn k hk
  have c : (2 : Int) ^ k ≤ 2 ^ 20 := by
    have := Nat.pow_le_pow_right (n := 2) (by omega) (show k ≤ 20 by omega)
    exact_mod_cast this
  have d := worth_within (M := 1000000) (r := r) ⟨by omega, by omega⟩ hr (l := l.drop k) (fun x hx => by have := hl x (List.mem_of_mem_drop hx); omega)
  have e : ((l.drop k).length : Int) ≤ 20 := by rw [List.length_drop]; omega
  have f : (2 : Int) ^ 20 = 1048576 := by decide
  omega
end Go.Proofs.Ytpeoabopeihadaa.Mn
