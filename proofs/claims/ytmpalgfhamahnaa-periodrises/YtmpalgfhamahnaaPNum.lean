/- Plain facts on months on, on days that work, and on the days that are sought. No program in this text. -/
import Derived.Test.YtmpalgfhamahnaaNum
namespace Go.Proofs.Ytmpalgfhamahnaa
/-- Months since the year 0. -/
def ix (y m : Int) : Int := 12 * y + m - 1
theorem ix_y {y m : Int} (h1 : 1 ≤ m) (h2 : m ≤ 12) : ix y m / 12 = y := by unfold ix; omega
theorem ix_m {y m : Int} (h1 : 1 ≤ m) (h2 : m ≤ 12) : ix y m % 12 + 1 = m := by unfold ix; omega
theorem ix_of (i : Int) : ix (i / 12) (i % 12 + 1) = i := by unfold ix; omega
/-- The day of the month that is taken in the month Y, M. -/
def dOf (last : Bool) (d Y M : Int) : Int := if len (leap Y) M < d ∨ last = true then len (leap Y) M else d
theorem dOf_valid {last : Bool} {d Y M : Int} (h1 : 1 ≤ Y) (h2 : Y ≤ 9999) (h3 : 1 ≤ M) (h4 : M ≤ 12) (hd : 1 ≤ d) : Valid Y M (dOf last d Y M) := by
  have := len_pos (leap Y) h3 h4
  unfold dOf
  split
  · exact ⟨h1, h2, h3, h4, by omega, Int.le_refl _⟩
  · exact ⟨h1, h2, h3, h4, hd, by omega⟩
theorem dOf_28 {d Y M : Int} (h3 : 1 ≤ M) (h4 : M ≤ 12) (hd : d ≤ 28) : dOf false d Y M = d := by
  have := len_pos (leap Y) h3 h4
  unfold dOf
  rw [if_neg]
  intro h
  rcases h with h | h
  · omega
  · cases h
theorem dOf_last {d Y M : Int} : dOf true d Y M = len (leap Y) M := by
  unfold dOf
  rw [if_pos (Or.inr rfl)]
theorem dOf_min {d Y M : Int} : dOf false d Y M = (if len (leap Y) M < d then len (leap Y) M else d) := by
  unfold dOf
  by_cases h : len (leap Y) M < d
  · rw [if_pos (Or.inl h), if_pos h]
  · rw [if_neg (fun c => c.elim h (fun c => by cases c)), if_neg h]
theorem dOf_bd {last : Bool} {d Y M : Int} (hd : 1 ≤ d) (hd2 : d ≤ 31) (h3 : 1 ≤ M) (h4 : M ≤ 12) : 1 ≤ dOf last d Y M ∧ dOf last d Y M ≤ 31 := by
  have := len_pos (leap Y) h3 h4
  have := len_bd (leap Y) M
  unfold dOf
  split <;> omega
/-- A day of a later month has a greater number. -/
theorem num_ix {i j d e : Int} (hi : Valid (i / 12) (i % 12 + 1) d) (hj : Valid (j / 12) (j % 12 + 1) e) (h : i < j) : num (i / 12) (i % 12 + 1) d < num (j / 12) (j % 12 + 1) e := by
  refine num_lt hi hj ?_
  by_cases c : i / 12 < j / 12
  · exact Or.inl c
  · exact Or.inr ⟨by omega, Or.inl (by omega)⟩
/-- A number of days, months on: the number and the error. -/
def monN (i : Int) (last : Bool) (d : Int) : Int := if 1 ≤ i / 12 ∧ i / 12 ≤ 9999 then num (i / 12) (i % 12 + 1) (dOf last d (i / 12) (i % 12 + 1)) else 0
def monE (i : Int) : Int := if 1 ≤ i / 12 ∧ i / 12 ≤ 9999 then 0 else 5
theorem mon_in {i : Int} {last : Bool} {d : Int} (h : 1 ≤ i / 12 ∧ i / 12 ≤ 9999) : monN i last d = num (i / 12) (i % 12 + 1) (dOf last d (i / 12) (i % 12 + 1)) ∧ monE i = 0 := ⟨if_pos h, if_pos h⟩
theorem mon_out {i : Int} {last : Bool} {d : Int} (h : ¬ (1 ≤ i / 12 ∧ i / 12 ≤ 9999)) : monN i last d = 0 ∧ monE i = 5 := ⟨if_neg h, if_neg h⟩
/-- A day that is worked on. -/
def works (hs : List Int) (n : Int) : Bool := decide ((n - 1) % 7 < 5) && !(hs.contains n)
theorem works_yes {hs : List Int} {n : Int} (h1 : (n - 1) % 7 < 5) (h2 : n ∉ hs) : works hs n = true := by
  unfold works
  simp [h1, h2]
theorem works_end {hs : List Int} {n : Int} (h : ¬ (n - 1) % 7 < 5) : works hs n = false := by unfold works; simp [h]
theorem works_free {hs : List Int} {n : Int} (h : n ∈ hs) : works hs n = false := by unfold works; simp [h]
/-- r is the first day that works from n on, 0 if there is none. -/
def Up (hs : List Int) (n r : Int) : Prop := (r = 0 ∧ ∀ k, n ≤ k → k ≤ 3652059 → works hs k = false) ∨ (n ≤ r ∧ r ≤ 3652059 ∧ works hs r = true ∧ ∀ k, n ≤ k → k < r → works hs k = false)
/-- r is the last day that works up to n, 0 if there is none. -/
def Down (hs : List Int) (n r : Int) : Prop := (r = 0 ∧ ∀ k, 1 ≤ k → k ≤ n → works hs k = false) ∨ (1 ≤ r ∧ r ≤ n ∧ works hs r = true ∧ ∀ k, r < k → k ≤ n → works hs k = false)
theorem Up.only {hs : List Int} {n r s : Int} (h : Up hs n r) (g : Up hs n s) : r = s := by
  rcases h with ⟨rfl, h⟩ | ⟨h1, h2, h3, h4⟩
  · rcases g with ⟨rfl, _⟩ | ⟨g1, g2, g3, _⟩
    · rfl
    · rw [h s g1 g2] at g3; cases g3
  · rcases g with ⟨rfl, g⟩ | ⟨g1, g2, g3, g4⟩
    · rw [g r h1 h2] at h3; cases h3
    · by_cases c : r < s
      · rw [g4 r h1 c] at h3; cases h3
      · by_cases c2 : s < r
        · rw [h4 s g1 c2] at g3; cases g3
        · omega
theorem Down.only {hs : List Int} {n r s : Int} (h : Down hs n r) (g : Down hs n s) : r = s := by
  rcases h with ⟨rfl, h⟩ | ⟨h1, h2, h3, h4⟩
  · rcases g with ⟨rfl, _⟩ | ⟨g1, g2, g3, _⟩
    · rfl
    · rw [h s g1 g2] at g3; cases g3
  · rcases g with ⟨rfl, g⟩ | ⟨g1, g2, g3, g4⟩
    · rw [g r h1 h2] at h3; cases h3
    · by_cases c : r < s
      · rw [h4 s c g2] at g3; cases g3
      · by_cases c2 : s < r
        · rw [g4 r c2 h2] at h3; cases h3
        · omega
/-- How many of the numbers from n on are so. -/
def cnt (p : Int → Bool) (n : Int) : Nat → Nat
  | 0 => 0
  | k + 1 => cnt p n k + (if p (n + k) then 1 else 0)
theorem cnt_le (p : Int → Bool) (n : Int) (k : Nat) : cnt p n k ≤ k := by
  induction k with
  | zero => exact Nat.le_refl 0
  | succ k ih => unfold cnt; split <;> omega
theorem cnt_mono {p q : Int → Bool} {n : Int} {k : Nat} (h : ∀ j : Nat, j < k → p (n + j) = true → q (n + j) = true) : cnt p n k ≤ cnt q n k := by
  induction k with
  | zero => exact Nat.le_refl 0
  | succ k ih =>
    have := ih (fun j hj => h j (by omega))
    have e := h k (by omega)
    unfold cnt
    cases hp : p (n + k)
    · simp; omega
    · rw [e hp]; simp; omega
theorem cnt_one (x n : Int) (k : Nat) : cnt (fun i => i == x) n k ≤ 1 ∧ (x < n → cnt (fun i => i == x) n k = 0) ∧ (n + k ≤ x → cnt (fun i => i == x) n k = 0) := by
  induction k with
  | zero => exact ⟨by unfold cnt; omega, fun _ => rfl, fun _ => rfl⟩
  | succ k ih =>
    obtain ⟨h1, h2, h3⟩ := ih
    have e : cnt (fun i => i == x) n (k + 1) = cnt (fun i => i == x) n k + (if n + k == x then 1 else 0) := rfl
    rw [e]
    by_cases c : n + k = x
    · have := h3 (by omega)
      rw [this]
      refine ⟨by split <;> omega, fun h => by omega, fun h => by omega⟩
    · rw [if_neg (by simpa using c)]
      refine ⟨by omega, fun h => by rw [h2 h], fun h => by rw [h3 (by omega)]⟩
theorem cnt_or (p q : Int → Bool) (n : Int) (k : Nat) : cnt (fun i => p i || q i) n k ≤ cnt p n k + cnt q n k := by
  induction k with
  | zero => exact Nat.le_refl 0
  | succ k ih =>
    unfold cnt
    cases p (n + k) <;> cases q (n + k) <;> simp <;> omega
/-- No more of them are in a list than it has. -/
theorem cnt_mem (hs : List Int) (n : Int) (k : Nat) : cnt (fun i => hs.contains i) n k ≤ hs.length := by
  induction hs with
  | nil =>
    have : cnt (fun i => ([] : List Int).contains i) n k ≤ cnt (fun _ => false) n k := cnt_mono (fun j _ h => by simp at h)
    have e : ∀ k, cnt (fun _ => false) n k = 0 := fun k => by
      induction k with
      | zero => rfl
      | succ k ih => unfold cnt; rw [ih]; rfl
    rw [e] at this
    exact this
  | cons h t ih =>
    have a := cnt_or (fun i => i == h) (fun i => t.contains i) n k
    have b := (cnt_one h n k).1
    have c : cnt (fun i => (h :: t).contains i) n k ≤ cnt (fun i => i == h || t.contains i) n k := cnt_mono (fun j _ hj => by simpa using hj)
    simp only [List.length_cons]
    omega
/-- Five days of seven are from Monday to Friday. -/
theorem cnt_week (n : Int) (k : Nat) : cnt (fun i => decide ((i - 1) % 7 < 5)) n (k + 7) = cnt (fun i => decide ((i - 1) % 7 < 5)) n k + 5 := by
  have e : ∀ m, cnt (fun i => decide ((i - 1) % 7 < 5)) n (m + 1) = cnt (fun i => decide ((i - 1) % 7 < 5)) n m + (if decide ((n + m - 1) % 7 < 5) = true then 1 else 0) := fun m => rfl
  rw [e, e, e, e, e, e, e]
  simp only [decide_eq_true_eq]
  have : (n + k - 1) % 7 = 0 ∨ (n + k - 1) % 7 = 1 ∨ (n + k - 1) % 7 = 2 ∨ (n + k - 1) % 7 = 3 ∨ (n + k - 1) % 7 = 4 ∨ (n + k - 1) % 7 = 5 ∨ (n + k - 1) % 7 = 6 := by omega
  rcases this with h | h | h | h | h | h | h <;> (iterate 7 (split <;> try (exfalso; omega))) <;> omega
theorem cnt_weeks (n : Int) (k : Nat) : cnt (fun i => decide ((i - 1) % 7 < 5)) n (7 * k) = 5 * k := by
  induction k with
  | zero => rfl
  | succ k ih => rw [show 7 * (k + 1) = 7 * k + 7 from by omega, cnt_week, ih]; omega
/-- Of 847 days in a row one works, if there are at most 600 holidays. -/
theorem some_works {hs : List Int} (hl : hs.length ≤ 600) (n : Int) : ∃ j : Nat, j < 847 ∧ works hs (n + j) = true := by
  by_cases h : ∃ j : Nat, j < 847 ∧ works hs (n + j) = true
  · exact h
  · have a : cnt (fun i => decide ((i - 1) % 7 < 5)) n 847 ≤ cnt (fun i => hs.contains i) n 847 := cnt_mono (fun j hj hp => by
      by_cases c : hs.contains (n + j) = true
      · exact c
      · exact absurd ⟨j, hj, by unfold works; simp only [Bool.and_eq_true, Bool.not_eq_true']; exact ⟨hp, by simpa using c⟩⟩ h)
    have b := cnt_mem hs n 847
    have c := cnt_weeks n 121
    rw [show 7 * 121 = 847 from rfl] at c
    omega
end Go.Proofs.Ytmpalgfhamahnaa
