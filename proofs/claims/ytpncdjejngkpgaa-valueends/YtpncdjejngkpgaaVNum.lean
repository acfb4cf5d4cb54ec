/- Plain facts on what amounts to come are worth, period by period from behind, each discounted and rounded. No program in this text. -/
import Derived.Test.YtpncdjejngkpgaaRate
namespace Go.Proofs.Ytpncdjejngkpgaa.Mn
open Go.RowKit
theorem near_neg {x B : Int} (hB : 0 < B) : near (-x) B = -near x B := by
  have e1 : x % B + B * (x / B) = x := Int.emod_add_mul_ediv _ _
  have e2 : -x % B + B * (-x / B) = -x := Int.emod_add_mul_ediv _ _
  have h0 := Int.emod_nonneg x (show B ≠ 0 by omega)
  have h1 := Int.emod_lt_of_pos x hB
  have g0 := Int.emod_nonneg (-x) (show B ≠ 0 by omega)
  have g1 := Int.emod_lt_of_pos (-x) hB
  unfold near
  generalize x / B = q at *
  generalize x % B = t at *
  generalize -x / B = p at *
  generalize -x % B = s at *
  have hs : B * (q + p) = -(t + s) := by rw [Int.mul_add]; omega
  by_cases hz : t = 0
  · have : q + p = 0 := by
      rcases Int.lt_trichotomy (q + p) 0 with h | h | h
      · have := Int.mul_le_mul_of_nonneg_left (show q + p ≤ -1 by omega) (Int.le_of_lt hB)
        rw [hs] at this
        omega
      · exact h
      · have := Int.mul_le_mul_of_nonneg_left (show 1 ≤ q + p by omega) (Int.le_of_lt hB)
        rw [hs] at this
        omega
    have hs0 : s = 0 := by rw [this] at hs; omega
    subst hz hs0
    unfold up
    rw [if_neg (by omega), if_neg (by omega)]
    omega
  · have : q + p = -1 := by
      rcases Int.lt_trichotomy (q + p) (-1) with h | h | h
      · have := Int.mul_le_mul_of_nonneg_left (show q + p ≤ -2 by omega) (Int.le_of_lt hB)
        rw [hs] at this
        omega
      · exact h
      · have := Int.mul_le_mul_of_nonneg_left (show 0 ≤ q + p by omega) (Int.le_of_lt hB)
        rw [hs] at this
        omega
    have hs1 : s = B - t := by rw [this] at hs; omega
    have hp : p = -1 - q := by omega
    subst hs1 hp
    unfold up
    split <;> split <;> omega
theorem qD_zero (x : Int) : qD x 0 = x := near_mul (by omega)
theorem qD_none {r : Int} (h : May r) : qD 0 r = 0 := by
  unfold qD
  rw [Int.zero_mul]
  exact near_zero (by have := h.1; omega)
theorem qD_neg {x r : Int} (h : May r) : qD (-x) r = -qD x r := by
  unfold qD
  rw [Int.neg_mul]
  exact near_neg (by have := h.1; omega)
theorem qD_mono {x y r : Int} (h : May r) (l : x ≤ y) : qD x r ≤ qD y r := near_mono (by have := h.1; omega) (by omega)
theorem qD_anti {x r s : Int} (h : May r) (l : r ≤ s) (hx : 0 ≤ x) : qD x s ≤ qD x r := near_anti (by have := h.1; omega) (by omega) (by omega)
theorem qD_nonneg {x r : Int} (h : May r) (hx : 0 ≤ x) : 0 ≤ qD x r := by
  have := qD_mono h hx
  rwa [qD_none h] at this
/-- At a rate of 0 or more nothing is worth more than it is, up or down. -/
theorem qD_le {x r : Int} (h : 0 ≤ r) (hx : 0 ≤ x) : qD x r ≤ x :=
  near_le (by omega) (by rw [Int.mul_add]; have := Int.mul_nonneg hx h; omega)
theorem qD_within {x r M : Int} (h : May r) (hr : 0 ≤ r) (h1 : -M ≤ x) (h2 : x ≤ M) : -M ≤ qD x r ∧ qD x r ≤ M := by
  have hM : 0 ≤ M := by omega
  have a1 := qD_mono h h2
  have a2 := qD_le hr hM
  have a3 := qD_mono h h1
  rw [qD_neg h] at a3
  omega
/-- Three roundings: of both together, and of each. -/
theorem qD_add {x y d r : Int} {k : Nat} (hr : 0 ≤ r) (h1 : -(2 * (k : Int)) ≤ d) (h2 : d ≤ 2 * k) :
    -(2 * ((k : Int) + 1)) ≤ qD (x + y + d) r - qD x r - qD y r ∧ qD (x + y + d) r - qD x r - qD y r ≤ 2 * ((k : Int) + 1) := by
  have hB : (0 : Int) < 1000000000000 + r := by omega
  have b1 := near_bd (x := (x + y + d) * 1000000000000) hB
  have b2 := near_bd (x := x * 1000000000000) hB
  have b3 := near_bd (x := y * 1000000000000) hB
  change _ ≤ 2 * (qD (x + y + d) r * _ - _) ∧ 2 * (qD (x + y + d) r * _ - _) ≤ _ at b1
  change _ ≤ 2 * (qD x r * _ - _) ∧ 2 * (qD x r * _ - _) ≤ _ at b2
  change _ ≤ 2 * (qD y r * _ - _) ∧ 2 * (qD y r * _ - _) ≤ _ at b3
  generalize qD (x + y + d) r = A at *
  generalize qD x r = B at *
  generalize qD y r = C at *
  have e : (A - B - C) * (1000000000000 + r) = A * (1000000000000 + r) - B * (1000000000000 + r) - C * (1000000000000 + r) := by
    rw [Int.sub_mul, Int.sub_mul]
  have ek : (2 * (k : Int) + 3) * (1000000000000 + r) = 2 * ((k : Int) * 1000000000000 + k * r) + 3 * (1000000000000 + r) := by
    rw [Int.add_mul, Int.mul_assoc, Int.mul_add (k : Int)]
  have kr : 0 ≤ (k : Int) * r := Int.mul_nonneg (Int.natCast_nonneg _) hr
  constructor
  · rcases Int.lt_or_le (A - B - C) (-(2 * ((k : Int) + 1))) with h | h
    · have := Int.mul_le_mul_of_nonneg_right (show A - B - C ≤ -(2 * (k : Int) + 3) by omega) (Int.le_of_lt hB)
      rw [e, Int.neg_mul, ek] at this
      omega
    · exact h
  · rcases Int.lt_or_le (2 * ((k : Int) + 1)) (A - B - C) with h | h
    · have := Int.mul_le_mul_of_nonneg_right (show 2 * (k : Int) + 3 ≤ A - B - C by omega) (Int.le_of_lt hB)
      rw [e, ek] at this
      omega
    · exact h
/-- What amounts are worth now. -/
def worth (r : Int) : List Int → Int
  | [] => 0
  | x :: l => qD (worth r l + x) r
def fitB (s v : Int) : Bool := decide (-9223372036854775808 ≤ s) && decide (s ≤ 9223372036854775807) && decide (-4611686018427387904 ≤ v) && decide (v ≤ 4611686018427387904)
theorem fitB_iff {s v : Int} : fitB s v = true ↔ In64 s ∧ -4611686018427387904 ≤ v ∧ v ≤ 4611686018427387904 := by
  unfold fitB
  simp only [Bool.and_eq_true, decide_eq_true_eq]
  exact ⟨fun ⟨⟨⟨a, b⟩, c⟩, d⟩ => ⟨⟨a, b⟩, c, d⟩, fun ⟨h, c, d⟩ => ⟨⟨⟨h.lo, h.hi⟩, c⟩, d⟩⟩
/-- Nothing on the way is too great. -/
def fits (r : Int) : List Int → Bool
  | [] => true
  | x :: l => fits r l && fitB (worth r l + x) (worth r (x :: l))
/-- What they are worth now, a period later, and so on. -/
def worths (r : Int) : List Int → List Int
  | [] => [0]
  | x :: l => worth r (x :: l) :: worths r l
theorem worths_len (r : Int) : ∀ l : List Int, (worths r l).length = l.length + 1
  | [] => rfl
  | _ :: l => by simp [worths, worths_len r l]
theorem worths_get (r : Int) : ∀ (l : List Int) (k : Nat), k ≤ l.length → (worths r l).getD k 0 = worth r (l.drop k)
  | [], 0, _ => rfl
  | _ :: _, 0, _ => rfl
  | x :: l, k + 1, h => by
    have := worths_get r l k (by simpa using h)
    simpa [worths] using this
theorem worths_last (r : Int) (l : List Int) : (worths r l).getD l.length 0 = 0 := by
  rw [worths_get r l _ (Nat.le_refl _), List.drop_length]
  rfl
theorem drop_getD {l : List Int} {k : Nat} (h : k < l.length) : l.drop k = l.getD k 0 :: l.drop (k + 1) := by
  rw [List.drop_eq_getElem_cons h]
  simp [List.getD, h]
theorem worth_drop {r : Int} {l : List Int} {k : Nat} (h : k < l.length) : worth r (l.drop k) = qD (worth r (l.drop (k + 1)) + l.getD k 0) r := by
  rw [drop_getD h]
  rfl
theorem fits_drop {r : Int} : ∀ {l : List Int} (k : Nat), fits r l = true → fits r (l.drop k) = true
  | [], k, _ => by simp [fits]
  | _ :: _, 0, h => h
  | x :: l, k + 1, h => by
    rw [List.drop_succ_cons]
    exact fits_drop k (Bool.and_eq_true _ _ ▸ h).1
theorem fits_step {r : Int} {l : List Int} {k : Nat} (h : k < l.length) : fits r (l.drop k) = (fits r (l.drop (k + 1)) && fitB (worth r (l.drop (k + 1)) + l.getD k 0) (worth r (l.drop k))) := by
  rw [drop_getD h]
  rfl
theorem not_fits {r : Int} {l : List Int} {k : Nat} (h : k < l.length) (hf : fitB (worth r (l.drop (k + 1)) + l.getD k 0) (worth r (l.drop k)) = false) : fits r l = false := by
  cases hl : fits r l with
  | false => rfl
  | true =>
    have := fits_drop k hl
    rw [fits_step h, hf, Bool.and_false] at this
    exact this.symm
theorem fits_in {r : Int} : ∀ {l : List Int}, fits r l = true → -4611686018427387904 ≤ worth r l ∧ worth r l ≤ 4611686018427387904
  | [], _ => by simp [worth]
  | _ :: _, h => (fitB_iff.mp (Bool.and_eq_true _ _ ▸ h).2).2
theorem fits_at {r : Int} {l : List Int} {k : Nat} (h : k < l.length) (hf : fits r l = true) : In64 (worth r (l.drop (k + 1)) + l.getD k 0) := by
  have := fits_drop k hf
  rw [fits_step h] at this
  exact (fitB_iff.mp (Bool.and_eq_true _ _ ▸ this).2).1
/-- At a rate of 0 or more. -/
theorem worth_within {r M : Int} (h : May r) (hr : 0 ≤ r) : ∀ {l : List Int}, (∀ x ∈ l, -M ≤ x ∧ x ≤ M) → -(M * l.length) ≤ worth r l ∧ worth r l ≤ M * l.length
  | [], _ => by simp [worth]
  | x :: l, hl => by
    have a := worth_within h hr (fun y hy => hl y (List.mem_cons_of_mem _ hy))
    have b := hl x List.mem_cons_self
    rw [show ((x :: l).length : Int) = (l.length : Int) + 1 by simp, Int.mul_add, Int.mul_one]
    exact qD_within h hr (by omega) (by omega)
theorem fits_within {r M : Int} (h : May r) (hr : 0 ≤ r) (hM : 0 ≤ M) : ∀ {l : List Int}, (∀ x ∈ l, -M ≤ x ∧ x ≤ M) → M * l.length ≤ 4611686018427387904 → fits r l = true
  | [], _, _ => rfl
  | x :: l, hl, hn => by
    have a := worth_within h hr (l := x :: l) hl
    have b := worth_within h hr (fun y hy => hl y (List.mem_cons_of_mem x hy))
    have c := hl x List.mem_cons_self
    rw [show ((x :: l).length : Int) = (l.length : Int) + 1 by simp, Int.mul_add, Int.mul_one] at a hn
    unfold fits
    rw [fits_within h hr hM (fun y hy => hl y (List.mem_cons_of_mem x hy)) (by omega), Bool.true_and]
    exact fitB_iff.mpr ⟨⟨by omega, by omega⟩, by omega, by omega⟩
/-- At the rate 0. -/
def summed : List Int → Int
  | [] => 0
  | x :: l => x + summed l
theorem worth_zero : ∀ l : List Int, worth 0 l = summed l
  | [] => rfl
  | x :: l => by
    show qD (worth 0 l + x) 0 = x + summed l
    rw [qD_zero, worth_zero l]
    omega
theorem worth_nonneg {r : Int} (h : May r) : ∀ {l : List Int}, (∀ x ∈ l, 0 ≤ x) → 0 ≤ worth r l
  | [], _ => by simp [worth]
  | x :: l, hl => by
    have := worth_nonneg h (fun y hy => hl y (List.mem_cons_of_mem x hy))
    have := hl x List.mem_cons_self
    exact qD_nonneg h (by omega)
theorem worth_falls {r s : Int} (h : May r) (h' : May s) (hrs : r ≤ s) : ∀ {l : List Int}, (∀ x ∈ l, 0 ≤ x) → worth s l ≤ worth r l
  | [], _ => by simp [worth]
  | x :: l, hl => by
    have a := worth_falls h h' hrs (fun y hy => hl y (List.mem_cons_of_mem x hy))
    have b := worth_nonneg h' (fun y hy => hl y (List.mem_cons_of_mem x hy))
    have c := hl x List.mem_cons_self
    have d := qD_mono (x := worth s l + x) (y := worth r l + x) h' (by omega)
    have e := qD_anti (x := worth r l + x) h hrs (by omega)
    exact Int.le_trans d e
/-- Where it is too great, the rate is below 0. -/
theorem over_below {r : Int} {l : List Int} (h : May r) (hl : ∀ x ∈ l, 0 ≤ x ∧ x ≤ 10000000000000) (hn : l.length ≤ 600) (ho : fits r l = false) : r < 0 := by
  rcases Int.lt_or_le r 0 with hr | hr
  · exact hr
  · rw [fits_within h hr (M := 10000000000000) (by omega) (fun x hx => ⟨by have := (hl x hx).1; omega, (hl x hx).2⟩) (by omega)] at ho
    exact absurd ho (by decide)
theorem worth_neg {r : Int} (h : May r) : ∀ l : List Int, worth r (l.map (fun x => -x)) = -worth r l
  | [] => rfl
  | x :: l => by
    show qD (worth r (l.map (fun x => -x)) + -x) r = -qD (worth r l + x) r
    rw [worth_neg h l, ← qD_neg h]
    congr 1
    omega
/-- Both together. -/
def both : List Int → List Int → List Int
  | x :: l, y :: m => (x + y) :: both l m
  | _, _ => []
theorem worth_both {r : Int} (hr : 0 ≤ r) : ∀ (l m : List Int), l.length = m.length → -(2 * (l.length : Int)) ≤ worth r (both l m) - worth r l - worth r m ∧ worth r (both l m) - worth r l - worth r m ≤ 2 * (l.length : Int)
  | [], [], _ => by simp [both, worth]
  | [], _ :: _, h => by simp at h
  | _ :: _, [], h => by simp at h
  | x :: l, y :: m, h => by
    have a := worth_both hr l m (by simpa using h)
    have b := qD_add (x := worth r l + x) (y := worth r m + y) (d := worth r (both l m) - worth r l - worth r m) hr a.1 a.2
    rw [show worth r l + x + (worth r m + y) + (worth r (both l m) - worth r l - worth r m) = worth r (both l m) + (x + y) by omega] at b
    rw [show ((x :: l).length : Int) = (l.length : Int) + 1 by simp]
    exact b
/-- Nothing, later than all. -/
theorem worth_none {r : Int} (h : May r) : ∀ n : Nat, worth r (List.replicate n 0) = 0
  | 0 => rfl
  | n + 1 => by
    rw [List.replicate_succ]
    show qD (worth r (List.replicate n 0) + 0) r = 0
    rw [worth_none h n]
    exact qD_none h
theorem fits_none {r : Int} (h : May r) : ∀ n : Nat, fits r (List.replicate n 0) = true
  | 0 => rfl
  | n + 1 => by
    rw [List.replicate_succ]
    show (fits r (List.replicate n 0) && fitB (worth r (List.replicate n 0) + 0) (qD (worth r (List.replicate n 0) + 0) r)) = true
    rw [fits_none h n, worth_none h n, Int.add_zero, qD_none h]
    decide
theorem worth_more {r : Int} (h : May r) (n : Nat) : ∀ l : List Int, worth r (l ++ List.replicate n 0) = worth r l
  | [] => worth_none h n
  | x :: l => by
    show qD (worth r (l ++ List.replicate n 0) + x) r = qD (worth r l + x) r
    rw [worth_more h n l]
theorem fits_more {r : Int} (h : May r) (n : Nat) : ∀ l : List Int, fits r (l ++ List.replicate n 0) = fits r l
  | [] => fits_none h n
  | x :: l => by
    show (fits r (l ++ List.replicate n 0) && fitB (worth r (l ++ List.replicate n 0) + x) (qD (worth r (l ++ List.replicate n 0) + x) r)) = (fits r l && fitB (worth r l + x) (qD (worth r l + x) r))
    rw [worth_more h n l, fits_more h n l]
/-- A period later. -/
theorem worth_later (r : Int) (l : List Int) : worth r (0 :: l) = qD (worth r l) r := by
  show qD (worth r l + 0) r = _
  rw [Int.add_zero]
theorem fits_later {r : Int} {l : List Int} (h : fits r (0 :: l) = true) : fits r l = true := (Bool.and_eq_true _ _ ▸ h).1
theorem fits_later_no {r : Int} {l : List Int} (h : fits r l = false) : fits r (0 :: l) = false := by
  show (fits r l && _) = false
  rw [h, Bool.false_and]
theorem ends_next (n : Nat) (x : Int) : List.replicate (n + 1) 0 ++ [x] = 0 :: (List.replicate n 0 ++ [x]) := by rw [List.replicate_succ, List.cons_append]
/-- What may be, and the error. -/
def valE (b : Int) (l : List Int) (r : Int) : Int :=
  if 600 < l.length then 10 else if l.all may = false then 2 else if mayB r = false then 2 else if fits r (l.map (· * b)) = false then 3 else 0
def valN (b : Int) (l : List Int) (r : Int) : Int := if valE b l r = 0 then worth r (l.map (· * b)) else 0
def valL (b : Int) (l : List Int) (r : Int) : List Int := if valE b l r = 0 then worths r (l.map (· * b)) else []
theorem map_one (l : List Int) : l.map (· * 1) = l := by
  have : (fun x : Int => x * 1) = id := by funext x; simp
  rw [this, List.map_id]
theorem valE_ok {b : Int} {l : List Int} {r : Int} (h : valE b l r = 0) : l.length ≤ 600 ∧ l.all may = true ∧ May r ∧ fits r (l.map (· * b)) = true := by
  unfold valE at h
  split at h
  · omega
  · split at h
    · omega
    · split at h
      · omega
      · split at h
        · omega
        · next a b c d =>
          refine ⟨by omega, by simpa using b, ?_, by simpa using d⟩
          have c := (Bool.not_eq_false _).mp c
          unfold mayB at c
          simpa [May] using c
theorem valE_of {b : Int} {l : List Int} {r : Int} (h1 : l.length ≤ 600) (h2 : l.all may = true) (h3 : May r) : valE b l r = if fits r (l.map (· * b)) = false then 3 else 0 := by
  have h4 : mayB r = true := by unfold mayB; simpa [May] using h3
  unfold valE
  rw [if_neg (by omega), if_neg (by rw [h2]; decide), if_neg (by rw [h4]; decide)]
end Go.Proofs.Ytpncdjejngkpgaa.Mn
