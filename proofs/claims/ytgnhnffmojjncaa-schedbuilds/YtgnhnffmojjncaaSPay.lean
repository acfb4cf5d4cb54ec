/- Plain facts on what pays off: an amount that goes from what is left, period by period; the least one. Then on a loan's periods. No program in this text. -/
import Derived.RowKit
namespace Go.Proofs.Ytgnhnffmojjncaa.Mn
/-- Interest of an amount, at a rate from 0 to 1: of more no less, of nothing nothing, no more than the amount. -/
structure Bears (J : Int → Int) : Prop where
  mono : ∀ x y, x ≤ y → J x ≤ J y
  zero : J 0 = 0
  le : ∀ x, 0 ≤ x → J x ≤ x
theorem Bears.nonneg {J : Int → Int} (h : Bears J) {x : Int} (hx : 0 ≤ x) : 0 ≤ J x := by
  have := h.mono 0 x hx
  rw [h.zero] at this
  exact this
/-- Does an amount a, paid in each of k periods, pay x off? -/
def pay (J : Int → Int) (a : Int) : Nat → Int → Bool
  | 0, x => decide (x ≤ 0)
  | k + 1, x => decide (x ≤ 0) || pay J a k (x + J x - a)
theorem pay_zero {J : Int → Int} {a x : Int} (k : Nat) (h : x ≤ 0) : pay J a k x = true := by
  cases k with
  | zero => exact decide_eq_true h
  | succ k => show (decide (x ≤ 0) || _) = true; rw [decide_eq_true h]; rfl
theorem pay_succ {J : Int → Int} {a x : Int} (k : Nat) (h : 0 < x) : pay J a (k + 1) x = pay J a k (x + J x - a) := by
  show (decide (x ≤ 0) || _) = _
  rw [decide_eq_false (by omega), Bool.false_or]
theorem pay_none {J : Int → Int} {a x : Int} (h : 0 < x) : pay J a 0 x = false := decide_eq_false (by omega)
/-- Of less, by more, of less interest: it pays off all the same. -/
theorem pay_mono {J K : Int → Int} (hJ : Bears J) (hK : ∀ x, 0 ≤ x → J x ≤ K x) {a b : Int} (hab : a ≤ b) : ∀ (k : Nat) (x y : Int), x ≤ y → pay K a k y = true → pay J b k x = true := by
  intro k
  induction k with
  | zero =>
    intro x y hxy h
    have : y ≤ 0 := of_decide_eq_true h
    exact pay_zero 0 (by omega)
  | succ k ih =>
    intro x y hxy h
    by_cases hx : x ≤ 0
    · exact pay_zero _ hx
    · rw [pay_succ k (by omega)] at h ⊢
      refine ih _ _ ?_ h
      have h1 := hJ.mono x y hxy
      have h2 := hK y (by omega)
      omega
theorem pay_amount {J : Int → Int} (hJ : Bears J) {a b : Int} (hab : a ≤ b) {k : Nat} {x : Int} (h : pay J a k x = true) : pay J b k x = true := pay_mono hJ (fun _ _ => Int.le_refl _) hab k x x (Int.le_refl _) h
theorem pay_left {J : Int → Int} (hJ : Bears J) {a : Int} {k : Nat} {x y : Int} (hxy : x ≤ y) (h : pay J a k y = true) : pay J a k x = true := pay_mono hJ (fun _ _ => Int.le_refl _) (Int.le_refl _) k x y hxy h
theorem pay_rate {J K : Int → Int} (hJ : Bears J) (hK : ∀ x, 0 ≤ x → J x ≤ K x) {a : Int} {k : Nat} {x : Int} (h : pay K a k x = true) : pay J a k x = true := pay_mono hJ hK (Int.le_refl _) k x x (Int.le_refl _) h
theorem pay_longer {J : Int → Int} {a : Int} : ∀ (k : Nat) (x : Int), pay J a k x = true → pay J a (k + 1) x = true := by
  intro k
  induction k with
  | zero => intro x h; exact pay_zero _ (of_decide_eq_true h)
  | succ k ih =>
    intro x h
    by_cases hx : x ≤ 0
    · exact pay_zero _ hx
    · rw [pay_succ _ (by omega)] at h ⊢
      exact ih _ h
/-- Where an amount is no more than the interest, nothing is ever paid off. -/
theorem pay_never {J : Int → Int} (hJ : Bears J) {a : Int} : ∀ (k : Nat) (x : Int), 0 < x → a ≤ J x → pay J a k x = false := by
  intro k
  induction k with
  | zero => intro x hx _; exact pay_none hx
  | succ k ih =>
    intro x hx h
    rw [pay_succ k hx]
    have := hJ.mono x (x + J x - a) (by omega)
    exact ih _ (by omega) (by omega)
/-- An amount that pays off is more than the interest: what is left never rises. -/
theorem pay_falls {J : Int → Int} (hJ : Bears J) {a x : Int} {k : Nat} (hx : 0 < x) (h : pay J a k x = true) : J x < a := by
  by_cases c : a ≤ J x
  · rw [pay_never hJ k x hx c] at h; cases h
  · omega
/-- The same, given up as soon as more than C is left. -/
def payC (J : Int → Int) (C a : Int) : Nat → Int → Bool
  | 0, x => decide (x ≤ 0)
  | k + 1, x => if x ≤ 0 then true else if C < x + J x - a then false else payC J C a k (x + J x - a)
theorem payC_same {J : Int → Int} (hJ : Bears J) {C a : Int} : ∀ (k : Nat) (x : Int), x ≤ C → payC J C a k x = pay J a k x := by
  intro k
  induction k with
  | zero => intro x _; rfl
  | succ k ih =>
    intro x hx
    unfold payC
    by_cases h0 : x ≤ 0
    · rw [if_pos h0, pay_zero _ h0]
    · rw [if_neg h0, pay_succ k (by omega)]
      by_cases h1 : C < x + J x - a
      · rw [if_pos h1]
        have := hJ.mono x (x + J x - a) (by omega)
        exact (pay_never hJ k _ (by omega) (by omega)).symm
      · rw [if_neg h1]
        exact ih _ (by omega)
/-- The least amount of 0 or more that pays x off in k periods. -/
structure IsLev (J : Int → Int) (k : Nat) (x n : Int) : Prop where
  pos : 0 ≤ n
  pays : pay J n k x = true
  least : ∀ m, 0 ≤ m → m < n → pay J m k x = false
theorem IsLev.only {J : Int → Int} {k : Nat} {x n m : Int} (h : IsLev J k x n) (g : IsLev J k x m) : n = m := by
  by_cases c : n < m
  · have := g.least n h.pos c
    rw [h.pays] at this; cases this
  · by_cases c2 : m < n
    · have := h.least m g.pos c2
      rw [g.pays] at this; cases this
    · omega
theorem IsLev.le {J : Int → Int} {k : Nat} {x n b : Int} (h : IsLev J k x n) (hb : 0 ≤ b) (hp : pay J b k x = true) : n ≤ b := by
  by_cases c : b < n
  · have := h.least b hb c
    rw [hp] at this; cases this
  · omega
/-- In one period already, what is left and its interest pays off. -/
theorem pay_once {J : Int → Int} {k : Nat} {x b : Int} (hk : 0 < k) (hb : x + J x ≤ b) : pay J b k x = true := by
  obtain ⟨k, rfl⟩ : ∃ j, k = j + 1 := ⟨k - 1, by omega⟩
  by_cases h0 : x ≤ 0
  · exact pay_zero _ h0
  · rw [pay_succ k (by omega)]
    exact pay_zero _ (by omega)
/-- Of an amount above n that pays, the least one: by how many above n it lies. -/
theorem lev_ex {J : Int → Int} {k : Nat} {x : Int} (hx : 0 ≤ x) (hJ : Bears J) (hk : 0 < k) : ∃ n, IsLev J k x n ∧ n ≤ x + J x := by
  have key : ∀ (d : Nat) (b : Int), 0 ≤ b → b ≤ d → pay J b k x = true → ∃ n, IsLev J k x n ∧ n ≤ b := by
    intro d
    induction d with
    | zero =>
      intro b h0 h1 h2
      exact ⟨b, ⟨h0, h2, fun m hm hlt => by omega⟩, Int.le_refl _⟩
    | succ d ih =>
      intro b h0 h1 h2
      by_cases c : 0 < b ∧ pay J (b - 1) k x = true
      · obtain ⟨n, hn, hle⟩ := ih (b - 1) (by omega) (by omega) c.2
        exact ⟨n, hn, by omega⟩
      · refine ⟨b, ⟨h0, h2, fun m hm hlt => ?_⟩, Int.le_refl _⟩
        cases e : pay J m k x with
        | false => rfl
        | true => exact absurd ⟨by omega, pay_amount hJ (show m ≤ b - 1 by omega) e⟩ c
  have hn := hJ.nonneg hx
  exact key (x + J x).toNat (x + J x) (by omega) (by omega) (pay_once hk (Int.le_refl _))
theorem lev_left {J : Int → Int} (hJ : Bears J) {k : Nat} {x y n m : Int} (hxy : x ≤ y) (h : IsLev J k x n) (g : IsLev J k y m) : n ≤ m := h.le g.pos (pay_left hJ hxy g.pays)
theorem lev_rate {J K : Int → Int} (hJ : Bears J) (hK : ∀ x, 0 ≤ x → J x ≤ K x) {k : Nat} {x n m : Int} (h : IsLev J k x n) (g : IsLev K k x m) : n ≤ m := h.le g.pos (pay_rate hJ hK g.pays)
theorem lev_longer {J : Int → Int} {k : Nat} {x n m : Int} (h : IsLev J (k + 1) x n) (g : IsLev J k x m) : n ≤ m := h.le g.pos (pay_longer k x g.pays)
/-- The level payment of what is left of more than nothing is more than the interest; one less never lets it rise. -/
theorem lev_int {J : Int → Int} (hJ : Bears J) {k : Nat} {x n : Int} (hx : 0 < x) (h : IsLev J k x n) : J x < n := pay_falls hJ hx h.pays
theorem lev_zero {J : Int → Int} {k : Nat} {x n : Int} (h : IsLev J k x n) (hx : x ≤ 0) : n = 0 := by
  have := h.le (Int.le_refl 0) (pay_zero k hx)
  have := h.pos
  omega
/-- Bit by bit: the greatest amount that doesn't pay, and one more. -/
def bits (P : Int → Bool) : Nat → Int → Int
  | 0, n => n
  | e + 1, n => bits P e (if P (n + 2 ^ e) = true then n else n + 2 ^ e)
theorem bits_lev {P : Int → Bool} : ∀ (e : Nat) (n : Int), P n = false → P (n + 2 ^ e) = true → P (bits P e n) = false ∧ P (bits P e n + 1) = true ∧ n ≤ bits P e n := by
  intro e
  induction e with
  | zero => intro n h1 h2; exact ⟨h1, h2, Int.le_refl _⟩
  | succ e ih =>
    intro n h1 h2
    have e2 : (2 : Int) ^ (e + 1) = 2 ^ e + 2 ^ e := by rw [Int.pow_succ]; omega
    have hp : (0 : Int) < 2 ^ e := Int.pow_pos (by decide)
    unfold bits
    by_cases c : P (n + 2 ^ e) = true
    · rw [if_pos c]; exact ih n h1 c
    · rw [if_neg c]
      have c2 : P (n + 2 ^ e) = false := by cases h : P (n + 2 ^ e) with
        | false => rfl
        | true => exact absurd h c
      obtain ⟨a1, a2, a3⟩ := ih (n + 2 ^ e) c2 (by rw [show n + 2 ^ e + 2 ^ e = n + 2 ^ (e + 1) from by rw [e2]; omega]; exact h2)
      exact ⟨a1, a2, by omega⟩
theorem bits_isLev {J : Int → Int} (hJ : Bears J) {k e : Nat} {x : Int} (h0 : pay J 0 k x = false) (h1 : pay J (2 ^ e) k x = true) : IsLev J k x (bits (fun a => pay J a k x) e 0 + 1) := by
  obtain ⟨a1, a2, a3⟩ := bits_lev (P := fun a => pay J a k x) e 0 h0 (by rw [Int.zero_add]; exact h1)
  refine ⟨by omega, a2, fun m hm hlt => ?_⟩
  cases c : pay J m k x with
  | false => rfl
  | true =>
    have := pay_amount hJ (show m ≤ bits (fun a => pay J a k x) e 0 by omega) c
    rw [a1] at this; cases this
/-- By halves: below lo none pays, at hi one does. -/
theorem halves_lev {J : Int → Int} (hJ : Bears J) {k : Nat} {x n : Int} (h0 : 0 ≤ n) (h1 : pay J n k x = true) (h2 : n = 0 ∨ pay J (n - 1) k x = false) : IsLev J k x n := by
  refine ⟨h0, h1, fun m hm hlt => ?_⟩
  cases c : pay J m k x with
  | false => rfl
  | true =>
    rcases h2 with h2 | h2
    · omega
    · have := pay_amount hJ (show m ≤ n - 1 by omega) c
      rw [h2] at this; cases this
end Go.Proofs.Ytgnhnffmojjncaa.Mn
/- Plain facts on a loan's periods: what is left, paid and borne, one behind the other. No program in this text. -/
namespace Go.Proofs.Ytgnhnffmojjncaa.Mn
/-- Interest of an amount at a rate: as it should be at every rate from 0 to 1. -/
structure Int2 (I : Int → Int → Int) : Prop where
  bears : ∀ r, 0 ≤ r → r ≤ 1000000000000 → Bears (fun x => I x r)
  rate : ∀ x r s, 0 ≤ x → 0 ≤ r → r ≤ s → I x r ≤ I x s
  flat : ∀ x, I x 0 = 0
/-- The level payment, as it is reckoned bit by bit. -/
def lvl (J : Int → Int) (k : Nat) (x : Int) : Int := if pay J 0 k x = true then 0 else bits (fun a => pay J a k x) 47 0 + 1
theorem lvl_is {J : Int → Int} (hJ : Bears J) {k : Nat} {x : Int} (hk : 0 < k) (h0 : 0 ≤ x) (h1 : x ≤ 10000000000000) : IsLev J k x (lvl J k x) := by
  unfold lvl
  by_cases c : pay J 0 k x = true
  · rw [if_pos c]
    exact ⟨Int.le_refl _, c, fun m hm hlt => by omega⟩
  · rw [if_neg c]
    refine bits_isLev hJ (by cases h : pay J 0 k x with
      | false => rfl
      | true => exact absurd h c) (pay_once hk ?_)
    have := hJ.le x h0
    have e : (2 : Int) ^ 47 = 140737488355328 := by decide
    omega
theorem lvl_bd {J : Int → Int} (hJ : Bears J) {k : Nat} {x : Int} (hk : 0 < k) (h0 : 0 ≤ x) (h1 : x ≤ 10000000000000) : 0 ≤ lvl J k x ∧ lvl J k x ≤ x + J x := by
  have h := lvl_is hJ hk h0 h1
  have hn := hJ.nonneg h0
  exact ⟨h.pos, h.le (by omega) (pay_once hk (Int.le_refl _))⟩
/-- What a loan is made of: its kind, its periods, each one's rate, each one's part of the principal, the principal. -/
structure Loan where
  kind : Int
  n : Nat
  rt : Nat → Int
  pt : Nat → Int
  P : Int
/-- The level payment in a period: reckoned anew at first and where the rate changes. -/
def levAt (I : Int → Int → Int) (L : Loan) (i : Nat) (left level : Int) : Int := if L.kind = 1 ∧ (i = 0 ∨ L.rt i ≠ L.rt (i - 1)) then lvl (fun x => I x (L.rt i)) (L.n - i) left else level
def paidAt (I : Int → Int → Int) (L : Loan) (i : Nat) (left level : Int) : Int := if i + 1 = L.n then left + I left (L.rt i) else if L.kind = 1 then min level (left + I left (L.rt i)) else if L.kind = 2 then I left (L.rt i) + L.pt i else if L.kind = 3 then I left (L.rt i) else 0
/-- What is left ahead of a period, and the level payment so far. -/
def st (I : Int → Int → Int) (L : Loan) : Nat → Int × Int
  | 0 => (L.P, 0)
  | i + 1 =>
    let v := levAt I L i (st I L i).1 (st I L i).2
    ((st I L i).1 - (paidAt I L i (st I L i).1 v - I (st I L i).1 (L.rt i)), v)
def left (I : Int → Int → Int) (L : Loan) (i : Nat) : Int := (st I L i).1
def lev (I : Int → Int → Int) (L : Loan) (i : Nat) : Int := levAt I L i (st I L i).1 (st I L i).2
def int (I : Int → Int → Int) (L : Loan) (i : Nat) : Int := I (left I L i) (L.rt i)
def paid (I : Int → Int → Int) (L : Loan) (i : Nat) : Int := paidAt I L i (left I L i) (lev I L i)
def prin (I : Int → Int → Int) (L : Loan) (i : Nat) : Int := paid I L i - int I L i
theorem left_zero (I : Int → Int → Int) (L : Loan) : left I L 0 = L.P := rfl
theorem left_succ (I : Int → Int → Int) (L : Loan) (i : Nat) : left I L (i + 1) = left I L i - prin I L i := rfl
theorem st_succ (I : Int → Int → Int) (L : Loan) (i : Nat) : (st I L (i + 1)).2 = lev I L i := rfl
/-- Is a period over? -/
def over (I : Int → Int → Int) (L : Loan) (i : Nat) : Prop := 10000000000000 < left I L (i + 1) ∨ 10000000000000 < paid I L i
/-- Terms that may be: rates from 0 to 1, parts that are the principal, all together. -/
structure Loan.Ok (L : Loan) : Prop where
  n : 0 < L.n
  p0 : 0 < L.P
  p1 : L.P ≤ 10000000000000
  r0 : ∀ i, 0 ≤ L.rt i
  r1 : ∀ i, L.rt i ≤ 1000000000000
  pt0 : ∀ i, 0 ≤ L.pt i
  part : ∀ i, i ≤ L.n → ((List.range i).map L.pt).sum ≤ L.P
theorem sum_pos {l : List Int} (h : ∀ x ∈ l, 0 ≤ x) : 0 ≤ l.sum := by
  induction l with
  | nil => exact Int.le_refl _
  | cons y r ih =>
    have h1 := h y List.mem_cons_self
    have h2 := ih (fun x hx => h x (List.mem_cons_of_mem _ hx))
    rw [List.sum_cons]
    omega
/-- Linear: what is left is the principal without the parts so far. -/
theorem left_linear {I : Int → Int → Int} {L : Loan} (hk : L.kind = 2) : ∀ i, i < L.n → left I L i = L.P - ((List.range i).map L.pt).sum := by
  intro i
  induction i with
  | zero => intro _; simp [left_zero]
  | succ i ih =>
    intro hi
    have h := ih (by omega)
    have e : paid I L i = int I L i + L.pt i := by
      unfold paid paidAt
      rw [if_neg (by omega), if_neg (by omega), if_pos hk]
      rfl
    rw [left_succ, prin, e, h, List.range_succ, List.map_append, List.sum_append]
    simp
    omega
/-- Nothing below 0 is left; nothing below 0 is paid; where no period ahead was over. -/
theorem left_in {I : Int → Int → Int} (hI : Int2 I) {L : Loan} (hL : L.Ok) : ∀ i, i ≤ L.n → (∀ j, j < i → ¬ over I L j) → 0 ≤ left I L i ∧ left I L i ≤ 10000000000000 ∧ 0 ≤ (st I L i).2 := by
  intro i
  induction i with
  | zero => intro _ _; exact ⟨by have := hL.p0; rw [left_zero]; omega, hL.p1, Int.le_refl _⟩
  | succ i ih =>
    intro hi ho
    obtain ⟨h1, h2, h3⟩ := ih (by omega) (fun j hj => ho j (by omega))
    have hb := hI.bears _ (hL.r0 i) (hL.r1 i)
    have hint : 0 ≤ int I L i := hb.nonneg h1
    have hlev : 0 ≤ lev I L i := by
      unfold lev levAt
      split
      · exact (lvl_bd hb (show 0 < L.n - i by omega) h1 h2).1
      · exact h3
    have hno := ho i (by omega)
    unfold over at hno
    refine ⟨?_, by omega, by rw [st_succ]; exact hlev⟩
    rw [left_succ, prin]
    unfold paid paidAt
    by_cases c0 : i + 1 = L.n
    · rw [if_pos c0]
      show 0 ≤ left I L i - (left I L i + int I L i - int I L i)
      omega
    · rw [if_neg c0]
      by_cases c1 : L.kind = 1
      · rw [if_pos c1]
        show 0 ≤ left I L i - (min (lev I L i) (left I L i + int I L i) - int I L i)
        have := Int.min_le_right (lev I L i) (left I L i + int I L i)
        omega
      · rw [if_neg c1]
        by_cases c2 : L.kind = 2
        · rw [if_pos c2]
          have e := left_linear (I := I) c2 i (by omega)
          have := hL.part (i + 1) (by omega)
          rw [List.range_succ, List.map_append, List.sum_append] at this
          simp at this
          show 0 ≤ left I L i - (int I L i + L.pt i - int I L i)
          omega
        · rw [if_neg c2]
          by_cases c3 : L.kind = 3
          · rw [if_pos c3]
            show 0 ≤ left I L i - (int I L i - int I L i)
            omega
          · rw [if_neg c3]
            show 0 ≤ left I L i - (0 - int I L i)
            omega
theorem paid_bd {I : Int → Int → Int} (hI : Int2 I) {L : Loan} (hL : L.Ok) {i : Nat} (hi : i < L.n) (ho : ∀ j, j < i → ¬ over I L j) : 0 ≤ int I L i ∧ int I L i ≤ left I L i ∧ 0 ≤ paid I L i ∧ 0 ≤ lev I L i ∧ paid I L i ≤ 40000000000000 ∧ left I L (i + 1) ≤ 40000000000000 ∧ 0 ≤ left I L (i + 1) := by
  obtain ⟨h1, h2, h3⟩ := left_in hI hL i (by omega) ho
  have hb := hI.bears _ (hL.r0 i) (hL.r1 i)
  have hint : 0 ≤ int I L i := hb.nonneg h1
  have hle : int I L i ≤ left I L i := hb.le _ h1
  have hlev : 0 ≤ lev I L i := by
    unfold lev levAt
    split
    · exact (lvl_bd hb (show 0 < L.n - i by omega) h1 h2).1
    · exact h3
  have hp := hL.pt0 i
  have hpt : L.pt i ≤ 10000000000000 := by
    have := hL.part (i + 1) (by omega)
    rw [List.range_succ, List.map_append, List.sum_append] at this
    simp at this
    have h9 : 0 ≤ ((List.range i).map L.pt).sum := sum_pos (fun x hx => by obtain ⟨j, _, rfl⟩ := List.mem_map.1 hx; exact hL.pt0 j)
    have := hL.p1
    omega
  rw [left_succ, prin]
  unfold paid paidAt
  by_cases c0 : i + 1 = L.n
  · rw [if_pos c0]
    show 0 ≤ int I L i ∧ int I L i ≤ left I L i ∧ 0 ≤ left I L i + int I L i ∧ 0 ≤ lev I L i ∧ left I L i + int I L i ≤ 40000000000000 ∧ left I L i - (left I L i + int I L i - int I L i) ≤ 40000000000000 ∧ 0 ≤ left I L i - (left I L i + int I L i - int I L i)
    exact ⟨hint, hle, by omega, hlev, by omega, by omega, by omega⟩
  · rw [if_neg c0]
    by_cases c1 : L.kind = 1
    · rw [if_pos c1]
      show 0 ≤ int I L i ∧ int I L i ≤ left I L i ∧ 0 ≤ min (lev I L i) (left I L i + int I L i) ∧ 0 ≤ lev I L i ∧ min (lev I L i) (left I L i + int I L i) ≤ 40000000000000 ∧ left I L i - (min (lev I L i) (left I L i + int I L i) - int I L i) ≤ 40000000000000 ∧ 0 ≤ left I L i - (min (lev I L i) (left I L i + int I L i) - int I L i)
      have m1 := Int.min_le_right (lev I L i) (left I L i + int I L i)
      have m2 : 0 ≤ min (lev I L i) (left I L i + int I L i) := Int.le_min.2 ⟨hlev, by omega⟩
      exact ⟨hint, hle, m2, hlev, by omega, by omega, by omega⟩
    · rw [if_neg c1]
      by_cases c2 : L.kind = 2
      · rw [if_pos c2]
        have e := left_linear (I := I) c2 i (by omega)
        have h8 := hL.part (i + 1) (by omega)
        rw [List.range_succ, List.map_append, List.sum_append] at h8
        simp at h8
        show 0 ≤ int I L i ∧ int I L i ≤ left I L i ∧ 0 ≤ int I L i + L.pt i ∧ 0 ≤ lev I L i ∧ int I L i + L.pt i ≤ 40000000000000 ∧ left I L i - (int I L i + L.pt i - int I L i) ≤ 40000000000000 ∧ 0 ≤ left I L i - (int I L i + L.pt i - int I L i)
        exact ⟨hint, hle, by omega, hlev, by omega, by omega, by omega⟩
      · rw [if_neg c2]
        by_cases c3 : L.kind = 3
        · rw [if_pos c3]
          show 0 ≤ int I L i ∧ int I L i ≤ left I L i ∧ 0 ≤ int I L i ∧ 0 ≤ lev I L i ∧ int I L i ≤ 40000000000000 ∧ left I L i - (int I L i - int I L i) ≤ 40000000000000 ∧ 0 ≤ left I L i - (int I L i - int I L i)
          exact ⟨hint, hle, hint, hlev, by omega, by omega, by omega⟩
        · rw [if_neg c3]
          show 0 ≤ int I L i ∧ int I L i ≤ left I L i ∧ (0 : Int) ≤ 0 ∧ 0 ≤ lev I L i ∧ (0 : Int) ≤ 40000000000000 ∧ left I L i - (0 - int I L i) ≤ 40000000000000 ∧ 0 ≤ left I L i - (0 - int I L i)
          exact ⟨hint, hle, by omega, hlev, by omega, by omega, by omega⟩
/-- Nothing is left at the end. -/
theorem left_end {I : Int → Int → Int} {L : Loan} (hn : 0 < L.n) : left I L L.n = 0 := by
  obtain ⟨m, hm⟩ : ∃ m, L.n = m + 1 := ⟨L.n - 1, by omega⟩
  rw [hm, left_succ, prin]
  unfold paid paidAt
  rw [if_pos hm.symm]
  show left I L m - (left I L m + I (left I L m) (L.rt m) - I (left I L m) (L.rt m)) = 0
  omega
/-- All principals so far, and what is left, are the principal. -/
theorem prin_sum (I : Int → Int → Int) (L : Loan) (i : Nat) : ((List.range i).map (prin I L)).sum = L.P - left I L i := by
  induction i with
  | zero => simp [left_zero]
  | succ i ih =>
    rw [List.range_succ, List.map_append, List.sum_append, ih, left_succ]
    simp
    omega
theorem paid_sum (I : Int → Int → Int) (L : Loan) (i : Nat) : ((List.range i).map (paid I L)).sum = ((List.range i).map (prin I L)).sum + ((List.range i).map (int I L)).sum := by
  induction i with
  | zero => rfl
  | succ i ih =>
    rw [List.range_succ, List.map_append, List.sum_append, List.map_append, List.sum_append, List.map_append, List.sum_append, ih]
    simp [prin]
    omega
/-- At the rate 0 there is no interest, and no period is over. -/
theorem flat_fine {I : Int → Int → Int} (hI : Int2 I) {L : Loan} (hL : L.Ok) (hr : ∀ i, L.rt i = 0) : ∀ i, i < L.n → ¬ over I L i := by
  have hz : ∀ i, int I L i = 0 := fun i => by unfold int; rw [hr i]; exact hI.flat _
  have key : ∀ i, i ≤ L.n → (∀ j, j < i → ¬ over I L j) ∧ left I L i ≤ L.P := by
    intro i
    induction i with
    | zero => intro _; exact ⟨fun j hj => absurd hj (Nat.not_lt_zero j), Int.le_refl _⟩
    | succ i ih =>
      intro hi
      obtain ⟨h1, h2⟩ := ih (by omega)
      have hb := paid_bd hI hL (show i < L.n by omega) h1
      rw [hz i] at hb
      have hle : left I L (i + 1) ≤ left I L i := by rw [left_succ, prin, hz i]; omega
      have hp : paid I L i ≤ left I L i := by
        have : 0 ≤ left I L (i + 1) := hb.2.2.2.2.2.2
        rw [left_succ, prin, hz i] at this
        omega
      have hP := hL.p1
      refine ⟨fun j hj => ?_, by omega⟩
      by_cases e : j = i
      · rw [e]; unfold over; omega
      · exact h1 j (by omega)
  intro i hi
  exact (key (i + 1) (by omega)).1 i (by omega)
theorem flat_sum {I : Int → Int → Int} (hI : Int2 I) {L : Loan} (hn : 0 < L.n) (hr : ∀ i, L.rt i = 0) : ((List.range L.n).map (paid I L)).sum = L.P := by
  have hz : ∀ i, int I L i = 0 := fun i => by unfold int; rw [hr i]; exact hI.flat _
  have hs : ∀ m, ((List.range m).map (int I L)).sum = 0 := by
    intro m
    induction m with
    | zero => rfl
    | succ m ih => rw [List.range_succ, List.map_append, List.sum_append, ih]; simp [hz m]
  rw [paid_sum, prin_sum, left_end hn, hs]
  omega
/-- Interest alone: all is left but at the end. -/
theorem left_interest {I : Int → Int → Int} {L : Loan} (hk : L.kind = 3) : ∀ i, i < L.n → left I L i = L.P ∧ (i + 1 < L.n → prin I L i = 0) := by
  intro i
  induction i with
  | zero =>
    intro _
    refine ⟨left_zero I L, fun h => ?_⟩
    unfold prin paid paidAt
    rw [if_neg (by omega), if_neg (by omega), if_neg (by omega), if_pos hk]
    show int I L 0 - int I L 0 = 0
    omega
  | succ i ih =>
    intro hi
    obtain ⟨h1, h2⟩ := ih (by omega)
    refine ⟨by rw [left_succ, h1, h2 (by omega)]; omega, fun h => ?_⟩
    unfold prin paid paidAt
    rw [if_neg (by omega), if_neg (by omega), if_neg (by omega), if_pos hk]
    show int I L (i + 1) - int I L (i + 1) = 0
    omega
/-- At last: nothing is paid ahead of the end. -/
theorem paid_bullet {I : Int → Int → Int} {L : Loan} (h1 : L.kind ≠ 1) (h2 : L.kind ≠ 2) (h3 : L.kind ≠ 3) {i : Nat} (hi : i + 1 < L.n) : paid I L i = 0 := by
  unfold paid paidAt
  rw [if_neg (by omega), if_neg h1, if_neg h2, if_neg h3]
theorem left_bullet {I : Int → Int → Int} (hI : Int2 I) {L : Loan} (hL : L.Ok) (h1 : L.kind ≠ 1) (h2 : L.kind ≠ 2) (h3 : L.kind ≠ 3) : ∀ i, i < L.n → (∀ j, j < i → ¬ over I L j) → L.P ≤ left I L i := by
  intro i
  induction i with
  | zero => intro _ _; exact Int.le_refl _
  | succ i ih =>
    intro hi ho
    have h := ih (by omega) (fun j hj => ho j (by omega))
    have hb := paid_bd hI hL (show i < L.n by omega) (fun j hj => ho j (by omega))
    rw [left_succ, prin, paid_bullet h1 h2 h3 hi]
    omega
/-- Linear: each principal is its part. -/
theorem prin_linear {I : Int → Int → Int} {L : Loan} (hk : L.kind = 2) {i : Nat} (hi : i + 1 < L.n) : prin I L i = L.pt i := by
  unfold prin paid paidAt
  rw [if_neg (by omega), if_neg (by omega), if_pos hk]
  show int I L i + L.pt i - int I L i = _
  omega
theorem prin_linear_last {I : Int → Int → Int} {L : Loan} (hk : L.kind = 2) (hn : 0 < L.n) (hs : ((List.range L.n).map L.pt).sum = L.P) : prin I L (L.n - 1) = L.pt (L.n - 1) := by
  have h1 := left_linear (I := I) hk (L.n - 1) (by omega)
  have h2 := left_end (I := I) hn
  obtain ⟨m, hm⟩ : ∃ m, L.n = m + 1 := ⟨L.n - 1, by omega⟩
  rw [hm] at h2 hs
  rw [left_succ] at h2
  rw [hm] at h1 ⊢
  simp only [Nat.add_sub_cancel] at h1 ⊢
  rw [List.range_succ, List.map_append, List.sum_append] at hs
  simp at hs
  omega
/-- At one rate the level payment is reckoned once. -/
theorem lev_once {I : Int → Int → Int} {L : Loan} (hr : ∀ i, L.rt i = L.rt 0) : ∀ i, lev I L i = lev I L 0 := by
  intro i
  induction i with
  | zero => rfl
  | succ i ih =>
    have h : lev I L (i + 1) = (st I L (i + 1)).2 := by
      show levAt I L (i + 1) _ _ = _
      unfold levAt
      rw [if_neg]
      rintro ⟨_, c | c⟩
      · omega
      · apply c
        rw [hr (i + 1), hr (i + 1 - 1)]
    rw [h, st_succ, ih]
/-- An annuity pays the level payment, or all that is left. -/
theorem paid_annuity {I : Int → Int → Int} {L : Loan} (hk : L.kind = 1) {i : Nat} (hi : i + 1 < L.n) : paid I L i = lev I L i ∨ left I L (i + 1) = 0 := by
  have e : paid I L i = min (lev I L i) (left I L i + int I L i) := by
    unfold paid paidAt
    rw [if_neg (by omega), if_pos hk]
    rfl
  by_cases c : lev I L i ≤ left I L i + int I L i
  · exact Or.inl (by rw [e, Int.min_eq_left c])
  · refine Or.inr ?_
    rw [left_succ, prin, e, Int.min_eq_right (by omega)]
    omega
/-- Of one rate an annuity pays the same in each period, unless nothing is left. -/
theorem annuity_same {I : Int → Int → Int} (hI : Int2 I) {L : Loan} (hL : L.Ok) (hk : L.kind = 1) (hr : ∀ i, L.rt i = L.rt 0) {i : Nat} (hi : i + 1 < L.n) (ho : ∀ j, j < L.n → ¬ over I L j) : paid I L i = paid I L 0 ∨ left I L (i + 1) = 0 := by
  rcases paid_annuity (I := I) hk (i := 0) (by omega) with h0 | h0
  · rcases paid_annuity (I := I) hk hi with h1 | h1
    · exact Or.inl (by rw [h0, h1, lev_once hr])
    · exact Or.inr h1
  · refine Or.inr ?_
    have key : ∀ j, j < L.n → left I L (j + 1) = 0 := by
      intro j
      induction j with
      | zero => intro _; exact h0
      | succ j ih =>
        intro hj
        have h := ih (by omega)
        have b := paid_bd hI hL hj (fun m hm => ho m (by omega))
        have z : int I L (j + 1) = 0 := by
          have := b.2.1
          have := b.1
          omega
        have p := b.2.2.2.2.2.2
        have q := b.2.2.1
        rw [left_succ, prin, z] at p ⊢
        omega
    exact key i (by omega)
/-- At rates that are no less no interest is less, but of an annuity. -/
theorem int_more {I : Int → Int → Int} (hI : Int2 I) {L M : Loan} (hL : L.Ok) (hM : M.Ok) (hk : L.kind = M.kind) (hn : L.n = M.n) (hp : L.P = M.P) (hpt : L.pt = M.pt) (h1 : L.kind ≠ 1) (hr : ∀ i, L.rt i ≤ M.rt i) (oL : ∀ j, j < L.n → ¬ over I L j) : ∀ i, i < L.n → left I L i ≤ left I M i ∧ int I L i ≤ int I M i := by
  have step : ∀ i, i < L.n → left I L i ≤ left I M i → int I L i ≤ int I M i := by
    intro i hi h
    have a := (left_in hI hL i (by omega) (fun j hj => oL j (by omega))).1
    have e1 := hI.rate (left I L i) _ _ a (hL.r0 i) (hr i)
    have e2 := (hI.bears _ (hM.r0 i) (hM.r1 i)).mono _ _ h
    exact Int.le_trans e1 e2
  intro i
  induction i with
  | zero =>
    intro hi
    have h : left I L 0 ≤ left I M 0 := by rw [left_zero, left_zero, hp]; exact Int.le_refl _
    exact ⟨h, step 0 hi h⟩
  | succ i ih =>
    intro hi
    obtain ⟨g1, g2⟩ := ih (by omega)
    have h : left I L (i + 1) ≤ left I M (i + 1) := by
      by_cases c2 : L.kind = 2
      · rw [left_linear c2 (i + 1) hi, left_linear (L := M) (by rw [← hk]; exact c2) (i + 1) (by rw [← hn]; exact hi), hp, hpt]
        exact Int.le_refl _
      · by_cases c3 : L.kind = 3
        · rw [(left_interest c3 (i + 1) hi).1, (left_interest (L := M) (by rw [← hk]; exact c3) (i + 1) (by rw [← hn]; exact hi)).1, hp]
          exact Int.le_refl _
        · rw [left_succ, left_succ, prin, prin, paid_bullet h1 c2 c3 hi, paid_bullet (L := M) (by rw [← hk]; exact h1) (by rw [← hk]; exact c2) (by rw [← hk]; exact c3) (by rw [← hn]; exact hi)]
          omega
    exact ⟨h, step (i + 1) hi h⟩
end Go.Proofs.Ytgnhnffmojjncaa.Mn
