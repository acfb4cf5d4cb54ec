/- Plain facts on the check sum of bytes (a remainder by a polynomial, bit by bit), and on numbers as bytes. No program in this text. -/
import Derived.RowKit
namespace Go.Proofs.Ytfahgphkceilkaa
/-- One bit's step. -/
def step (n : Nat) : Nat := if n % 2 = 1 then (n / 2) ^^^ 3988292384 else n / 2
theorem xor_two (a b : Nat) : (a ^^^ b) / 2 = a / 2 ^^^ b / 2 := by
  apply Nat.eq_of_testBit_eq
  intro i
  simp [Nat.testBit_xor, Nat.testBit_div_two]
theorem xor_mod (a b : Nat) : (a ^^^ b) % 2 = 1 ↔ ¬ (a % 2 = 1 ↔ b % 2 = 1) := by
  have h := Nat.testBit_xor a b 0
  simp only [Nat.testBit_zero] at h
  by_cases ha : a % 2 = 1 <;> by_cases hb : b % 2 = 1 <;> simp [ha, hb] at h ⊢ <;> omega
theorem step_xor (a b : Nat) : step (a ^^^ b) = step a ^^^ step b := by
  unfold step
  have h := xor_mod a b
  have p : ∀ x : Nat, x ^^^ x = 0 := Nat.xor_self
  by_cases ha : a % 2 = 1 <;> by_cases hb : b % 2 = 1
  · rw [if_neg (by rw [h]; simp [ha, hb]), if_pos ha, if_pos hb, xor_two]
    generalize a / 2 = x
    generalize b / 2 = y
    apply Nat.eq_of_testBit_eq
    intro i
    simp [Nat.testBit_xor]
    cases x.testBit i <;> cases y.testBit i <;> cases (3988292384 : Nat).testBit i <;> rfl
  · rw [if_pos (by rw [h]; simp [ha, hb]), if_pos ha, if_neg hb, xor_two]
    generalize a / 2 = x
    generalize b / 2 = y
    apply Nat.eq_of_testBit_eq
    intro i
    simp [Nat.testBit_xor]
    cases x.testBit i <;> cases y.testBit i <;> cases (3988292384 : Nat).testBit i <;> rfl
  · rw [if_pos (by rw [h]; simp [ha, hb]), if_neg ha, if_pos hb, xor_two]
    generalize a / 2 = x
    generalize b / 2 = y
    apply Nat.eq_of_testBit_eq
    intro i
    simp [Nat.testBit_xor]
  · rw [if_neg (by rw [h]; simp [ha, hb]), if_neg ha, if_neg hb, xor_two]
theorem step_lt {n : Nat} (h : n < 4294967296) : step n < 4294967296 := by
  unfold step
  split
  · exact Nat.xor_lt_two_pow (n := 32) (by omega) (by decide)
  · omega
theorem step_zero : step 0 = 0 := by decide
/-- Of a number of 32 bits that isn't 0 the step isn't 0. -/
theorem step_some {n : Nat} (h : n < 4294967296) (h0 : n ≠ 0) : step n ≠ 0 := by
  unfold step
  split
  · intro e
    have e2 : n / 2 = 3988292384 := by
      have := congrArg (· ^^^ 3988292384) e
      simp only [Nat.xor_assoc, Nat.xor_self, Nat.xor_zero, Nat.zero_xor] at this
      exact this
    omega
  · omega
/-- That many steps. -/
def steps : Nat → Nat → Nat
  | 0, n => n
  | k + 1, n => steps k (step n)
theorem steps_add (k m n : Nat) : steps (k + m) n = steps m (steps k n) := by
  induction k generalizing n with
  | zero => rw [Nat.zero_add]; rfl
  | succ k ih => rw [Nat.succ_add]; exact ih (step n)
theorem steps_next (k n : Nat) : steps (k + 1) n = step (steps k n) := steps_add k 1 n
theorem steps_xor (k a b : Nat) : steps k (a ^^^ b) = steps k a ^^^ steps k b := by
  induction k generalizing a b with
  | zero => rfl
  | succ k ih => simp only [steps, step_xor, ih]
theorem steps_lt {k n : Nat} (h : n < 4294967296) : steps k n < 4294967296 := by
  induction k generalizing n with
  | zero => exact h
  | succ k ih => exact ih (step_lt h)
theorem steps_some {k n : Nat} (h : n < 4294967296) (h0 : n ≠ 0) : steps k n ≠ 0 := by
  induction k generalizing n with
  | zero => exact h0
  | succ k ih => exact ih (step_lt h) (step_some h h0)
theorem steps_zero (k : Nat) : steps k 0 = 0 := by
  induction k with
  | zero => rfl
  | succ k ih => simp only [steps, step_zero, ih]
/-- A byte's eight steps. -/
def stepB (n : Nat) : Nat := steps 8 n
theorem stepB_xor (a b : Nat) : stepB (a ^^^ b) = stepB a ^^^ stepB b := steps_xor 8 a b
theorem steps_B (k m : Nat) : steps (8 + k) m = steps k (stepB m) := steps_add 8 k m
theorem steps_len (c : Nat) (r : List Nat) (m : Nat) : steps (8 * (c :: r).length) m = steps (8 * r.length) (stepB m) := by
  have e : 8 * (c :: r).length = 8 + 8 * r.length := by rw [List.length_cons]; omega
  rw [e, steps_B]
theorem stepB_lt {n : Nat} (h : n < 4294967296) : stepB n < 4294967296 := steps_lt h
/-- Bytes' remainder from n on; their check sum. -/
def crc : Nat → List Nat → Nat
  | n, [] => n
  | n, c :: r => crc (stepB (n ^^^ c)) r
def crcSum (l : List Nat) : Nat := crc 4294967295 l ^^^ 4294967295
theorem crc_append (n : Nat) (l m : List Nat) : crc n (l ++ m) = crc (crc n l) m := by
  induction l generalizing n with
  | nil => rfl
  | cons c r ih => exact ih _
theorem crc_cons (n c : Nat) (r : List Nat) : crc n (c :: r) = crc (stepB (n ^^^ c)) r := rfl
theorem crc_one (n c : Nat) : crc n [c] = stepB (n ^^^ c) := rfl
def Bytes (l : List Nat) : Prop := ∀ c ∈ l, c < 256
theorem crc_lt {n : Nat} {l : List Nat} (h : n < 4294967296) (hl : Bytes l) : crc n l < 4294967296 := by
  induction l generalizing n with
  | nil => exact h
  | cons c r ih =>
    have hc := hl c List.mem_cons_self
    exact ih (stepB_lt (Nat.xor_lt_two_pow (n := 32) h (by omega))) (fun x hx => hl x (List.mem_cons_of_mem _ hx))
theorem xor_swap4 (a b c d : Nat) : (a ^^^ b) ^^^ (c ^^^ d) = (a ^^^ c) ^^^ (b ^^^ d) := by
  apply Nat.eq_of_testBit_eq
  intro i
  simp only [Nat.testBit_xor]
  cases a.testBit i <;> cases b.testBit i <;> cases c.testBit i <;> cases d.testBit i <;> rfl
/-- Two states' remainders by the same bytes differ by what they differed, so many steps on. -/
theorem crc_from (n m : Nat) (l : List Nat) : crc (n ^^^ m) l = crc n l ^^^ steps (8 * l.length) m := by
  induction l generalizing n m with
  | nil => rfl
  | cons c r ih =>
    have e : (n ^^^ m) ^^^ c = (n ^^^ c) ^^^ m := by rw [Nat.xor_assoc, Nat.xor_comm m c, Nat.xor_assoc]
    have h1 : crc (n ^^^ m) (c :: r) = crc (stepB ((n ^^^ c) ^^^ m)) r := congrArg (fun x => crc (stepB x) r) e
    have h3 : crc (stepB (n ^^^ c) ^^^ stepB m) r = crc (stepB (n ^^^ c)) r ^^^ steps (8 * r.length) (stepB m) := ih _ _
    rw [h1, stepB_xor, h3, steps_len]
    rfl
/-- With one byte turned by d the remainder is turned, too. -/
theorem crc_turn (n : Nat) (l m : List Nat) (c d : Nat) : crc n (l ++ (c ^^^ d) :: m) = crc n (l ++ c :: m) ^^^ steps (8 * (m.length + 1)) d := by
  have q := steps_len 0 m d
  rw [List.length_cons] at q
  have h3 := crc_from (stepB (crc n l ^^^ c)) (stepB d) m
  rw [crc_append, crc_append, crc_cons, crc_cons, q]
  rw [← Nat.xor_assoc, stepB_xor, h3]
theorem xor_ne {a d : Nat} (h : d ≠ 0) : a ^^^ d ≠ a := fun e => h (by
  have := congrArg (a ^^^ ·) e
  simp only [← Nat.xor_assoc, Nat.xor_self, Nat.zero_xor] at this
  exact this)
theorem xor_both {a b c : Nat} (h : a ^^^ c = b ^^^ c) : a = b := by
  have := congrArg (· ^^^ c) h
  simp only [Nat.xor_assoc, Nat.xor_self, Nat.xor_zero] at this
  exact this
/-- With a byte turned the check sum is another one. -/
theorem sum_turn {l m : List Nat} {c d : Nat} (h0 : d ≠ 0) (hd : d < 256) : crcSum (l ++ (c ^^^ d) :: m) ≠ crcSum (l ++ c :: m) := fun e => by
  unfold crcSum at e
  generalize (4294967295 : Nat) = K at e
  have q := xor_both e
  rw [crc_turn] at q
  exact xor_ne (steps_some (Nat.lt_of_lt_of_le hd (by decide)) h0) q
/-- Check sums belong to bytes one by one. -/
def xorL : List Nat → List Nat → List Nat
  | a :: l, b :: m => (a ^^^ b) :: xorL l m
  | _, _ => []
theorem xorL_cons (x y : Nat) (a b : List Nat) : xorL (x :: a) (y :: b) = (x ^^^ y) :: xorL a b := rfl
theorem crc_both (n m : Nat) : ∀ (a b : List Nat), a.length = b.length → crc n a ^^^ crc m b = crc (n ^^^ m) (xorL a b)
  | [], [], _ => rfl
  | x :: a, y :: b, h => by
    have ih := crc_both (stepB (n ^^^ x)) (stepB (m ^^^ y)) a b (by simpa using h)
    rw [xorL_cons, crc_cons, crc_cons, crc_cons, ih, ← stepB_xor, xor_swap4]
  | [], _ :: _, h => by cases h
  | _ :: _, [], h => by cases h
theorem xorL_len : ∀ (a b : List Nat), a.length = b.length → (xorL a b).length = a.length
  | [], [], _ => rfl
  | x :: a, y :: b, h => by rw [xorL_cons, List.length_cons, List.length_cons, xorL_len a b (by simpa using h)]
  | [], _ :: _, h => by cases h
  | _ :: _, [], h => by cases h
theorem xorL_zero : ∀ (a b : List Nat), a.length = b.length → (∀ y ∈ b, y = 0) → xorL a b = a
  | [], [], _, _ => rfl
  | x :: a, y :: b, h, h0 => by
    have e : y = 0 := h0 y List.mem_cons_self
    rw [xorL, e, Nat.xor_zero, xorL_zero a b (by simpa using h) (fun z hz => h0 z (List.mem_cons_of_mem _ hz))]
  | [], _ :: _, h, _ => by cases h
  | _ :: _, [], h, _ => by cases h
theorem sums_both (a b z : List Nat) (h : a.length = b.length) (hz : z.length = a.length) (h0 : ∀ y ∈ z, y = 0) : crcSum a ^^^ crcSum b = crcSum (xorL a b) ^^^ crcSum z := by
  unfold crcSum
  rw [xor_swap4, Nat.xor_self, Nat.xor_zero, xor_swap4, Nat.xor_self, Nat.xor_zero, crc_both _ _ a b h, Nat.xor_self, crc_both _ _ (xorL a b) z (by rw [xorL_len a b h, hz]), Nat.xor_self, xorL_zero _ z (by rw [xorL_len a b h, hz]) h0]
/-- Bit by bit as the document has it: the state behind i bits of the byte c. -/
theorem bit_step (n c i : Nat) : (if (n ^^^ c / 2 ^ i) % 2 = 1 then (n / 2) ^^^ 3988292384 else n / 2) ^^^ c / 2 ^ (i + 1) = step (n ^^^ c / 2 ^ i) := by
  unfold step
  have e : c / 2 ^ (i + 1) = c / 2 ^ i / 2 := by rw [Nat.pow_succ, Nat.div_div_eq_div_mul]
  rw [e, xor_two]
  split
  · rw [Nat.xor_assoc, Nat.xor_comm 3988292384, ← Nat.xor_assoc]
  · rfl
theorem crc_check : crcSum [49, 50, 51, 52, 53, 54, 55, 56, 57] = 3421780262 := by decide +kernel
/-- A number's bytes, the lowest one first; bytes' number. -/
def numB : Nat → Nat → List Nat
  | 0, _ => []
  | k + 1, n => n % 256 :: numB k (n / 256)
def valB : List Nat → Nat
  | [] => 0
  | c :: r => c + 256 * valB r
theorem numB_len (k n : Nat) : (numB k n).length = k := by
  induction k generalizing n with
  | zero => rfl
  | succ k ih => simp only [numB, List.length_cons, ih]
theorem numB_bytes (k n : Nat) : Bytes (numB k n) := by
  induction k generalizing n with
  | zero => exact fun c hc => by cases hc
  | succ k ih =>
    intro c hc
    rcases List.mem_cons.1 hc with rfl | hc
    · omega
    · exact ih _ c hc
theorem val_num (k n : Nat) (h : n < 256 ^ k) : valB (numB k n) = n := by
  induction k generalizing n with
  | zero => simp at h; subst h; rfl
  | succ k ih =>
    have h1 : n / 256 < 256 ^ k := by rw [Nat.div_lt_iff_lt_mul (by decide), ← Nat.pow_succ]; exact h
    simp only [numB, valB, ih _ h1]
    omega
theorem num_val {l : List Nat} (h : Bytes l) : numB l.length (valB l) = l := by
  induction l with
  | nil => rfl
  | cons c r ih =>
    have hc := h c List.mem_cons_self
    have e := ih (fun x hx => h x (List.mem_cons_of_mem _ hx))
    simp only [List.length_cons, numB, valB]
    rw [show (c + 256 * valB r) % 256 = c by omega, show (c + 256 * valB r) / 256 = valB r by omega, e]
theorem val_lt {l : List Nat} (h : Bytes l) : valB l < 256 ^ l.length := by
  induction l with
  | nil => simp [valB]
  | cons c r ih =>
    have hc := h c List.mem_cons_self
    have e := ih (fun x hx => h x (List.mem_cons_of_mem _ hx))
    simp only [List.length_cons, valB, Nat.pow_succ]
    omega
theorem numB_at (k n i : Nat) (hi : i < k) : (numB k n).getD i 0 = n / 256 ^ i % 256 := by
  induction k generalizing n i with
  | zero => omega
  | succ k ih =>
    cases i with
    | zero => simp [numB]
    | succ i =>
      have := ih (n / 256) i (by omega)
      simp only [numB, List.getD_cons_succ, this]
      rw [Nat.div_div_eq_div_mul, Nat.pow_succ, Nat.mul_comm (256 ^ i)]
end Go.Proofs.Ytfahgphkceilkaa
