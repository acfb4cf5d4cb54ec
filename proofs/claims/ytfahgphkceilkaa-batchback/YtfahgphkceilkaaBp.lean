/- Plain: a batch's bytes, and which bytes are a batch's. No program in this text. -/
import Derived.Test.YtfahgphkceilkaaCrc
import Derived.Test.YtfahgphkceilkaaCk
namespace Go.Proofs.Ytfahgphkceilkaa
open Go.RowKit
set_option linter.unusedVariables false
set_option linter.unusedSimpArgs false
/-- A number's k lowest bytes, the lowest one first (of one below 0 as it and a power of 256). -/
def numI : Nat → Int → List Nat
  | 0, _ => []
  | k + 1, n => (n % 256).toNat :: numI k (n / 256)
theorem numI_len (k : Nat) (n : Int) : (numI k n).length = k := by
  induction k generalizing n with
  | zero => rfl
  | succ k ih => simp only [numI, List.length_cons, ih]
theorem numI_bytes (k : Nat) (n : Int) : Bytes (numI k n) := by
  induction k generalizing n with
  | zero => exact fun c hc => by cases hc
  | succ k ih =>
    intro c hc
    rcases List.mem_cons.1 hc with rfl | hc
    · omega
    · exact ih _ c hc
theorem numI_nat (k n : Nat) : numI k (n : Int) = numB k n := by
  induction k generalizing n with
  | zero => rfl
  | succ k ih =>
    simp only [numI, numB]
    rw [show ((n : Int) / 256) = ((n / 256 : Nat) : Int) by omega, ih]
    congr 1
theorem numI_up (k : Nat) (n m : Int) : numI k (n + 256 ^ k * m) = numI k n := by
  induction k generalizing n with
  | zero => rfl
  | succ k ih =>
    simp only [numI]
    have e : (256 : Int) ^ (k + 1) * m = 256 * (256 ^ k * m) := by rw [Int.pow_succ, Int.mul_comm (256 ^ k), Int.mul_assoc]
    rw [e, Int.add_mul_emod_self_left, Int.add_mul_ediv_left _ _ (by decide), ih]
theorem numI_mod (k : Nat) (n : Int) : numI k n = numB k (n % 256 ^ k).toNat := by
  have h0 : 0 ≤ n % 256 ^ k := Int.emod_nonneg _ (by have : (0 : Int) < 256 ^ k := Int.pow_pos (by decide); omega)
  have e : n = ((n % 256 ^ k).toNat : Int) + 256 ^ k * (n / 256 ^ k) := by rw [Int.toNat_of_nonneg h0]; exact (Int.emod_add_mul_ediv n _).symm
  rw [← numI_nat]
  conv => lhs; rw [e]
  rw [numI_up]
theorem val_numI (k : Nat) (n : Int) : (valB (numI k n) : Int) = n % 256 ^ k := by
  have h0 : (0 : Int) < 256 ^ k := Int.pow_pos (by decide)
  have h1 := Int.emod_nonneg n (show (256 : Int) ^ k ≠ 0 by omega)
  have h2 := Int.emod_lt_of_pos n h0
  rw [numI_mod, val_num _ _ ?_, Int.toNat_of_nonneg h1]
  have : ((n % 256 ^ k).toNat : Int) < ((256 ^ k : Nat) : Int) := by rw [Int.toNat_of_nonneg h1]; simpa using h2
  omega
theorem numI_val {l : List Nat} (h : Bytes l) : numI l.length (valB l : Int) = l := by rw [numI_nat, num_val h]
/-- A line's bytes; a batch's, without its sum, and whole. -/
def lineN (x : Li) : List Nat := numI 1 x.1 ++ numI 8 x.2
def linesN (l : List Li) : List Nat := (l.map lineN).flatten
def bodyN (s e : Int) (l : List Li) : List Nat := [76, 66] ++ numI 4 s ++ numI 4 e ++ numI 1 l.length ++ linesN l
def putN (s e : Int) (l : List Li) : List Nat := bodyN s e l ++ numI 4 (crcSum (bodyN s e l) : Nat)
theorem Bytes.app {l m : List Nat} (h : Bytes l) (h' : Bytes m) : Bytes (l ++ m) := fun c hc => (List.mem_append.1 hc).elim (h c) (h' c)
theorem lineN_len (x : Li) : (lineN x).length = 9 := by rw [lineN, List.length_append, numI_len, numI_len]
theorem linesN_cons (x : Li) (l : List Li) : linesN (x :: l) = lineN x ++ linesN l := rfl
theorem linesN_len (l : List Li) : (linesN l).length = 9 * l.length := by
  induction l with
  | nil => rfl
  | cons x r ih => rw [linesN_cons, List.length_append, lineN_len, ih, List.length_cons]; omega
theorem linesN_bytes (l : List Li) : Bytes (linesN l) := by
  induction l with
  | nil => exact fun c hc => by cases hc
  | cons x r ih => exact ((numI_bytes _ _).app (numI_bytes _ _)).app ih
theorem linesN_take (l : List Li) {k : Nat} (h : k < l.length) : linesN (l.take k) ++ numI 1 (liA l k).1 ++ numI 8 (liA l k).2 = linesN (l.take (k + 1)) := by
  rw [← take_getD (d := (0, 0)) h, List.append_assoc]
  simp [linesN, lineN]
theorem bodyN_len (s e : Int) (l : List Li) : (bodyN s e l).length = 11 + 9 * l.length := by
  simp only [bodyN, List.length_append, numI_len, linesN_len, List.length_cons, List.length_nil]
theorem bodyN_bytes (s e : Int) (l : List Li) : Bytes (bodyN s e l) :=
  (((Bytes.app (by intro c hc; simp at hc; omega) (numI_bytes _ _)).app (numI_bytes _ _)).app (numI_bytes _ _)).app (linesN_bytes l)
theorem putN_len (s e : Int) (l : List Li) : (putN s e l).length = 15 + 9 * l.length := by rw [putN, List.length_append, bodyN_len, numI_len]; omega
theorem putN_bytes (s e : Int) (l : List Li) : Bytes (putN s e l) := (bodyN_bytes s e l).app (numI_bytes _ _)
theorem crcSum_lt {l : List Nat} (h : Bytes l) : crcSum l < 4294967296 := Nat.xor_lt_two_pow (n := 32) (crc_lt (by decide) h) (by decide)
/-- Whether a batch may be: 2 a wrong number, else what its lines are. -/
def mayN (n : Int) : Bool := decide (0 ≤ n) && decide (n ≤ 2147483647)
def chkB (s e : Int) (l : List Li) : Int := if mayN s = true ∧ mayN e = true then (if l.length = 0 then 0 else chkE l) else 2
def putB (s e : Int) (l : List Li) : List Nat := if chkB s e l = 0 then putN s e l else []
theorem mayN_bd {n : Int} (h : mayN n = true) : 0 ≤ n ∧ n ≤ 2147483647 := by
  simp only [mayN, Bool.and_eq_true, decide_eq_true_eq] at h
  exact h
theorem chkB_ok {s e : Int} {l : List Li} (h : chkB s e l = 0) : (0 ≤ s ∧ s ≤ 2147483647) ∧ (0 ≤ e ∧ e ≤ 2147483647) ∧ l.length ≤ 64 ∧ l.all lineB = true := by
  unfold chkB at h
  split at h
  · next h1 =>
    refine ⟨mayN_bd h1.1, mayN_bd h1.2, ?_⟩
    split at h
    · next h0 =>
      rw [List.length_eq_zero_iff] at h0
      subst h0
      exact ⟨by simp, rfl⟩
    · unfold chkE at h
      split at h
      · exact absurd h (by decide)
      · split at h
        · next h2 => exact ⟨by omega, h2.1⟩
        · exact absurd h (by decide)
  · exact absurd h (by decide)
/-- A line out of bytes; the lines; what bytes lack. -/
def lineOf (b : List Nat) : Li := ((b.getD 0 0 : Nat), wrap64 (valB ((b.drop 1).take 8) : Nat))
def linesB : Nat → List Nat → List Li
  | 0, _ => []
  | n + 1, b => lineOf b :: linesB n (b.drop 9)
theorem linesB_len (n : Nat) (b : List Nat) : (linesB n b).length = n := by
  induction n generalizing b with
  | zero => rfl
  | succ n ih => rw [linesB, List.length_cons, ih]
theorem linesB_next (n : Nat) (b : List Nat) : linesB (n + 1) b = linesB n b ++ [lineOf (b.drop (9 * n))] := by
  induction n generalizing b with
  | zero => rfl
  | succ n ih =>
    rw [linesB, ih, linesB, List.cons_append, List.drop_drop, show 9 * (n + 1) = 9 + 9 * n by omega]
theorem acc_bd {x : Li} (h : lineB x = true) : 1 ≤ x.1 ∧ x.1 ≤ 7 := by
  unfold lineB accB at h
  simp only [Bool.and_eq_true, decide_eq_true_eq] at h
  exact h.1.1.1
theorem wrap_mod (n : Int) : wrap64 (n % 18446744073709551616) = wrap64 n := by unfold wrap64; omega
theorem line_line {x : Li} (h : lineB x = true) (t : List Nat) : lineOf (lineN x ++ t) = x := by
  obtain ⟨h1, h2⟩ := acc_bd h
  have h3 := line_bd h
  obtain ⟨p, q⟩ := x
  simp only at h1 h2 h3
  unfold lineOf lineN
  have e1 : numI 1 p = [p.toNat] := by
    simp only [numI]
    rw [show p % 256 = p by omega]
  rw [e1]
  have e2 : ((([p.toNat] ++ numI 8 q ++ t).drop 1).take 8) = numI 8 q := by
    rw [List.append_assoc]
    simp only [List.cons_append, List.nil_append, List.drop_succ_cons, List.drop_zero]
    rw [List.take_append_of_le_length (by rw [numI_len]; omega), List.take_of_length_le (by rw [numI_len]; omega)]
  rw [e2, val_numI]
  have e3 : ((256 : Int) ^ 8) = 18446744073709551616 := by decide
  rw [e3, wrap_mod, wrap_in ⟨by omega, by omega⟩]
  simp
  omega
theorem lines_lines {l : List Li} (h : l.all lineB = true) (t : List Nat) : linesB l.length (linesN l ++ t) = l := by
  induction l with
  | nil => rfl
  | cons x r ih =>
    rw [List.all_cons, Bool.and_eq_true] at h
    rw [linesN_cons, List.append_assoc, List.length_cons, linesB, line_line h.1, List.drop_append_of_le_length (by rw [lineN_len]; omega), List.drop_of_length_le (by rw [lineN_len]; omega), List.nil_append, ih h.2]
theorem line_of {b : List Nat} (hb : Bytes b) (hl : 9 ≤ b.length) : lineN (lineOf b) = b.take 9 := by
  match b, hl with
  | c :: r, hl =>
    have hr : 8 ≤ r.length := by simp at hl; omega
    have hc := hb c List.mem_cons_self
    have h8 : Bytes (r.take 8) := fun x hx => hb x (List.mem_cons_of_mem _ (List.mem_of_mem_take hx))
    have l8 : (r.take 8).length = 8 := by rw [List.length_take]; omega
    have e := numI_val h8
    rw [l8] at e
    unfold lineOf lineN
    simp only [List.drop_succ_cons, List.drop_zero, List.getD_cons_zero, List.take_succ_cons]
    have e1 : numI 1 (c : Int) = [c] := by
      simp only [numI]
      congr 1
      omega
    have e2 : numI 8 (wrap64 (valB (r.take 8) : Nat)) = numI 8 (valB (r.take 8) : Nat) := by
      generalize ((valB (r.take 8) : Nat) : Int) = z
      have e3 : wrap64 z = z + 256 ^ 8 * ((z + 9223372036854775808) / 18446744073709551616 * (-1)) := by
        rw [show ((256 : Int) ^ 8) = 18446744073709551616 by decide]
        unfold wrap64
        omega
      rw [e3, numI_up]
    rw [e1, e2, e]
    rfl
theorem lines_of (n : Nat) {b : List Nat} (hb : Bytes b) (hl : 9 * n ≤ b.length) : linesN (linesB n b) = b.take (9 * n) := by
  induction n generalizing b with
  | zero => rfl
  | succ n ih =>
    rw [linesB, linesN_cons, line_of hb (by omega), ih (fun x hx => hb x (List.mem_of_mem_drop hx)) (by rw [List.length_drop]; omega)]
    have := List.take_add (l := b) (i := 9) (j := 9 * n)
    rw [show 9 * (n + 1) = 9 + 9 * n by omega, this]
end Go.Proofs.Ytfahgphkceilkaa
