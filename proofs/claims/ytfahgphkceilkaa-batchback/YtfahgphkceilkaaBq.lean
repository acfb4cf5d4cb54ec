/- Plain: what is put is got, and what is got is put; a byte that is turned. No program in this text. -/
import Derived.Test.YtfahgphkceilkaaBp
namespace Go.Proofs.Ytfahgphkceilkaa
open Go.RowKit
set_option linter.unusedVariables false
set_option linter.unusedSimpArgs false
/-- What bytes lack to be a batch's, whatever its numbers; the batch; what they lack at all. -/
def formE (xs : List Nat) : Int :=
  if xs.length < 15 then 14 else if ¬ (xs.getD 0 0 = 76 ∧ xs.getD 1 0 = 66) then 6 else
  if xs.length < 15 + 9 * xs.getD 10 0 then 14 else if 15 + 9 * xs.getD 10 0 < xs.length then 6 else
  if valB (xs.drop (xs.length - 4)) = crcSum (xs.take (xs.length - 4)) then 0 else 7
def seqN (xs : List Nat) : Int := (valB ((xs.drop 2).take 4) : Nat)
def evN (xs : List Nat) : Int := (valB ((xs.drop 6).take 4) : Nat)
def lisN (xs : List Nat) : List Li := linesB (xs.getD 10 0) (xs.drop 11)
def getE (xs : List Nat) : Int := if formE xs = 0 then (if chkB (seqN xs) (evN xs) (lisN xs) = 0 then 0 else 6) else formE xs
def getS (xs : List Nat) : Int := if getE xs = 0 then seqN xs else 0
def getV (xs : List Nat) : Int := if getE xs = 0 then evN xs else 0
def getL (xs : List Nat) : List Li := if getE xs = 0 then lisN xs else []
theorem formE_ok {xs : List Nat} (h : formE xs = 0) : xs.length = 15 + 9 * xs.getD 10 0 ∧ xs.getD 0 0 = 76 ∧ xs.getD 1 0 = 66 ∧ valB (xs.drop (xs.length - 4)) = crcSum (xs.take (xs.length - 4)) := by
  unfold formE at h
  split at h
  · exact absurd h (by decide)
  split at h
  · exact absurd h (by decide)
  next h1 =>
  split at h
  · exact absurd h (by decide)
  split at h
  · exact absurd h (by decide)
  split at h
  · next h5 => exact ⟨by omega, by omega, by omega, h5⟩
  · exact absurd h (by decide)
theorem getE_ok {xs : List Nat} (h : getE xs = 0) : formE xs = 0 ∧ chkB (seqN xs) (evN xs) (lisN xs) = 0 := by
  unfold getE at h
  split at h
  · next h1 =>
    refine ⟨h1, ?_⟩
    split at h
    · assumption
    · exact absurd h (by decide)
  · next h1 => exact absurd h h1
/-- The bytes of a batch, one by one. -/
theorem putN_eq (s e : Int) (l : List Li) : putN s e l = 76 :: 66 :: (numI 4 s ++ (numI 4 e ++ ((l.length % 256) :: (linesN l ++ numI 4 (crcSum (bodyN s e l) : Nat))))) := by
  have e1 : numI 1 (l.length : Int) = [l.length % 256] := by
    simp only [numI]
    congr 1
  simp only [putN, bodyN, e1, List.append_assoc, List.cons_append, List.nil_append]
theorem four (n : Int) : ∃ a b c d, numI 4 n = [a, b, c, d] := ⟨_, _, _, _, rfl⟩
theorem put_form {s e : Int} {l : List Li} (hl : l.length ≤ 64) : formE (putN s e l) = 0 := by
  have h0 : (putN s e l).getD 10 0 = l.length ∧ (putN s e l).getD 0 0 = 76 ∧ (putN s e l).getD 1 0 = 66 := by
    rw [putN_eq]
    obtain ⟨a, b, c, d, h1⟩ := four s
    obtain ⟨a', b', c', d', h2⟩ := four e
    rw [h1, h2]
    refine ⟨?_, rfl, rfl⟩
    simp [List.getD]
    omega
  obtain ⟨h1, h2, h3⟩ := h0
  have hlen := putN_len s e l
  have hb := bodyN_len s e l
  have e1 : (putN s e l).drop ((putN s e l).length - 4) = numI 4 (crcSum (bodyN s e l) : Nat) := by
    rw [hlen, putN, show 15 + 9 * l.length - 4 = (bodyN s e l).length by omega, List.drop_left]
  have e2 : (putN s e l).take ((putN s e l).length - 4) = bodyN s e l := by
    rw [hlen, putN, show 15 + 9 * l.length - 4 = (bodyN s e l).length by omega, List.take_left]
  have e3 : valB (numI 4 (crcSum (bodyN s e l) : Nat)) = crcSum (bodyN s e l) := by
    rw [numI_nat, val_num _ _ (Nat.lt_of_lt_of_le (crcSum_lt (bodyN_bytes s e l)) (by decide))]
  unfold formE
  rw [h1, h2, h3, e1, e2, if_neg (by omega), if_neg (by simp), if_neg (by omega), if_neg (by omega), if_pos e3]
theorem val_four {n : Int} (h0 : 0 ≤ n) (h1 : n ≤ 2147483647) : ((valB (numI 4 n) : Nat) : Int) = n := by
  rw [val_numI, show ((256 : Int) ^ 4) = 4294967296 by decide]
  omega
theorem put_get {s e : Int} {l : List Li} (h : chkB s e l = 0) : getE (putN s e l) = 0 ∧ getS (putN s e l) = s ∧ getV (putN s e l) = e ∧ getL (putN s e l) = l := by
  obtain ⟨⟨s0, s1⟩, ⟨e0, e1⟩, hl, ha⟩ := chkB_ok h
  have hf := put_form (s := s) (e := e) hl
  have g1 : seqN (putN s e l) = s := by
    unfold seqN
    rw [putN_eq]
    simp only [List.drop_succ_cons, List.drop_zero]
    rw [List.take_append_of_le_length (by rw [numI_len]; omega), List.take_of_length_le (by rw [numI_len]; omega), val_four s0 s1]
  have g2 : evN (putN s e l) = e := by
    unfold evN
    rw [putN_eq]
    obtain ⟨a, b, c, d, q⟩ := four s
    rw [q]
    simp only [List.cons_append, List.nil_append, List.drop_succ_cons, List.drop_zero]
    rw [List.take_append_of_le_length (by rw [numI_len]; omega), List.take_of_length_le (by rw [numI_len]; omega), val_four e0 e1]
  have g3 : lisN (putN s e l) = l := by
    unfold lisN
    rw [putN_eq]
    obtain ⟨a, b, c, d, q⟩ := four s
    obtain ⟨a', b', c', d', q'⟩ := four e
    rw [q, q']
    have k : l.length % 256 = l.length := by omega
    simp only [List.cons_append, List.nil_append, List.drop_succ_cons, List.drop_zero, List.getD_cons_succ, List.getD_cons_zero, k]
    exact lines_lines ha _
  have g0 : getE (putN s e l) = 0 := by
    unfold getE
    rw [if_pos hf, g1, g2, g3, if_pos h]
  exact ⟨g0, by rw [getS, if_pos g0, g1], by rw [getV, if_pos g0, g2], by rw [getL, if_pos g0, g3]⟩
theorem four_val {b : List Nat} (hb : Bytes b) (h : b.length = 4) : numI 4 (valB b : Nat) = b := by
  have := numI_val hb
  rw [h] at this
  exact this
theorem get_put {xs : List Nat} (hb : Bytes xs) (h : getE xs = 0) : putN (getS xs) (getV xs) (getL xs) = xs := by
  obtain ⟨hf, hc⟩ := getE_ok h
  obtain ⟨h1, h2, h3, h4⟩ := formE_ok hf
  have hsub : ∀ m, Bytes (xs.drop m) := fun m x hx => hb x (List.mem_of_mem_drop hx)
  have htk : ∀ m k, Bytes ((xs.drop m).take k) := fun m k x hx => hsub m x (List.mem_of_mem_take hx)
  have hn : xs.getD 10 0 < 256 := by
    have : xs.getD 10 0 = xs[10]'(by omega) := by simp [List.getD, show 10 < xs.length by omega]
    rw [this]
    exact hb _ (List.getElem_mem _)
  rw [getS, getV, getL, if_pos h, if_pos h, if_pos h]
  have k1 : numI 4 (seqN xs) = (xs.drop 2).take 4 := four_val (htk _ _) (by rw [List.length_take, List.length_drop]; omega)
  have k2 : numI 4 (evN xs) = (xs.drop 6).take 4 := four_val (htk _ _) (by rw [List.length_take, List.length_drop]; omega)
  have k3 : linesN (lisN xs) = (xs.drop 11).take (9 * xs.getD 10 0) := lines_of _ (hsub 11) (by rw [List.length_drop]; omega)
  have k4 : (lisN xs).length = xs.getD 10 0 := linesB_len _ _
  have k5 : numI 1 ((lisN xs).length : Int) = [xs.getD 10 0] := by
    simp only [numI]
    congr 1
    omega
  have body : bodyN (seqN xs) (evN xs) (lisN xs) = xs.take (xs.length - 4) := by
    unfold bodyN
    rw [k1, k2, k3, k5]
    generalize hm : xs.getD 10 0 = m at *
    match xs, h1 with
    | a0 :: a1 :: a2 :: a3 :: a4 :: a5 :: a6 :: a7 :: a8 :: a9 :: a10 :: r, h1 =>
      simp only [List.getD_cons_zero, List.getD_cons_succ] at h2 h3 hm
      subst h2 h3 hm
      simp only [List.length_cons] at h1
      have e : (76 :: 66 :: a2 :: a3 :: a4 :: a5 :: a6 :: a7 :: a8 :: a9 :: a10 :: r).length - 4 = 9 * a10 + 11 := by simp only [List.length_cons]; omega
      rw [e]
      simp only [List.drop_succ_cons, List.drop_zero, List.take_succ_cons, List.take_zero, List.cons_append, List.nil_append]
    | [], h1 => simp at h1; omega
    | [_], h1 => simp at h1; omega
    | [_, _], h1 => simp at h1; omega
    | [_, _, _], h1 => simp at h1; omega
    | [_, _, _, _], h1 => simp at h1; omega
    | [_, _, _, _, _], h1 => simp at h1; omega
    | [_, _, _, _, _, _], h1 => simp at h1; omega
    | [_, _, _, _, _, _, _], h1 => simp at h1; omega
    | [_, _, _, _, _, _, _, _], h1 => simp at h1; omega
    | [_, _, _, _, _, _, _, _, _], h1 => simp at h1; omega
    | [_, _, _, _, _, _, _, _, _, _], h1 => simp at h1; omega
  unfold putN
  rw [body, ← h4, four_val (hsub _) (by rw [List.length_drop]; omega), List.take_append_drop]
/-- Bytes that lack some at the end, and bytes with one more. -/
theorem get_less {s e : Int} {l : List Li} (hl : l.length ≤ 64) {k : Nat} (hk : k < (putN s e l).length) : getE ((putN s e l).take k) = 14 := by
  obtain ⟨h1, h2, h3, h4⟩ := formE_ok (put_form (s := s) (e := e) hl)
  generalize putN s e l = xs at *
  have hlen : (xs.take k).length = k := by rw [List.length_take]; omega
  have hf : formE (xs.take k) = 14 := by
    unfold formE
    rw [hlen]
    split
    · rfl
    next hk2 =>
    have hg : ∀ j, j < 15 → (xs.take k).getD j 0 = xs.getD j 0 := fun j hj => by
      simp only [List.getD]
      rw [List.getElem?_take_of_lt (by omega)]
    rw [hg 0 (by omega), hg 1 (by omega), hg 10 (by omega), h2, h3, if_neg (by simp), if_pos (by omega)]
  unfold getE
  rw [hf, if_neg (by decide)]
theorem get_more {s e : Int} {l : List Li} (hl : l.length ≤ 64) (c : Nat) : getE (putN s e l ++ [c]) = 6 := by
  obtain ⟨h1, h2, h3, h4⟩ := formE_ok (put_form (s := s) (e := e) hl)
  generalize putN s e l = xs at *
  have hf : formE (xs ++ [c]) = 6 := by
    have hg : ∀ j, j < 15 → (xs ++ [c]).getD j 0 = xs.getD j 0 := fun j hj => by
      simp only [List.getD]
      rw [List.getElem?_append_left (by omega)]
    unfold formE
    have hlen : (xs ++ [c]).length = xs.length + 1 := by simp
    rw [hlen, hg 0 (by omega), hg 1 (by omega), hg 10 (by omega), h2, h3, if_neg (by omega), if_neg (by simp), if_neg (by omega), if_pos (by omega)]
  unfold getE
  rw [hf, if_neg (by decide)]
/-- With one byte turned. -/
theorem get_turn {xs : List Nat} (hb : Bytes xs) (h : formE xs = 0) {k d : Nat} (hk : k < xs.length) (hd : d < 256) (h0 : d ≠ 0) : ¬ getE (xs.set k (xs.getD k 0 ^^^ d)) = 0 := fun g => by
  obtain ⟨hf, _⟩ := getE_ok g
  obtain ⟨h1, h2, h3, h4⟩ := formE_ok h
  obtain ⟨g1, g2, g3, g4⟩ := formE_ok hf
  rw [List.length_set] at g4 g1
  by_cases hlt : k < xs.length - 4
  · rw [List.drop_set_of_lt (by omega)] at g4
    rw [h4, List.take_set] at g4
    generalize hT : xs.take (xs.length - 4) = T at *
    have hTl : T.length = xs.length - 4 := by rw [← hT, List.length_take]; omega
    have hget : xs.getD k 0 = T[k]'(by omega) := by
      subst hT
      simp [List.getD, hk]
    rw [hget, List.set_eq_take_append_cons_drop, if_pos (by omega)] at g4
    have e : T = T.take k ++ T[k]'(by omega) :: T.drop (k + 1) := by
      rw [← List.drop_eq_getElem_cons (by omega), List.take_append_drop]
    conv at g4 => lhs; rw [e]
    exact sum_turn h0 hd g4.symm
  · rw [List.take_set_of_le (by omega), ← h4] at g4
    have hL : ∀ l m : List Nat, Bytes l → Bytes m → l.length = m.length → valB l = valB m → l = m := fun l m hl hm e1 e2 => by
      rw [← num_val hl, ← num_val hm, e1, e2]
    have hx : Bytes (xs.drop (xs.length - 4)) := fun x hx => hb x (List.mem_of_mem_drop hx)
    have hbk : xs.getD k 0 < 256 := by
      have : xs.getD k 0 = xs[k]'hk := by simp [List.getD, hk]
      rw [this]
      exact hb _ (List.getElem_mem _)
    have hs : Bytes (xs.set k (xs.getD k 0 ^^^ d)) := fun x hx => by
      rcases List.mem_or_eq_of_mem_set hx with hx | rfl
      · exact hb x hx
      · exact Nat.xor_lt_two_pow (n := 8) hbk hd
    have e := hL _ _ (fun x hx => hs x (List.mem_of_mem_drop hx)) hx (by rw [List.length_drop, List.length_drop, List.length_set]) g4
    have e2 := congrArg (fun l => l[k - (xs.length - 4)]?) e
    simp only [List.getElem?_drop] at e2
    rw [show xs.length - 4 + (k - (xs.length - 4)) = k by omega, List.getElem?_set_self hk, List.getElem?_eq_getElem hk] at e2
    have e3 := Option.some.inj e2
    have e4 : xs.getD k 0 = xs[k]'hk := by simp [List.getD, hk]
    rw [e4] at e3
    exact xor_ne h0 e3
theorem put_inj {s e s' e' : Int} {l l' : List Li} (h : chkB s e l = 0) (h' : chkB s' e' l' = 0) (q : putN s e l = putN s' e' l') : s = s' ∧ e = e' ∧ l = l' := by
  obtain ⟨_, a1, a2, a3⟩ := put_get h
  obtain ⟨_, b1, b2, b3⟩ := put_get h'
  rw [q] at a1 a2 a3
  exact ⟨a1.symm.trans b1, a2.symm.trans b2, a3.symm.trans b3⟩
end Go.Proofs.Ytfahgphkceilkaa
