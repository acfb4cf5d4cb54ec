/- The parts of a Split are the whole, all together; signs; like weights. No walk but Split's own contract, without conditions on Div64. -/
import Derived.Test.YtgnhnffmojjncaaMSplit
namespace Go.Proofs.Ytgnhnffmojjncaa.Mn
open Go.RowKit
theorem divSaid_all (x a : Nat) (ha : a < 18446744073709551616) (hx : x < a * 18446744073709551616) : DivSaid x a := by
  have h0 : 0 < a := by
    rcases Nat.eq_zero_or_pos a with h | h
    · subst h; omega
    · exact h
  by_cases hh : x < 18446744073709551616
  · exact divSaid_low x a hh ha h0
  · intro w
    have hhi : x / 18446744073709551616 < a := (Nat.div_lt_iff_lt_mul (by decide)).2 hx
    have hl : x % 18446744073709551616 < 18446744073709551616 := Nat.mod_lt _ (by decide)
    have e : x / 18446744073709551616 * 18446744073709551616 + x % 18446744073709551616 = x := by omega
    have h := div64_high (x / 18446744073709551616) (x % 18446744073709551616) a (Nat.div_pos (Nat.le_of_not_lt hh) (by decide)) hhi hl ha w
    rw [e] at h
    exact h.mono fun e w' h => ⟨⟨_, h.1⟩, h.2⟩
theorem div_ok {n : Int} {ws : List Int} (hg : good ws = true) (ht : total ws ≠ 0) (hn : may n = true) (j : Nat) : DivSaid (n.natAbs * (ws.getD j 0).toNat) (total ws).toNat := by
  have h1 := good_total hg
  have h2 := good_at hg j
  have h3 := good_le hg j
  have h4 := may_bd hn
  refine divSaid_all _ _ (by omega) ?_
  have h5 : n.natAbs * (ws.getD j 0).toNat ≤ 10000000000000 * (total ws).toNat := Nat.mul_le_mul (by omega) (by omega)
  omega
theorem sumTo_add (f g : Nat → Int) (k : Nat) : sumTo (fun j => f j + g j) k = sumTo f k + sumTo g k := by
  induction k with
  | zero => rfl
  | succ k ih => simp only [sumTo, ih]; omega
theorem sumTo_mul (c : Int) (f : Nat → Int) (k : Nat) : sumTo (fun j => c * f j) k = c * sumTo f k := by
  induction k with
  | zero => simp [sumTo]
  | succ k ih => simp only [sumTo, ih, Int.mul_add]
theorem sumTo_congr {f g : Nat → Int} (k : Nat) (h : ∀ j, j < k → f j = g j) : sumTo f k = sumTo g k := by
  induction k with
  | zero => rfl
  | succ k ih =>
    simp only [sumTo]
    rw [ih (fun j hj => h j (by omega)), h k (by omega)]
theorem total_take (zs : List Int) (k : Nat) (h : k ≤ zs.length) : total (zs.take k) = sumTo (fun j => zs.getD j 0) k := by
  induction k with
  | zero => simp [total, sumTo]
  | succ k ih => rw [total_take_succ zs k (by omega), ih (by omega)]; rfl
theorem total_sumTo (zs : List Int) : total zs = sumTo (fun j => zs.getD j 0) zs.length := by
  rw [← total_take zs zs.length (Nat.le_refl _), List.take_length]
theorem total_range (f : Nat → Int) (k : Nat) : total ((List.range k).map f) = sumTo f k := by
  induction k with
  | zero => rfl
  | succ k ih => rw [List.range_succ, List.map_append, total_append, ih]; simp [total, sumTo]
/-- What the shares leave over, all together, times the sum of all weights: the rests of the divisions. -/
theorem left_rests (n : Int) (ws : List Int) : total ws * leftOf n ws = sumTo (fun j => (n * ws.getD j 0).tmod (total ws)) ws.length := by
  have e1 : sumTo (fun j => n * ws.getD j 0) ws.length = n * total ws := by rw [sumTo_mul, ← total_sumTo]
  have e2 : sumTo (fun j => n * ws.getD j 0) ws.length = sumTo (fun j => total ws * sh n ws j + (n * ws.getD j 0).tmod (total ws)) ws.length :=
    sumTo_congr _ (fun j _ => by unfold sh; exact (Int.mul_tdiv_add_tmod _ _).symm)
  rw [e1, sumTo_add, sumTo_mul] at e2
  unfold leftOf
  rw [Int.mul_sub, Int.mul_comm (total ws) n]
  omega
theorem rest_bd {n v T : Int} (hT : 0 < T) (hn : 0 ≤ n) (hv : 0 ≤ v) : 0 ≤ (n * v).tmod T ∧ (n * v).tmod T ≤ T - 1 := by
  have h := Int.mul_nonneg hn hv
  have h2 := Int.tmod_lt_of_pos (n * v) hT
  exact ⟨Int.tmod_nonneg T h, by omega⟩
theorem rest_neg {n v T : Int} (hT : 0 < T) (hn : n ≤ 0) (hv : 0 ≤ v) : -(T - 1) ≤ (n * v).tmod T ∧ (n * v).tmod T ≤ 0 := by
  have h := rest_bd (n := -n) (v := v) hT (by omega) hv
  rw [Int.neg_mul, Int.neg_tmod] at h
  omega
theorem sum_up {f : Nat → Int} {ws : List Int} {B : Int} (h : ∀ j, j < ws.length → 0 ≤ f j ∧ f j ≤ B) (hz : ∀ j, j < ws.length → ws.getD j 0 = 0 → f j = 0) (k : Nat) (hk : k ≤ ws.length) :
    0 ≤ sumTo f k ∧ sumTo f k ≤ B * (nz ws k : Int) := by
  induction k with
  | zero => simp [sumTo, nz]
  | succ k ih =>
    have i1 := ih (by omega)
    have i2 := h k (by omega)
    show 0 ≤ sumTo f k + f k ∧ sumTo f k + f k ≤ B * (nz ws (k + 1) : Int)
    by_cases hw : ws.getD k 0 = 0
    · rw [nz_no (by omega) hw, hz k (by omega) hw]; omega
    · rw [nz_yes (by omega) hw, show ((nz ws k + 1 : Nat) : Int) = (nz ws k : Int) + 1 from by omega, Int.mul_add]
      omega
theorem le_of_scaled {T a : Int} {b : Nat} (hT : 0 < T) (h : T * a ≤ (T - 1) * (b : Int)) : a ≤ (b : Int) := by
  by_cases hab : a ≤ (b : Int)
  · exact hab
  · exfalso
    have h1 : T * ((b : Int) + 1) ≤ T * a := Int.mul_le_mul_of_nonneg_left (by omega) (by omega)
    rw [Int.mul_add] at h1
    rw [Int.sub_mul] at h
    omega
/-- What is left has n's sign, and is no more than there are weights that are not 0. -/
theorem left_up {n : Int} {ws : List Int} (hg : good ws = true) (ht : total ws ≠ 0) (hn : 0 ≤ n) : 0 ≤ leftOf n ws ∧ leftOf n ws ≤ (nz ws ws.length : Int) := by
  have hT : 0 < total ws := by have := (good_total hg).1; omega
  have e := left_rests n ws
  have b := sum_up (f := fun j => (n * ws.getD j 0).tmod (total ws)) (ws := ws) (B := total ws - 1) (fun j _ => rest_bd hT hn (good_at hg j).1)
    (fun j _ hz => by show (n * ws.getD j 0).tmod _ = 0; rw [hz, Int.mul_zero, Int.zero_tmod]) ws.length (Nat.le_refl _)
  rw [← e] at b
  refine ⟨?_, le_of_scaled hT b.2⟩
  exact Int.nonneg_of_mul_nonneg_right b.1 hT
theorem sumTo_neg (f : Nat → Int) (k : Nat) : sumTo (fun j => -f j) k = -sumTo f k := by
  induction k with
  | zero => rfl
  | succ k ih => simp only [sumTo, ih]; omega
theorem sh_neg (n : Int) (ws : List Int) (j : Nat) : sh (-n) ws j = -sh n ws j := by
  unfold sh; rw [Int.neg_mul, Int.neg_tdiv]
theorem leftOf_neg (n : Int) (ws : List Int) : leftOf (-n) ws = -leftOf n ws := by
  unfold leftOf
  rw [sumTo_congr (g := fun j => -sh n ws j) _ (fun j _ => sh_neg n ws j), sumTo_neg]
  omega
theorem left_bd {n : Int} {ws : List Int} (hg : good ws = true) (ht : total ws ≠ 0) : (leftOf n ws).natAbs ≤ nz ws ws.length ∧ (0 ≤ n → 0 ≤ leftOf n ws) ∧ (n ≤ 0 → leftOf n ws ≤ 0) := by
  by_cases hn : 0 ≤ n
  · have h := left_up hg ht hn
    refine ⟨by omega, fun _ => h.1, fun h0 => ?_⟩
    have : n = 0 := by omega
    subst this
    have h2 := left_up (n := -0) hg ht (by omega)
    rw [leftOf_neg] at h2
    omega
  · have h := left_up (n := -n) hg ht (by omega)
    rw [leftOf_neg] at h
    exact ⟨by omega, fun h0 => absurd h0 hn, fun _ => by omega⟩
theorem sum_give (ps : Nat → Int) (ws : List Int) (L : Nat) (s : Int) (K k : Nat) (hk : k ≤ K) (hK : K ≤ ws.length) :
    sumTo (giveAt ps ws L s K) k = sumTo ps k + s * (min (nz ws k) L : Nat) := by
  induction k with
  | zero => simp [sumTo, nz]
  | succ k ih =>
    show sumTo (giveAt ps ws L s K) k + giveAt ps ws L s K k = sumTo ps k + ps k + s * (min (nz ws (k + 1)) L : Nat)
    rw [ih (by omega)]
    unfold giveAt
    by_cases hw : ws.getD k 0 = 0
    · rw [nz_no (by omega) hw, if_neg (fun c => c.2.1 hw)]; omega
    · rw [nz_yes (by omega) hw]
      by_cases hL : nz ws k < L
      · rw [if_pos ⟨by omega, hw, hL⟩, show min (nz ws k + 1) L = nz ws k + 1 from by omega, show min (nz ws k) L = nz ws k from by omega, show ((nz ws k + 1 : Nat) : Int) = (nz ws k : Int) + 1 from by omega, Int.mul_add]
        omega
      · rw [if_neg (fun c => hL c.2.2), show min (nz ws k + 1) L = L from by omega, show min (nz ws k) L = L from by omega]
        omega
/-- The row that Split has made, as a row. -/
theorem Own.asRow {w wr : World} {P len cap : Nat} {f : Nat → Int} (h : Own w wr P len f) (hm : len ≤ maxLen) (hf : ∀ j, In64 (f j)) : Row wr (.slice (some ⟨P, 0, none⟩) len cap) ((List.range len).map f) := by
  by_cases h0 : len = 0
  · subst h0; exact Or.inl ⟨_, cap, rfl, rfl⟩
  · refine Or.inr ⟨P, 0, cap, by simp, by simp; omega, by simpa using hm, fun j hj => ?_, fun z hz => ?_⟩
    · have hj' : j < len := by simpa using hj
      rw [Nat.zero_add, h.row.cell hj']
      simp [List.getD, hj']
    · obtain ⟨j, _, rfl⟩ := List.mem_map.1 hz
      exact hf j
def partL (n : Int) (ws : List Int) : List Int := (List.range ws.length).map (part n ws)
theorem part_in64 {n : Int} {ws : List Int} (hg : good ws = true) (hn : may n = true) (j : Nat) : In64 (part n ws j) := by
  have h := sh_bd hg hn j
  have hs : sgn (leftOf n ws) = 1 ∨ sgn (leftOf n ws) = -1 := by unfold sgn; split <;> simp
  unfold part giveAt
  generalize sgn (leftOf n ws) = s at hs
  split <;> exact ⟨by omega, by omega⟩
/-- Split, where it splits: a new row, the parts. -/
theorem split_yes (n : Int) (v : Value) (ws : List Int) (w : World) (h : Row w v ws) (hg : good ws = true) (ht : total ws ≠ 0) (hn : may n = true)
    (hd : ∀ j, j < ws.length → DivSaid (n.natAbs * (ws.getD j 0).toNat) (total ws).toNat) :
    Calls Try.prog 55 #[.int .i64 n, v] w fun e w' => ∃ u, e = .returned (.tuple #[u, .int .i64 0]) ∧ Row w' u (partL n ws) ∧ Below w.heap.size w w' := by
  have h' := h
  rcases h' with ⟨a, c, rfl, rfl⟩ | ⟨b, off, c, rfl, h0, hm, hc, hin⟩
  · exact absurd rfl ht
  · refine (split_row n b off c ws w hg ht hn hc h hd).mono fun e w' h => ⟨_, h.1, h.2.asRow hm (part_in64 hg hn), h.2.below⟩
/-- The parts are the whole, all together. -/
theorem parts_total {n : Int} {ws : List Int} (hg : good ws = true) (ht : total ws ≠ 0) : total (partL n ws) = n := by
  have hb := (left_bd (n := n) hg ht).1
  unfold partL
  rw [total_range]
  have e := sum_give (sh n ws) ws (leftOf n ws).natAbs (sgn (leftOf n ws)) ws.length ws.length (Nat.le_refl _) (Nat.le_refl _)
  rw [show min (nz ws ws.length) (leftOf n ws).natAbs = (leftOf n ws).natAbs from by omega] at e
  have e2 : sgn (leftOf n ws) * ((leftOf n ws).natAbs : Int) = leftOf n ws := by
    unfold sgn; split <;> omega
  rw [e2] at e
  show sumTo (giveAt (sh n ws) ws (leftOf n ws).natAbs (sgn (leftOf n ws)) ws.length) ws.length = n
  rw [e]
  unfold leftOf
  omega
theorem part_zero {n : Int} {ws : List Int} {j : Nat} (h : ws.getD j 0 = 0) : part n ws j = 0 := by
  unfold part giveAt
  rw [if_neg (fun c => c.2.1 h)]
  unfold sh
  rw [h, Int.mul_zero, Int.zero_tdiv]
  rfl
theorem part_up {n : Int} {ws : List Int} (hg : good ws = true) (ht : total ws ≠ 0) (hn : 0 ≤ n) (j : Nat) : 0 ≤ part n ws j := by
  have h1 := (left_bd (n := n) hg ht).2.1 hn
  have h2 : 0 ≤ sh n ws j := by
    unfold sh
    exact Int.tdiv_nonneg (Int.mul_nonneg hn (good_at hg j).1) (good_total hg).1
  have hs : sgn (leftOf n ws) = 1 := by unfold sgn; rw [if_neg (by omega)]
  unfold part giveAt
  rw [hs]
  split <;> omega
theorem part_down {n : Int} {ws : List Int} (hg : good ws = true) (ht : total ws ≠ 0) (hn : n ≤ 0) (j : Nat) : part n ws j ≤ 0 := by
  have h1 := (left_bd (n := n) hg ht).2.2 hn
  have h2 : sh n ws j ≤ 0 := by
    have := sh_neg (-n) ws j
    rw [Int.neg_neg] at this
    rw [this]
    have h3 : 0 ≤ sh (-n) ws j := by
      unfold sh
      exact Int.tdiv_nonneg (Int.mul_nonneg (by omega) (good_at hg j).1) (good_total hg).1
    omega
  unfold part giveAt
  by_cases h0 : leftOf n ws < 0
  · have hs : sgn (leftOf n ws) = -1 := by unfold sgn; rw [if_pos h0]
    rw [hs]; split <;> omega
  · have : leftOf n ws = 0 := by omega
    rw [this, if_neg (by simp)]; omega
theorem part_like {n : Int} {ws : List Int} {i j : Nat} (h : ws.getD i 0 = ws.getD j 0) : part n ws i - part n ws j ≤ 1 ∧ part n ws j - part n ws i ≤ 1 := by
  have hs : sh n ws i = sh n ws j := by unfold sh; rw [h]
  have hg : sgn (leftOf n ws) = 1 ∨ sgn (leftOf n ws) = -1 := by unfold sgn; split <;> simp
  unfold part giveAt
  rw [hs]
  generalize sgn (leftOf n ws) = s at hg
  split <;> split <;> omega
theorem part_bd {n : Int} {ws : List Int} (hg : good ws = true) (hn : may n = true) (j : Nat) : -10000000000001 ≤ part n ws j ∧ part n ws j ≤ 10000000000001 := by
  have h := sh_bd hg hn j
  have hs : sgn (leftOf n ws) = 1 ∨ sgn (leftOf n ws) = -1 := by unfold sgn; split <;> simp
  unfold part giveAt
  generalize sgn (leftOf n ws) = s at hs
  split <;> omega
end Go.Proofs.Ytgnhnffmojjncaa.Mn
