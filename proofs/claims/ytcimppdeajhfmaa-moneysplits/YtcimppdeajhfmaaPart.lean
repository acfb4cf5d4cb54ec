/- What the document's part answers: n times a weight, divided by a sum, towards 0. -/
import Derived.Test.YtcimppdeajhfmaaOpen
namespace Go.Proofs.Ytcimppdeajhfmaa
open Go.RowKit
theorem and_one (a : Nat) (ha : a < 9223372036854775808) : bits .and .i64 (a : Int) 1 = ((a % 2 : Nat) : Int) := by
  have h1 : (BitVec.ofInt 64 (a : Int)).toNat = a := by
    rw [BitVec.ofInt_natCast, BitVec.toNat_ofNat]; exact Nat.mod_eq_of_lt (by omega)
  have h2 : (BitVec.ofInt 64 1).toNat = 1 := by decide
  show IntKind.i64.wrap ((BitVec.ofInt 64 (a : Int) &&& BitVec.ofInt 64 1).toNat : Int) = _
  rw [BitVec.toNat_and, h1, h2, Nat.and_one_is_mod, IntKind.wrap_i64]
  omega
namespace Pt
theorem halves (n i : Nat) : n / 2 ^ i = n / 2 ^ (i + 1) * 2 + n / 2 ^ i % 2 := by
  rw [Nat.pow_succ, ← Nat.div_div_eq_div_mul]
  omega
theorem sum3 (q E d S : Nat) : (q * 2 + E + d) * S = q * S * 2 + E * S + d * S := by
  rw [Nat.add_mul, Nat.add_mul, Nat.mul_right_comm]
/-- One bit more: E carries. -/
theorem zero_ok {n v S i q r E r' : Nat} (HI : q * S + r = n / 2 ^ (i + 1) * v) (hb : n / 2 ^ i % 2 = 0) (hr : r * 2 = E * S + r') : (q * 2 + E) * S + r' = n / 2 ^ i * v := by
  have e := sum3 q E 0 S
  rw [Nat.zero_mul, Nat.add_zero, Nat.add_zero] at e
  rw [halves n i, hb, Nat.add_zero, Nat.mul_right_comm, ← HI, e]
  omega
theorem one_ok {n v S i q r d m E r' : Nat} (HI : q * S + r = n / 2 ^ (i + 1) * v) (hv : v = d * S + m) (hb : n / 2 ^ i % 2 = 1) (hr : r * 2 + m = E * S + r') : (q * 2 + E + d) * S + r' = n / 2 ^ i * v := by
  have e := sum3 q E d S
  rw [e, halves n i, hb, Nat.add_mul (n / 2 ^ (i + 1) * 2), Nat.one_mul, Nat.mul_right_comm (n / 2 ^ (i + 1)) 2 v, ← HI]
  omega
theorem low {n v S i q r : Nat} (h : q * S + r = n / 2 ^ i * v) (hv : v ≤ S) (hS : 0 < S) (hn : n ≤ 10000000000000) : q ≤ 10000000000000 := by
  have h1 : n / 2 ^ i ≤ n := Nat.div_le_self _ _
  have h2 : n / 2 ^ i * v ≤ n * S := Nat.mul_le_mul h1 hv
  have h3 : q * S ≤ n * S := by omega
  have := Nat.le_of_mul_le_mul_right h3 hS
  omega
end Pt
set_option maxHeartbeats 1000000 in
set_option maxRecDepth 100000 in
theorem rpart_up (n v S : Nat) (hn : n ≤ 10000000000000) (hv : v ≤ S) (hS0 : 0 < S) (hS : S ≤ 6000000000000000) (w : World) :
    Calls Try.prog 33 #[.int .i64 n, .int .i64 v, .int .i64 S] w fun e w' => e = .returned (.int .i64 ((n * v / S : Nat) : Int)) ∧ w = w' := by
  have t0 : decide ((n : Int) < 0) = false := by simp
  obtain ⟨X, hX⟩ : ∃ X : Nat, X = n * v / S := ⟨_, rfl⟩
  rw [← hX]
  have HX := hide hX
  clear hX
  obtain ⟨d, hd⟩ : ∃ d : Nat, d = v / S := ⟨_, rfl⟩
  obtain ⟨m, hm⟩ : ∃ m : Nat, m = v % S := ⟨_, rfl⟩
  have ed : (v : Int) / (S : Int) = (d : Int) := by rw [hd, Int.natCast_ediv]
  have em : (v : Int) % (S : Int) = (m : Int) := by rw [hm, Int.natCast_emod]
  have Hv : Hid (v = d * S + m) := hide (by rw [hd, hm, Nat.mul_comm]; exact (Nat.div_add_mod v S).symm)
  have bd : (d : Int) ≤ 1 := by
    have : v / S ≤ 1 := Nat.div_le_of_le_mul (by omega)
    omega
  have bm : (m : Int) < (S : Int) := by
    have : v % S < S := Nat.mod_lt _ hS0
    omega
  have Hvs := hide hv
  clear hd hm hv
  go_enter Try.func33, Try.ntmps33
  go_wp2_with fail
  go_loop [7, 8, 9] (fun a c d => ∃ j q r : Nat, j ≤ 63 ∧ d = .int .i64 ((j : Int) - 1) ∧ a = .int .i64 q ∧ c = .int .i64 r ∧ r < S ∧ q ≤ 10000000000000 ∧ Hid (q * S + r = n / 2 ^ j * v)) (fun _ _ d => (intOf d + 1).toNat)
  case atStart => exact ⟨63, 0, 0, by omega, by rfl, by rfl, by rfl, hS0, by omega, hide (by rw [Nat.div_eq_of_lt (by omega)]; simp)⟩
  case round =>
    obtain ⟨j, q, r, hj, rfl, rfl, rfl, hr, hq, HI⟩ := hrel
    by_cases hj0 : j = 0
    · subst hj0
      have HF : Hid (q = X) := hide (by
        rw [unhide HX]
        have h := unhide HI
        rw [Nat.pow_zero, Nat.div_one] at h
        rw [← h, Nat.mul_comm, Nat.mul_add_div hS0, Nat.div_eq_of_lt hr, Nat.add_zero])
      go_wp2_with fail
      go_ret
      exact ⟨ret_int (by rw [← unhide HF]), rfl⟩
    · obtain ⟨i, rfl⟩ : ∃ i : Nat, j = i + 1 := ⟨j - 1, by omega⟩
      have ei : ((i + 1 : Nat) : Int) - 1 = (i : Int) := by omega
      rw [ei]
      have eb : bits .and .i64 ((n : Int) / 2 ^ i) 1 = ((n / 2 ^ i % 2 : Nat) : Int) := by
        rw [shr_nat, and_one _ (Nat.lt_of_le_of_lt (Nat.div_le_self _ _) (by omega))]
      clear hj0 ei
      by_cases hbit : n / 2 ^ i % 2 = 0
      · rw [hbit] at eb
        have Hbit := hide hbit
        clear hbit
        by_cases h1 : (S : Int) ≤ (r : Int) * 2
        · have K := Pt.zero_ok (E := 1) (r' := r * 2 - S) (unhide HI) (unhide Hbit) (by omega)
          have K2 := Pt.low K (unhide Hvs) hS0 hn
          have HK := hide K
          clear K
          go_wp2_with fail
          go_round
          case rel => exact ⟨i, q * 2 + 1, r * 2 - S, by omega, rfl, congrArg (Value.int .i64) (by omega), congrArg (Value.int .i64) (by omega), by omega, K2, HK⟩
          case measure => simp [intOf]
        · have K := Pt.zero_ok (E := 0) (r' := r * 2) (unhide HI) (unhide Hbit) (by omega)
          have K2 := Pt.low K (unhide Hvs) hS0 hn
          have HK := hide K
          clear K
          go_wp2_with fail
          go_round
          case rel => exact ⟨i, q * 2 + 0, r * 2, by omega, rfl, congrArg (Value.int .i64) (by omega), congrArg (Value.int .i64) (by omega), by omega, K2, HK⟩
          case measure => simp [intOf]
      · have hbit1 : n / 2 ^ i % 2 = 1 := by omega
        rw [hbit1] at eb
        have Hbit := hide hbit1
        clear hbit hbit1
        by_cases h1 : (S : Int) ≤ (r : Int) * 2
        · by_cases h2 : (S : Int) ≤ (r : Int) * 2 - (S : Int) + (m : Int)
          · have K := Pt.one_ok (E := 2) (r' := r * 2 + m - 2 * S) (unhide HI) (unhide Hv) (unhide Hbit) (by omega)
            have K2 := Pt.low K (unhide Hvs) hS0 hn
            have HK := hide K
            clear K
            go_wp2_with fail
            go_round
            case rel => exact ⟨i, q * 2 + 2 + d, r * 2 + m - 2 * S, by omega, rfl, congrArg (Value.int .i64) (by omega), congrArg (Value.int .i64) (by omega), by omega, K2, HK⟩
            case measure => simp [intOf]
          · have K := Pt.one_ok (E := 1) (r' := r * 2 + m - S) (unhide HI) (unhide Hv) (unhide Hbit) (by omega)
            have K2 := Pt.low K (unhide Hvs) hS0 hn
            have HK := hide K
            clear K
            go_wp2_with fail
            go_round
            case rel => exact ⟨i, q * 2 + 1 + d, r * 2 + m - S, by omega, rfl, congrArg (Value.int .i64) (by omega), congrArg (Value.int .i64) (by omega), by omega, K2, HK⟩
            case measure => simp [intOf]
        · by_cases h2 : (S : Int) ≤ (r : Int) * 2 + (m : Int)
          · have K := Pt.one_ok (E := 1) (r' := r * 2 + m - S) (unhide HI) (unhide Hv) (unhide Hbit) (by omega)
            have K2 := Pt.low K (unhide Hvs) hS0 hn
            have HK := hide K
            clear K
            go_wp2_with fail
            go_round
            case rel => exact ⟨i, q * 2 + 1 + d, r * 2 + m - S, by omega, rfl, congrArg (Value.int .i64) (by omega), congrArg (Value.int .i64) (by omega), by omega, K2, HK⟩
            case measure => simp [intOf]
          · have K := Pt.one_ok (E := 0) (r' := r * 2 + m) (unhide HI) (unhide Hv) (unhide Hbit) (by omega)
            have K2 := Pt.low K (unhide Hvs) hS0 hn
            have HK := hide K
            clear K
            go_wp2_with fail
            go_round
            case rel => exact ⟨i, q * 2 + 0 + d, r * 2 + m, by omega, rfl, congrArg (Value.int .i64) (by omega), congrArg (Value.int .i64) (by omega), by omega, K2, HK⟩
            case measure => simp [intOf]
set_option maxHeartbeats 400000 in
theorem rpart_down (m v S X : Nat) (h0 : 0 < m) (hm : m ≤ 10000000000000) (hX : X ≤ 10000000000000)
    (hp : ∀ w : World, Calls Try.prog 33 #[.int .i64 m, .int .i64 v, .int .i64 S] w fun e w' => e = .returned (.int .i64 X) ∧ w = w') (w : World) :
    Calls Try.prog 33 #[.int .i64 (-(m : Int)), .int .i64 v, .int .i64 S] w fun e w' => e = .returned (.int .i64 (-(X : Int))) ∧ w = w' := by
  have HP := hide hp
  clear hp
  have hlt : -(m : Int) < 0 := by omega
  have e2 : - -(m : Int) = (m : Int) := by omega
  go_enter Try.func33, Try.ntmps33
  go_wp2_with fail
  refine (unhide HP _).mono ?_
  rintro e w' ⟨rfl, rfl⟩
  go_wp2_with fail
  go_ret
  exact ⟨rfl, rfl⟩
/-- part, at any amount that may be. -/
theorem rpart_any (n v S : Int) (hn : may n = true) (hv0 : 0 ≤ v) (hv : v ≤ S) (hS0 : 0 < S) (hS : S ≤ 6000000000000000) (w : World) :
    Calls Try.prog 33 #[.int .i64 n, .int .i64 v, .int .i64 S] w fun e w' => e = .returned (.int .i64 ((n * v).tdiv S)) ∧ w = w' := by
  have hn' := may_bd hn
  obtain ⟨V, rfl⟩ := Int.eq_ofNat_of_zero_le hv0
  obtain ⟨A, rfl⟩ := Int.eq_ofNat_of_zero_le (Int.le_of_lt hS0)
  have hq : ∀ m : Nat, m ≤ 10000000000000 → m * V / A ≤ 10000000000000 := by
    intro m hm
    refine Nat.le_trans (Nat.div_le_of_le_mul ?_) hm
    rw [Nat.mul_comm A]; exact Nat.mul_le_mul_left m (by omega)
  by_cases h0 : n < 0
  · obtain ⟨m, hm⟩ : ∃ m : Nat, n = -(m : Int) := ⟨n.natAbs, by omega⟩
    subst hm
    rw [Int.neg_mul, Int.neg_tdiv, ← Int.natCast_mul, ← Int.ofNat_tdiv]
    exact rpart_down m V A _ (by omega) (by omega) (hq m (by omega)) (rpart_up m V A (by omega) (by omega) (by omega) (by omega)) w
  · obtain ⟨m, rfl⟩ := Int.eq_ofNat_of_zero_le (Int.not_lt.1 h0)
    rw [← Int.natCast_mul, ← Int.ofNat_tdiv]
    exact rpart_up m V A (by omega) (by omega) (by omega) (by omega) w
end Go.Proofs.Ytcimppdeajhfmaa
