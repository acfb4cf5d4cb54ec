/- What money's smallest functions answer, at every number of 64 bits. -/
import Derived.Test.YtgnhnffmojjncaaMRow
import Derived.WalkKit
import Derived.WalkSpells
namespace Go.Proofs.Ytgnhnffmojjncaa.Mn
open Go.RowKit
theorem may_any (a : Int) (w : World) :
    Calls Try.prog 63 #[.int .i64 a] w fun e w' => e = .returned (.bool (may a)) ∧ w = w' := by
  by_cases h0 : -10000000000000 ≤ a
  · by_cases h1 : a ≤ 10000000000000
    · rw [show may a = true from by simp [may, h0, h1]]
      go_enter Try.func63, Try.ntmps63
      go_wp2
      go_ret
      exact ⟨rfl, rfl⟩
    · rw [show may a = false from by simp [may, h1]]
      go_enter Try.func63, Try.ntmps63
      go_wp2
      go_ret
      exact ⟨rfl, rfl⟩
  · rw [show may a = false from by simp [may, h0]]
    go_enter Try.func63, Try.ntmps63
    go_wp2
    go_ret
    exact ⟨rfl, rfl⟩
theorem rmay_any (a : Int) (w : World) :
    Calls Try.prog 36 #[.int .i64 a] w fun e w' => e = .returned (.bool (may a)) ∧ w = w' := by
  by_cases h0 : -10000000000000 ≤ a
  · by_cases h1 : a ≤ 10000000000000
    · rw [show may a = true from by simp [may, h0, h1]]
      go_enter Try.func36, Try.ntmps36
      go_wp2
      go_ret
      exact ⟨rfl, rfl⟩
    · rw [show may a = false from by simp [may, h1]]
      go_enter Try.func36, Try.ntmps36
      go_wp2
      go_ret
      exact ⟨rfl, rfl⟩
  · rw [show may a = false from by simp [may, h0]]
    go_enter Try.func36, Try.ntmps36
    go_wp2
    go_ret
    exact ⟨rfl, rfl⟩
def total : List Int → Int
  | [] => 0
  | z :: r => z + total r
theorem total_append (l m : List Int) : total (l ++ m) = total l + total m := by
  induction l with
  | nil => simp [total]
  | cons z r ih => simp [total, ih]; omega
theorem total_take_succ (zs : List Int) (k : Nat) (h : k < zs.length) : total (zs.take (k + 1)) = total (zs.take k) + zs.getD k 0 := by
  rw [List.take_succ_eq_append_getElem h, total_append]
  simp [total, List.getD, h]
theorem wrap_wrap (n z : Int) : wrap64 (wrap64 n + z) = wrap64 (n + z) := by
  unfold wrap64; omega
/-- Div64 answers q at the halves H, L and the divisor a. -/
def DivAt (H L a q : Nat) : Prop := ∀ w : World, Calls Try.prog 60 #[.int .u64 H, .int .u64 L, .int .u64 a] w fun e w' => (∃ r : Int, e = .returned (.tuple #[.int .u64 q, .int .u64 r])) ∧ ∃ n, w' = w.drewN n
def MulAt (m v H L : Nat) : Prop := ∀ w : World, Calls Try.prog 53 #[.int .u64 m, .int .u64 v] w fun e w' => e = .returned (.tuple #[.int .u64 H, .int .u64 L]) ∧ w = w'
/-- Div64 answers the quotient of x (its two halves handed in) by a. -/
def DivSaid (x a : Nat) : Prop := DivAt (x / 18446744073709551616) (x % 18446744073709551616) a (x / a)
theorem divSaid_low (x a : Nat) (hx : x < 18446744073709551616) (ha : a < 18446744073709551616) (h0 : 0 < a) : DivSaid x a := by
  intro w
  rw [Nat.div_eq_of_lt hx, Nat.mod_eq_of_lt hx]
  exact (div64_low x a hx ha h0 w).mono fun e w' h => ⟨⟨_, h.1⟩, h.2⟩
set_option maxHeartbeats 400000 in
theorem share_pos' (m v a H L q : Nat) (hm : m ≤ 10000000000000) (hv : v ≤ 10000000000000) (ha : a ≤ 6000000000000000) (hq : q ≤ 10000000000000) (h64 : MulAt m v H L) (hd : DivAt H L a q) (w : World) :
    Calls Try.prog 64 #[.int .i64 m, .int .i64 v, .int .i64 a] w fun e w' => e = .returned (.int .i64 q) ∧ ∃ n, w' = w.drewN n := by
  go_enter Try.func64, Try.ntmps64
  go_wp2_with fail
  refine (h64 _).mono ?_
  rintro e w' ⟨rfl, rfl⟩
  go_wp2_with fail
  refine (hd _).mono ?_
  rintro e w' ⟨⟨r, rfl⟩, n, rfl⟩
  go_wp2_with fail
  go_ret
  exact ⟨rfl, n, rfl⟩
set_option maxHeartbeats 400000 in
theorem share_neg' (m v a H L q : Nat) (h0 : 0 < m) (hm : m ≤ 10000000000000) (hv : v ≤ 10000000000000) (ha : a ≤ 6000000000000000) (hq : q ≤ 10000000000000) (h64 : MulAt m v H L) (hd : DivAt H L a q) (w : World) :
    Calls Try.prog 64 #[.int .i64 (-(m : Int)), .int .i64 v, .int .i64 a] w fun e w' => e = .returned (.int .i64 (-(q : Int))) ∧ ∃ n, w' = w.drewN n := by
  have hlt : -(m : Int) < 0 := by omega
  go_enter Try.func64, Try.ntmps64
  go_wp2_with fail
  refine (h64 _).mono ?_
  rintro e w' ⟨rfl, rfl⟩
  go_wp2_with fail
  refine (hd _).mono ?_
  rintro e w' ⟨⟨r, rfl⟩, n, rfl⟩
  go_wp2_with fail
  go_ret
  exact ⟨rfl, n, rfl⟩
/-- The share of a weight: n times it, divided by all, towards 0. -/
theorem share_any (n v a : Int) (hn : may n = true) (hv0 : 0 ≤ v) (hv : v ≤ 10000000000000) (hva : v ≤ a) (ha0 : 0 < a) (ha : a ≤ 6000000000000000) (hd : DivSaid (n.natAbs * v.toNat) a.toNat) (w : World) :
    Calls Try.prog 64 #[.int .i64 n, .int .i64 v, .int .i64 a] w fun e w' => e = .returned (.int .i64 ((n * v).tdiv a)) ∧ ∃ k, w' = w.drewN k := by
  have hn' : -10000000000000 ≤ n ∧ n ≤ 10000000000000 := by simpa [may] using hn
  obtain ⟨V, rfl⟩ := Int.eq_ofNat_of_zero_le hv0
  obtain ⟨A, rfl⟩ := Int.eq_ofNat_of_zero_le (Int.le_of_lt ha0)
  rw [Int.toNat_natCast, Int.toNat_natCast] at hd
  have hq : ∀ m : Nat, m ≤ 10000000000000 → m * V / A ≤ 10000000000000 := by
    intro m hm
    refine Nat.le_trans (Nat.div_le_of_le_mul ?_) hm
    rw [Nat.mul_comm A]; exact Nat.mul_le_mul_left m (by omega)
  have h64 : ∀ m : Nat, m ≤ 10000000000000 → MulAt m V (m * V / 18446744073709551616) (m * V % 18446744073709551616) := fun m hm w => mul64_any m V (by omega) (by omega) w
  by_cases h0 : n < 0
  · obtain ⟨m, hm⟩ : ∃ m : Nat, n = -(m : Int) := ⟨n.natAbs, by omega⟩
    subst hm
    rw [show (-(m : Int)).natAbs = m from by omega] at hd
    rw [Int.neg_mul, Int.neg_tdiv, ← Int.natCast_mul, ← Int.ofNat_tdiv]
    exact share_neg' m V A _ _ _ (by omega) (by omega) (by omega) (by omega) (hq m (by omega)) (h64 m (by omega)) hd w
  · obtain ⟨m, rfl⟩ := Int.eq_ofNat_of_zero_le (Int.not_lt.1 h0)
    rw [Int.natAbs_natCast] at hd
    rw [← Int.natCast_mul, ← Int.ofNat_tdiv]
    exact share_pos' m V A _ _ _ (by omega) (by omega) (by omega) (hq m (by omega)) (h64 m (by omega)) hd w
end Go.Proofs.Ytgnhnffmojjncaa.Mn
