/- Numbers and bytes: the document. -/
import Derived.Test.YtfahgphkceilkaaNn
namespace Go.Proofs.Ytfahgphkceilkaa
open Go.RowKit
set_option linter.unusedVariables false
set_option linter.unusedSimpArgs false
theorem numB_next (k n : Nat) : numB (k + 1) n = numB k n ++ [n / 256 ^ k % 256] := by
  induction k generalizing n with
  | zero => simp [numB]
  | succ k ih =>
    rw [numB, ih]
    simp only [numB, List.cons_append, Nat.div_div_eq_div_mul]
    rw [Nat.pow_succ, Nat.mul_comm 256]
theorem valB_append (l m : List Nat) : valB (l ++ m) = valB l + 256 ^ l.length * valB m := by
  induction l with
  | nil => simp [valB]
  | cons c r ih =>
    rw [List.cons_append, valB, ih, valB, List.length_cons, Nat.pow_succ, Nat.mul_comm (256 ^ r.length) 256, Nat.mul_add, Nat.mul_assoc]
    omega
theorem val_take (xs : List Nat) {k : Nat} (h : k < xs.length) : valB (xs.take (k + 1)) = valB (xs.take k) + xs.getD k 0 * 256 ^ k := by
  rw [← take_getD (d := 0) h, valB_append, List.length_take, show min k xs.length = k by omega]
  simp [valB, Nat.mul_comm]
theorem pow_8 (j : Nat) : 2 ^ (8 * j) = 256 ^ j := by rw [Nat.pow_mul]
theorem pow_8i (j : Nat) : (2 : Int) ^ (8 * j) = ((256 ^ j : Nat) : Int) := by rw [← pow_8]; simp
theorem byte_at (n j : Nat) : ((n : Int) / (2 : Int) ^ (8 * j) % 256) = ((n / 256 ^ j % 256 : Nat) : Int) := by
  rw [pow_8i]
  omega
theorem sh_facts {k : Nat} (h : k < 8) : IntKind.i64.wrap (8 * (k : Int)) = 8 * (k : Int) ∧ IntKind.u64.wrap (8 * (k : Int)) = 8 * (k : Int) ∧ (8 * (k : Int)).toNat = 8 * k ∧ min (8 * k) 64 = 8 * k ∧ ¬ 8 * (k : Int) < 0 := by
  refine ⟨wrap_in' ⟨by omega, by omega⟩, ?_, by omega, by omega, by omega⟩
  rw [IntKind.wrap_u64]
  omega
set_option maxHeartbeats 1000000 in
theorem rnum_any (n s : Nat) (w : World) (hs : s ≤ 8) : Calls Try.prog 27 #[.int .u64 (n : Int), .int .i64 (s : Int)] w fun e w' => ∃ u, e = .returned u ∧ GrowG 5 1 w w' u (bys (numB s n)) := by
  have HN := hide (fun k => numB_next k n)
  have HL := hide (fun k => numB_len k n)
  go_enter Try.func27, Try.ntmps27
  go_wp2_with fail
  go_loopw [5, 6] (fun o i wr => ∃ k : Nat, k ≤ s ∧ i = .int .i64 (k : Int) ∧ Hid (GrowG 5 1 w wr o (bys (numB k n)))) (fun _ i _ => s - (intOf i).toNat)
  case atStart => exact ⟨0, by omega, rfl, hide (GrowG.nil _ _ _ _ (Below.refl _ _))⟩
  case round =>
    obtain ⟨k, hk, rfl, HG⟩ := hrel
    by_cases hlt : k < s
    · have k1 : (k : Int) < (s : Int) := by omega
      obtain ⟨s1, s2, s3, s4, s5⟩ := sh_facts (show k < 8 by omega)
      have HC := hide (byte_at n k)
      have Hn := hide (unhide HN k)
      have HL1 := unhide HL k
      generalize numB k n = ys at *
      generalize hzs : numB (k + 1) n = zs at *
      have HZS := hide hzs
      clear hzs
      generalize n / 256 ^ k % 256 = c at *
      have HR := hide (row_new wr [c] (by simp) (by simp [maxLen]) #[.int .u8 (c : Int)] rfl)
      have HG2 := hide ((unhide HG).alloc (.cells #[.int .u8 (c : Int)] 5))
      have HL2 : Hid (ys.length + [c].length ≤ 1000000) := hide (by simp; omega)
      rw [← unhide HC] at HR HG2
      clear HG HL1
      go_wp2_with (at_builtin; refine pushB rfl _ _ rfl w _ _ _ ys [c] (unhide HG2) rfl rfl (by simpa [Act.eval, Act.put] using unhide HR) (unhide HL2) ?_)
      intro v' w2 hG2 hS2
      rw [← unhide Hn] at hG2
      replace hG2 := hide hG2
      clear HG2 HR hS2
      go_wp2_with fail
      go_roundw
      case rel => exact ⟨k + 1, by omega, by go_num, by rw [unhide HZS]; exact hG2⟩
      case measure => simp [intOf]; omega
    · obtain rfl : k = s := by omega
      go_wp2_with fail
      go_ret
      exact ⟨_, rfl, unhide HG⟩
theorem val_up {z c k : Nat} (h : z + c * 256 ^ k < 18446744073709551616) : IntKind.u64.wrap ((c : Int) * (2 : Int) ^ (8 * k)) = ((c * 256 ^ k : Nat) : Int) ∧ IntKind.u64.wrap ((z : Int) + ((c * 256 ^ k : Nat) : Int)) = ((z + c * 256 ^ k : Nat) : Int) := by
  have e : (c : Int) * (2 : Int) ^ (8 * k) = ((c * 256 ^ k : Nat) : Int) := by rw [pow_8i]; simp
  rw [e, IntKind.wrap_u64, IntKind.wrap_u64]
  generalize c * 256 ^ k = y at *
  omega
theorem val_bound {xs : List Nat} (hb : Bytes xs) (hm : xs.length ≤ 8) (k : Nat) : valB (xs.take k) < 18446744073709551616 := by
  have h := val_lt (l := xs.take k) (fun x hx => hb x (List.mem_of_mem_take hx))
  have h2 : 256 ^ (xs.take k).length ≤ 256 ^ 8 := Nat.pow_le_pow_right (by decide) (by rw [List.length_take]; omega)
  have h3 : 256 ^ 8 = 18446744073709551616 := by decide
  omega
set_option maxHeartbeats 1000000 in
theorem rval_any (v : Value) (xs : List Nat) (w : World) (h : RowG 1 w v (bys xs)) (hb : Bytes xs) (hm : xs.length ≤ 8) : Calls Try.prog 34 #[v] w fun e w' => e = .returned (.int .u64 (valB xs : Nat)) ∧ w' = w := by
  rcases rowB_cases h with ⟨a, cap, rfl, rfl, _⟩ | ⟨b, off, cap, rfl, _, hc, _, hx⟩
  · go_enter Try.func34, Try.ntmps34
    go_wp2_with fail
    refine wp_loop_rounds 1 ?_
    rw [rounds_succ]
    go_wp2_with fail
    go_ret
    exact ⟨rfl, rfl⟩
  · have HX := hide hx
    have HB := hide (fun k => getD_lt hb k)
    have HV := hide (fun k h => val_take xs (k := k) h)
    have HM := hide (fun k => val_bound hb hm k)
    have HA : Hid (xs.take xs.length = xs) := hide (List.take_length)
    clear hx h hb hc
    generalize hl : xs.length = len at *
    go_enter Try.func34, Try.ntmps34
    go_wp2_with fail
    go_loopw [3, 8] (fun n i wr => ∃ k z : Nat, k ≤ len ∧ i = .int .i64 k ∧ n = .int .u64 (z : Int) ∧ Hid (wr = w) ∧ Hid (z = valB (xs.take k))) (fun _ i _ => len - (intOf i).toNat)
    case atStart => exact ⟨0, 0, by omega, rfl, rfl, hide rfl, hide rfl⟩
    case round =>
      obtain ⟨k, z, hk, rfl, rfl, HW, HZ⟩ := hrel
      have hww := unhide HW
      subst hww
      clear HW
      by_cases hlt : k < len
      · have k1 : (k : Int) < (len : Int) := by omega
        have hc := unhide HX k hlt
        have hcb := unhide HB k
        have HZ2 := hide (unhide HV k hlt)
        have hM := unhide HM (k + 1)
        rw [unhide HZ2] at hM
        rw [← unhide HZ] at HZ2 hM
        generalize xs.getD k 0 = c at *
        obtain ⟨s1, s2, s3, s4, s5⟩ := sh_facts (show k < 8 by omega)
        obtain ⟨v1, v2⟩ := val_up hM
        have hc8 : (c : Int) % 18446744073709551616 = (c : Int) := by omega
        clear hM
        generalize c * 256 ^ k = y at *
        clear HX HB HM HV HZ
        go_wp2_with fail
        go_roundw
        case rel => exact ⟨k + 1, z + y, by omega, by go_num, by first | rfl | (congr 1; done) | (congr 1; omega), by first | exact hide rfl | exact hide trivial, hide (unhide HZ2).symm⟩
        case measure => simp [intOf]; omega
      · obtain rfl : k = len := by omega
        rw [unhide HA] at HZ
        have hz := unhide HZ
        subst hz
        go_wp2_with fail
        go_ret
        exact ⟨rfl, rfl⟩
end Go.Proofs.Ytfahgphkceilkaa
