/- Numbers out of bytes: the program. -/
import Derived.Test.YtfahgphkceilkaaNn
namespace Go.Proofs.Ytfahgphkceilkaa
open Go.RowKit
set_option linter.unusedVariables false
set_option linter.unusedSimpArgs false
set_option maxHeartbeats 1000000 in
theorem num_int (v : Value) (xs : List Nat) (w : World) (h : RowG 1 w v (bys xs)) (hb : Bytes xs) (hm : xs.length ≤ 8) : Calls Try.prog 32 #[v] w fun e w' => e = .returned (.int .i64 (wrap64 (valB xs : Nat))) ∧ w' = w := by
  rcases rowB_cases h with ⟨a, cap, rfl, rfl, _⟩ | ⟨b, off, cap, rfl, _, hc, _, hx⟩
  · go_enter Try.func32, Try.ntmps32
    go_wp2_with fail
    refine wp_loop_rounds 1 ?_
    rw [rounds_succ]
    go_wp2_with fail
    go_ret
    exact ⟨by simp [valB, wrap64], rfl⟩
  · have HX := hide hx
    have HV := hide (fun i h => val_back xs (i := i) h)
    have HP := hide (fun m h => val_part hb m h)
    have HB := hide (fun k => getD_lt hb k)
    have H0 : Hid (xs.drop (xs.length - 0) = []) := hide (by rw [Nat.sub_zero, List.drop_length])
    have HA : Hid (xs.drop (xs.length - xs.length) = xs) := hide (by rw [Nat.sub_self, List.drop_zero])
    clear hx h hb hc
    generalize hl : xs.length = len at *
    go_enter Try.func32, Try.ntmps32
    go_wp2_with fail
    go_loopw [3, 8] (fun n i wr => ∃ k z : Nat, k ≤ len ∧ i = .int .i64 k ∧ n = .int .i64 (wrap64 (z : Int)) ∧ Hid (wr = w) ∧ Hid (z = valB (xs.drop (len - k)))) (fun _ i _ => len - (intOf i).toNat)
    case atStart => exact ⟨0, 0, by omega, rfl, by simp [wrap64], hide rfl, hide (by rw [unhide H0]; rfl)⟩
    case round =>
      obtain ⟨k, z, hk, rfl, rfl, HW, HZ⟩ := hrel
      have hww := unhide HW
      subst hww
      clear HW
      by_cases hlt : k < len
      · have k1 : (k : Int) < (len : Int) := by omega
        have hc := unhide HX (len - 1 - k) (by omega)
        have hcb := unhide HB (len - 1 - k)
        have HZ2 := hide (unhide HV k hlt)
        rw [← unhide HZ] at HZ2
        have HZ3 := hide (unhide HP (k + 1) (by omega))
        generalize xs.getD (len - 1 - k) 0 = c at *
        obtain ⟨hw1, hw2⟩ := at_back hlt (Nat.le_trans hm (by decide))
        have hj : len - 1 - k < len := by omega
        have hj2 : ((len - 1 - k : Nat) : Int) < (len : Int) := by omega
        have hor := i64_or_low (wrap64 (z : Int)) c hcb
        have hfin := up_i64 z c
        generalize wrap64 (z : Int) = y at *
        generalize hj3 : len - 1 - k = j at *
        clear HZ HX HV HP HB
        go_wp2_with fail
        go_roundw
        case rel => exact ⟨k + 1, c + 256 * z, by omega, by go_num, by first | (simp [hfin]; done) | (congr 1; omega), by first | exact hide rfl | exact hide trivial, hide (unhide HZ2).symm⟩
        case measure => simp [intOf]; omega
      · obtain rfl : k = len := by omega
        rw [unhide HA] at HZ
        have hz := unhide HZ
        subst hz
        go_wp2_with fail
        go_ret
        exact ⟨rfl, rfl⟩
set_option maxHeartbeats 1000000 in
theorem num_i64 (v : Value) (xs : List Nat) (w : World) (h : RowG 1 w v (bys xs)) (hb : Bytes xs) (hm : xs.length ≤ 8) : Calls Try.prog 39 #[v] w fun e w' => e = .returned (.int .i64 (wrap64 (valB xs : Nat))) ∧ w' = w := by
  rcases rowB_cases h with ⟨a, cap, rfl, rfl, _⟩ | ⟨b, off, cap, rfl, _, hc, _, hx⟩
  · go_enter Try.func39, Try.ntmps39
    go_wp2_with fail
    refine wp_loop_rounds 1 ?_
    rw [rounds_succ]
    go_wp2_with fail
    go_ret
    exact ⟨by simp [valB, wrap64], rfl⟩
  · have HX := hide hx
    have HV := hide (fun i h => val_back xs (i := i) h)
    have HP := hide (fun m h => val_part hb m h)
    have HB := hide (fun k => getD_lt hb k)
    have H0 : Hid (xs.drop (xs.length - 0) = []) := hide (by rw [Nat.sub_zero, List.drop_length])
    have HA : Hid (xs.drop (xs.length - xs.length) = xs) := hide (by rw [Nat.sub_self, List.drop_zero])
    clear hx h hb hc
    generalize hl : xs.length = len at *
    go_enter Try.func39, Try.ntmps39
    go_wp2_with fail
    go_loopw [3, 8] (fun n i wr => ∃ k z : Nat, k ≤ len ∧ i = .int .i64 k ∧ n = .int .i64 (wrap64 (z : Int)) ∧ Hid (wr = w) ∧ Hid (z = valB (xs.drop (len - k)))) (fun _ i _ => len - (intOf i).toNat)
    case atStart => exact ⟨0, 0, by omega, rfl, by simp [wrap64], hide rfl, hide (by rw [unhide H0]; rfl)⟩
    case round =>
      obtain ⟨k, z, hk, rfl, rfl, HW, HZ⟩ := hrel
      have hww := unhide HW
      subst hww
      clear HW
      by_cases hlt : k < len
      · have k1 : (k : Int) < (len : Int) := by omega
        have hc := unhide HX (len - 1 - k) (by omega)
        have hcb := unhide HB (len - 1 - k)
        have HZ2 := hide (unhide HV k hlt)
        rw [← unhide HZ] at HZ2
        have HZ3 := hide (unhide HP (k + 1) (by omega))
        generalize xs.getD (len - 1 - k) 0 = c at *
        obtain ⟨hw1, hw2⟩ := at_back hlt (Nat.le_trans hm (by decide))
        have hj : len - 1 - k < len := by omega
        have hj2 : ((len - 1 - k : Nat) : Int) < (len : Int) := by omega
        have hor := i64_or_low (wrap64 (z : Int)) c hcb
        have hfin := up_i64 z c
        generalize wrap64 (z : Int) = y at *
        generalize hj3 : len - 1 - k = j at *
        clear HZ HX HV HP HB
        go_wp2_with fail
        go_roundw
        case rel => exact ⟨k + 1, c + 256 * z, by omega, by go_num, by first | (simp [hfin]; done) | (congr 1; omega), by first | exact hide rfl | exact hide trivial, hide (unhide HZ2).symm⟩
        case measure => simp [intOf]; omega
      · obtain rfl : k = len := by omega
        rw [unhide HA] at HZ
        have hz := unhide HZ
        subst hz
        go_wp2_with fail
        go_ret
        exact ⟨rfl, rfl⟩
set_option maxHeartbeats 1000000 in
theorem num_u32 (v : Value) (xs : List Nat) (w : World) (h : RowG 1 w v (bys xs)) (hb : Bytes xs) (hm : xs.length ≤ 4) : Calls Try.prog 38 #[v] w fun e w' => e = .returned (.int .u32 (valB xs : Nat)) ∧ w' = w := by
  rcases rowB_cases h with ⟨a, cap, rfl, rfl, _⟩ | ⟨b, off, cap, rfl, _, hc, _, hx⟩
  · go_enter Try.func38, Try.ntmps38
    go_wp2_with fail
    refine wp_loop_rounds 1 ?_
    rw [rounds_succ]
    go_wp2_with fail
    go_ret
    exact ⟨by simp [valB, wrap64], rfl⟩
  · have HX := hide hx
    have HV := hide (fun i h => val_back xs (i := i) h)
    have HP := hide (fun m h => val_part hb m h)
    have HB := hide (fun k => getD_lt hb k)
    have H0 : Hid (xs.drop (xs.length - 0) = []) := hide (by rw [Nat.sub_zero, List.drop_length])
    have HA : Hid (xs.drop (xs.length - xs.length) = xs) := hide (by rw [Nat.sub_self, List.drop_zero])
    clear hx h hb hc
    generalize hl : xs.length = len at *
    go_enter Try.func38, Try.ntmps38
    go_wp2_with fail
    go_loopw [3, 8] (fun n i wr => ∃ k z : Nat, k ≤ len ∧ i = .int .i64 k ∧ n = .int .u32 (z : Int) ∧ Hid (wr = w) ∧ Hid (z = valB (xs.drop (len - k)))) (fun _ i _ => len - (intOf i).toNat)
    case atStart => exact ⟨0, 0, by omega, rfl, by simp [wrap64], hide rfl, hide (by rw [unhide H0]; rfl)⟩
    case round =>
      obtain ⟨k, z, hk, rfl, rfl, HW, HZ⟩ := hrel
      have hww := unhide HW
      subst hww
      clear HW
      by_cases hlt : k < len
      · have k1 : (k : Int) < (len : Int) := by omega
        have hc := unhide HX (len - 1 - k) (by omega)
        have hcb := unhide HB (len - 1 - k)
        have HZ2 := hide (unhide HV k hlt)
        rw [← unhide HZ] at HZ2
        have HZ3 := hide (unhide HP (k + 1) (by omega))
        generalize xs.getD (len - 1 - k) 0 = c at *
        obtain ⟨hw1, hw2⟩ := at_back hlt (Nat.le_trans hm (by decide))
        have hj : len - 1 - k < len := by omega
        have hj2 : ((len - 1 - k : Nat) : Int) < (len : Int) := by omega
        have hzl : z * 256 < 4294967296 := by
          have e := unhide HZ2
          have p := unhide HZ3
          have q : 256 ^ (k + 1) ≤ 256 ^ 4 := Nat.pow_le_pow_right (by decide) (by omega)
          have q2 : 256 ^ 4 = 4294967296 := by decide
          omega
        have hsh := sh_u32 hzl
        have hor := u32_or_low z c hcb hzl
        have hfin : ((z * 256 + c : Nat) : Int) = ((c + 256 * z : Nat) : Int) := by omega
        generalize hzz : z * 256 = y at *
        generalize hj3 : len - 1 - k = j at *
        clear HZ HX HV HP HB
        go_wp2_with fail
        go_roundw
        case rel => exact ⟨k + 1, c + 256 * z, by omega, by go_num, by first | (congr 1; done) | (congr 1; omega), by first | exact hide rfl | exact hide trivial, hide (unhide HZ2).symm⟩
        case measure => simp [intOf]; omega
      · obtain rfl : k = len := by omega
        rw [unhide HA] at HZ
        have hz := unhide HZ
        subst hz
        go_wp2_with fail
        go_ret
        exact ⟨rfl, rfl⟩
end Go.Proofs.Ytfahgphkceilkaa
