/- The check sum. -/
import Derived.Test.YtfahgphkceilkaaNn
namespace Go.Proofs.Ytfahgphkceilkaa
open Go.RowKit
set_option linter.unusedVariables false
set_option linter.unusedSimpArgs false
theorem xor_all {z : Nat} (hz : z < 4294967296) : bits .xor .u32 (z : Int) 4294967295 = ((z ^^^ 4294967295 : Nat) : Int) := by
  have := u32_xor_nat z 4294967295 hz (by decide)
  exact this
theorem xor_not {z : Nat} (hz : z < 4294967296) : bits .xor .u32 IntKind.u32.max (z : Int) = ((z ^^^ 4294967295 : Nat) : Int) := by
  have := u32_xor_nat 4294967295 z (by decide) hz
  rw [Nat.xor_comm] at this
  exact this
theorem xor_byte {z c : Nat} (hz : z < 4294967296) (hc : c < 256) : bits .xor .u32 (z : Int) (c : Int) = ((z ^^^ c : Nat) : Int) := u32_xor_nat z c hz (by omega)
theorem crc_b {xs : List Nat} (hb : Bytes xs) (k : Nat) : crc 4294967295 (xs.take k) < 4294967296 := crc_lt (by decide) (fun x hx => hb x (List.mem_of_mem_take hx))
theorem xor_b {z c : Nat} (hz : z < 4294967296) (hc : c < 256) : z ^^^ c < 4294967296 := Nat.xor_lt_two_pow (n := 32) hz (by omega)
theorem crcSum_take (xs : List Nat) : crc 4294967295 (xs.take xs.length) ^^^ 4294967295 = crcSum xs := by rw [List.take_length]; rfl
/-- The document's bit: z is the state, c the byte, j bits of it done. -/
theorem ref_step (z c j : Nat) (hz : z < 4294967296) (hc : c < 256) (hj : j < 8) :
    bits .xor .u32 (z : Int) ((c : Int) / 2 ^ j) = ((z ^^^ c / 2 ^ j : Nat) : Int) ∧ z ^^^ c / 2 ^ j < 4294967296 := by
  have h1 : c / 2 ^ j < 256 := Nat.lt_of_le_of_lt (Nat.div_le_self _ _) hc
  have e : ((c : Int) / 2 ^ j) = ((c / 2 ^ j : Nat) : Int) := by simp
  rw [e]
  exact ⟨u32_xor_nat z _ hz (by omega), Nat.xor_lt_two_pow (n := 32) hz (by omega)⟩
theorem ref_next {z c j : Nat} (hz : z < 4294967296) : ((z ^^^ c / 2 ^ j) % 2 = 1 → (z / 2 ^^^ 3988292384) ^^^ c / 2 ^ (j + 1) = step (z ^^^ c / 2 ^ j) ∧ bits .xor .u32 ((z : Int) / 2) 3988292384 = ((z / 2 ^^^ 3988292384 : Nat) : Int)) ∧ (¬ (z ^^^ c / 2 ^ j) % 2 = 1 → z / 2 ^^^ c / 2 ^ (j + 1) = step (z ^^^ c / 2 ^ j)) := by
  have h := bit_step z c j
  refine ⟨fun p => ?_, fun p => ?_⟩
  · rw [if_pos p] at h
    refine ⟨h, ?_⟩
    exact u32_xor_nat (z / 2) 3988292384 (by omega) (by decide)
  · rw [if_neg p] at h
    exact h
theorem xor_lt32 {z : Nat} (hz : z < 4294967296) : z / 2 ^^^ 3988292384 < 4294967296 := Nat.xor_lt_two_pow (n := 32) (by omega) (by decide)
theorem and_one {z : Nat} (hz : z < 4294967296) : (z % 2 = 1 → bits .and .u32 (z : Int) 1 = 1) ∧ (¬ z % 2 = 1 → bits .and .u32 (z : Int) 1 = 0) := ⟨fun p => ((par_step z hz).1 p).1, fun p => ((par_step z hz).2 p).1⟩
set_option maxHeartbeats 1000000 in
theorem sum_any (v : Value) (xs : List Nat) (w : World) (h : RowG 1 w v (bys xs)) (hb : Bytes xs) : Calls Try.prog 16 #[v] w fun e w' => e = .returned (.int .u32 (crcSum xs : Nat)) ∧ w' = w := by
  rcases rowB_cases h with ⟨a, cap, rfl, rfl, _⟩ | ⟨b, off, cap, rfl, _, hc, _, hx⟩
  · go_enter Try.func16, Try.ntmps16
    go_wp2_with fail
    refine wp_loop_rounds 1 ?_
    rw [rounds_succ]
    go_wp2_with fail
    go_ret
    exact ⟨by rfl, rfl⟩
  · have HX := hide hx
    have HB := hide (fun k => getD_lt hb k)
    have HC := hide (fun k => crc_b hb k)
    have HK := hide (fun k h => crc_take 4294967295 xs (k := k) h)
    have HA := hide (crcSum_take xs)
    have hcm : xs.length ≤ maxLen := by omega
    unfold maxLen at hcm
    clear hx h hb hc
    generalize hl : xs.length = len at *
    go_enter Try.func16, Try.ntmps16
    go_wp2_with fail
    go_loopw [3, 8] (fun n i wr => ∃ k z : Nat, k ≤ len ∧ i = .int .i64 k ∧ n = .int .u32 (z : Int) ∧ Hid (wr = w) ∧ Hid (z = crc 4294967295 (xs.take k))) (fun _ i _ => len - (intOf i).toNat)
    case atStart => exact ⟨0, 4294967295, by omega, rfl, rfl, hide rfl, hide rfl⟩
    case round =>
      obtain ⟨k, z, hk, rfl, rfl, HW, HZ⟩ := hrel
      have hww := unhide HW
      subst hww
      clear HW
      by_cases hlt : k < len
      · have k1 : (k : Int) < (len : Int) := by omega
        have hc := unhide HX k hlt
        have hcb := unhide HB k
        have HZ2 := hide (unhide HK k hlt)
        rw [← unhide HZ] at HZ2
        have hzl : z < 4294967296 := by rw [unhide HZ]; exact unhide HC k
        generalize xs.getD k 0 = c at *
        have hx1 := xor_byte hzl hcb
        have hm := xor_b hzl hcb
        generalize z ^^^ c = m at *
        have Hm := hide hm
        clear HZ HX HB HC HK hm hzl
        go_wp2_with fail
        go_loopw [3, 16] (fun n i wq => ∃ j y : Nat, j ≤ 8 ∧ i = .int .i64 j ∧ n = .int .u32 (y : Int) ∧ Hid (wq = wr) ∧ Hid (y = steps j m)) (fun _ i _ => 8 - (intOf i).toNat)
        case atStart => exact ⟨0, m, by omega, rfl, by first | rfl | (congr 1; done), hide rfl, hide rfl⟩
        case round =>
          obtain ⟨j, y, hj, rfl, rfl, HW, HY⟩ := hrel
          have hww := unhide HW
          subst hww
          clear HW
          by_cases hjl : j < 8
          · have k2 : (j : Int) < 8 := by omega
            have HY2 : Hid (step y = steps (j + 1) m) := hide (by rw [unhide HY, steps_next])
            have hyl : y < 4294967296 := by rw [unhide HY]; exact steps_lt (unhide Hm)
            obtain ⟨p1, p2⟩ := par_step y hyl
            generalize step y = t at *
            clear HY hyl
            by_cases hp : y % 2 = 1
            · obtain ⟨q1, q2⟩ := p1 hp
              clear p1 p2 hp
              go_wp2_with fail
              go_roundw
              case rel => exact ⟨j + 1, t, by omega, by go_num, by first | rfl | (congr 1; done), by first | exact hide rfl | exact hide trivial, HY2⟩
              case measure => simp [intOf]; omega
            · obtain ⟨q1, q2⟩ := p2 hp
              clear p1 p2 hp
              go_wp2_with fail
              go_roundw
              case rel => exact ⟨j + 1, t, by omega, by go_num, by first | rfl | (congr 1; done), by first | exact hide rfl | exact hide trivial, HY2⟩
              case measure => simp [intOf]; omega
          · obtain rfl : j = 8 := by omega
            have HZ3 : Hid (y = crc 4294967295 (xs.take (k + 1))) := hide ((unhide HY).trans (unhide HZ2).symm)
            clear HY HZ2
            go_wp2_with fail
            go_roundw
            case rel => exact ⟨k + 1, y, by omega, by go_num, by first | rfl | (congr 1; done), by first | exact hide rfl | exact hide trivial, HZ3⟩
            case measure => simp [intOf]; omega
      · obtain rfl : k = len := by omega
        have hzl : z < 4294967296 := by rw [unhide HZ]; exact unhide HC k
        have hx2 := xor_not hzl
        rw [unhide HZ, unhide HA, ← unhide HZ] at hx2
        go_wp2_with fail
        go_ret
        exact ⟨by rw [← hx2]; rfl, rfl⟩
end Go.Proofs.Ytfahgphkceilkaa
