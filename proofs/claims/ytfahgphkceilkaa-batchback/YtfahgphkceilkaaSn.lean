/- The check sum of the document. -/
import Derived.Test.YtfahgphkceilkaaSm
namespace Go.Proofs.Ytfahgphkceilkaa
open Go.RowKit
set_option linter.unusedVariables false
set_option linter.unusedSimpArgs false
set_option maxHeartbeats 1000000 in
theorem rsum_any (v : Value) (xs : List Nat) (w : World) (h : RowG 1 w v (bys xs)) (hb : Bytes xs) : Calls Try.prog 17 #[v] w fun e w' => e = .returned (.int .u32 (crcSum xs : Nat)) ∧ w' = w := by
  rcases rowB_cases h with ⟨a, cap, rfl, rfl, _⟩ | ⟨b, off, cap, rfl, _, hc, _, hx⟩
  · go_enter Try.func17, Try.ntmps17
    go_wp2_with fail
    refine wp_loop_rounds 1 ?_
    rw [rounds_succ]
    go_wp2_with fail
    go_ret
    exact ⟨by rfl, rfl⟩
  · have HX := hide hx
    have HB := hide (fun k => getD_lt hb k)
    have HC := hide (fun k => crc_b hb k)
    have HK := hide (fun k h => crc_take 4294967295 xs (k := k) h)
    have HA := hide (crcSum_take xs)
    have hcm : xs.length ≤ maxLen := by omega
    unfold maxLen at hcm
    clear hx h hb hc
    generalize hl : xs.length = len at *
    go_enter Try.func17, Try.ntmps17
    go_wp2_with fail
    go_loopw [3, 10] (fun n i wr => ∃ k z : Nat, k ≤ len ∧ i = .int .i64 k ∧ n = .int .u32 (z : Int) ∧ Hid (wr = w) ∧ Hid (z = crc 4294967295 (xs.take k))) (fun _ i _ => len - (intOf i).toNat)
    case atStart => exact ⟨0, 4294967295, by omega, rfl, rfl, hide rfl, hide rfl⟩
    case round =>
      obtain ⟨k, z, hk, rfl, rfl, HW, HZ⟩ := hrel
      have hww := unhide HW
      subst hww
      clear HW
      by_cases hlt : k < len
      · have k1 : (k : Int) < (len : Int) := by omega
        have hc := unhide HX k hlt
        have hcb := unhide HB k
        have HZ2 := hide (unhide HK k hlt)
        rw [← unhide HZ] at HZ2
        have hzl : z < 4294967296 := by rw [unhide HZ]; exact unhide HC k
        generalize xs.getD k 0 = c at *
        have hc4 : (c : Int) % 4294967296 = (c : Int) := by omega
        have Hcb := hide hcb
        have Hzl := hide hzl
        clear HZ HX HB HC HK hzl hcb
        go_wp2_with fail
        go_loopw [3, 6] (fun n i wq => ∃ j y : Nat, j ≤ 8 ∧ i = .int .i64 j ∧ n = .int .u32 (y : Int) ∧ Hid (wq = wr) ∧ Hid (y ^^^ c / 2 ^ j = steps j (z ^^^ c)) ∧ Hid (y < 4294967296)) (fun _ i _ => 8 - (intOf i).toNat)
        case atStart => exact ⟨0, z, by omega, rfl, rfl, hide rfl, hide (by simp [steps]), Hzl⟩
        case round =>
          obtain ⟨j, y, hj, rfl, rfl, HW, HY, Hyl⟩ := hrel
          have hww := unhide HW
          subst hww
          clear HW
          by_cases hjl : j < 8
          · have k2 : (j : Int) < 8 := by omega
            obtain ⟨q1, q2⟩ := ref_step y c j (unhide Hyl) (unhide Hcb) hjl
            obtain ⟨a1, a2⟩ := and_one q2
            obtain ⟨b1, b2⟩ := ref_next (z := y) (c := c) (j := j) (unhide Hyl)
            have HN : Hid (step (y ^^^ c / 2 ^ j) = steps (j + 1) (z ^^^ c)) := hide (by rw [unhide HY, steps_next])
            have hw3 : IntKind.u64.wrap (j : Int) = (j : Int) := by rw [IntKind.wrap_u64]; omega
            have hmn : min j 32 = j := by omega
            by_cases hp : (y ^^^ c / 2 ^ j) % 2 = 1
            · have a3 := a1 hp
              obtain ⟨b3, b4⟩ := b1 hp
              have HN2 := hide (b3.trans (unhide HN))
              have Hl2 := hide (xor_lt32 (unhide Hyl))
              generalize y ^^^ c / 2 ^ j = t at *
              generalize y / 2 ^^^ 3988292384 = t2 at *
              clear a1 a2 b1 b2 b3 HN HY hp q2
              go_wp2_with fail
              go_roundw
              case rel => exact ⟨j + 1, t2, by omega, by go_num, by first | rfl | (congr 1; done), by first | exact hide rfl | exact hide trivial, HN2, Hl2⟩
              case measure => simp [intOf]; omega
            · have a3 := a2 hp
              have HN2 := hide ((b2 hp).trans (unhide HN))
              have Hl2 : Hid (y / 2 < 4294967296) := hide (by have := unhide Hyl; omega)
              have hcast : ((y : Int) / 2) = ((y / 2 : Nat) : Int) := by omega
              generalize y ^^^ c / 2 ^ j = t at *
              generalize y / 2 = t2 at *
              clear a1 a2 b1 b2 HN HY hp q2
              go_wp2_with fail
              go_roundw
              case rel => exact ⟨j + 1, t2, by omega, by go_num, by first | rfl | (congr 1; done) | (congr 1; omega), by first | exact hide rfl | exact hide trivial, HN2, Hl2⟩
              case measure => simp [intOf]; omega
          · obtain rfl : j = 8 := by omega
            have h0 : c / 2 ^ 8 = 0 := Nat.div_eq_of_lt (unhide Hcb)
            have HZ3 : Hid (y = crc 4294967295 (xs.take (k + 1))) := hide (by
              have := unhide HY
              rw [h0, Nat.xor_zero] at this
              exact this.trans (unhide HZ2).symm)
            clear HY HZ2 h0
            go_wp2_with fail
            go_roundw
            case rel => exact ⟨k + 1, y, by omega, by go_num, by first | rfl | (congr 1; done), by first | exact hide rfl | exact hide trivial, HZ3⟩
            case measure => simp [intOf]; omega
      · obtain rfl : k = len := by omega
        have hzl : z < 4294967296 := by rw [unhide HZ]; exact unhide HC k
        have hx2 := xor_all hzl
        rw [unhide HZ, unhide HA, ← unhide HZ] at hx2
        go_wp2_with fail
        go_ret
        exact ⟨by first | (rw [← hx2]; done) | (rw [← hx2]; rfl) | simp [hx2], rfl⟩
end Go.Proofs.Ytfahgphkceilkaa
