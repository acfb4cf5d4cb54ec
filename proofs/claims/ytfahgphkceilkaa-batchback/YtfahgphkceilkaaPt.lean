/- A number is put behind bytes. -/
import Derived.Test.YtfahgphkceilkaaBy
import Derived.Test.YtfahgphkceilkaaBp
namespace Go.Proofs.Ytfahgphkceilkaa
open Go.RowKit
set_option linter.unusedVariables false
set_option linter.unusedSimpArgs false
set_option maxHeartbeats 1000000 in
theorem put_int (v0 : Value) (xs : List Nat) (n : Int) (s : Nat) (w w0 : World) (hG : GrowG 5 1 w w0 v0 (bys xs)) (hs : s ≤ 8) (hl : xs.length ≤ 100000) : Calls Try.prog 23 #[v0, .int .i64 n, .int .i64 s] w0 fun e w' => ∃ u, e = .returned u ∧ GrowG 5 1 w w' u (bys (xs ++ numI s n)) ∧ Spare w0 v0 w' u := by
  have HG := hide hG
  have HS := hide (Spare.refl w0 v0)
  clear hG
  go_enter Try.func23, Try.ntmps23
  go_wp2_with fail
  go_loopw [0, 1, 8] (fun b m i wr => ∃ (k : Nat) (ys : List Nat) (z : Int), k ≤ s ∧ i = .int .i64 k ∧ m = .int .i64 z ∧ Hid (GrowG 5 1 w wr b (bys ys)) ∧ Hid (Spare w0 v0 wr b) ∧ Hid (ys ++ numI (s - k) z = xs ++ numI s n) ∧ Hid (ys.length = xs.length + k)) (fun _ _ i _ => s - (intOf i).toNat)
  case atStart => exact ⟨0, xs, n, by omega, rfl, rfl, HG, HS, hide rfl, hide rfl⟩
  case round =>
    clear HG HS
    obtain ⟨k, ys, z, hk, rfl, rfl, HG, HS, HE, HL⟩ := hrel
    by_cases hlt : k < s
    · have k1 : (k : Int) < (s : Int) := by omega
      have HC : Hid (z % 256 = ((z % 256).toNat : Nat)) := hide (by omega)
      have HE2 : Hid ((ys ++ [(z % 256).toNat]) ++ numI (s - (k + 1)) (z / 256) = xs ++ numI s n) := hide (by
        rw [← unhide HE, show s - k = (s - (k + 1)) + 1 by omega, List.append_assoc]
        rfl)
      generalize hc : (z % 256).toNat = c at *
      clear hc
      have HR := hide (row_new wr [c] (by simp) (by simp [maxLen]) #[.int .u8 (c : Int)] rfl)
      have HG2 := hide ((unhide HG).alloc (.cells #[.int .u8 (c : Int)] 5))
      have HS2 := hide ((unhide HS).trans (Spare.alloc wr _ (.cells #[.int .u8 (c : Int)] 5)))
      have HL2 : Hid (ys.length + [c].length ≤ 1000000) := hide (by have := unhide HL; simp; omega)
      rw [← unhide HC] at HR HG2 HS2
      clear HG HS
      go_wp2_with (at_builtin; refine pushB rfl _ _ rfl w _ _ _ ys [c] (unhide HG2) rfl rfl (by simpa [Act.eval, Act.put] using unhide HR) (unhide HL2) ?_)
      intro v' w2 hG2 hS2
      replace hG2 := hide hG2
      have hS3 := hide ((unhide HS2).trans hS2)
      clear HG2 HS2 HR hS2
      go_wp2_with fail
      go_roundw
      case rel => exact ⟨k + 1, ys ++ [c], z / 256, by omega, by go_num, rfl, hG2, hS3, HE2, hide (by rw [List.length_append, unhide HL]; simp; omega)⟩
      case measure => simp [intOf]; omega
    · obtain rfl : k = s := by omega
      have HE2 : Hid (ys = xs ++ numI k n) := hide (by
        have := unhide HE
        rw [Nat.sub_self] at this
        simpa [numI] using this)
      clear HE
      go_wp2_with fail
      go_ret
      exact ⟨_, rfl, by rw [← unhide HE2]; exact unhide HG, unhide HS⟩
set_option maxHeartbeats 1000000 in
theorem put_i64 (v0 : Value) (xs : List Nat) (n : Int) (s : Nat) (w w0 : World) (hG : GrowG 5 1 w w0 v0 (bys xs)) (hs : s ≤ 8) (hl : xs.length ≤ 100000) : Calls Try.prog 24 #[v0, .int .i64 n, .int .i64 s] w0 fun e w' => ∃ u, e = .returned u ∧ GrowG 5 1 w w' u (bys (xs ++ numI s n)) ∧ Spare w0 v0 w' u := by
  have HG := hide hG
  have HS := hide (Spare.refl w0 v0)
  clear hG
  go_enter Try.func24, Try.ntmps24
  go_wp2_with fail
  go_loopw [0, 1, 8] (fun b m i wr => ∃ (k : Nat) (ys : List Nat) (z : Int), k ≤ s ∧ i = .int .i64 k ∧ m = .int .i64 z ∧ Hid (GrowG 5 1 w wr b (bys ys)) ∧ Hid (Spare w0 v0 wr b) ∧ Hid (ys ++ numI (s - k) z = xs ++ numI s n) ∧ Hid (ys.length = xs.length + k)) (fun _ _ i _ => s - (intOf i).toNat)
  case atStart => exact ⟨0, xs, n, by omega, rfl, rfl, HG, HS, hide rfl, hide rfl⟩
  case round =>
    clear HG HS
    obtain ⟨k, ys, z, hk, rfl, rfl, HG, HS, HE, HL⟩ := hrel
    by_cases hlt : k < s
    · have k1 : (k : Int) < (s : Int) := by omega
      have HC : Hid (z % 256 = ((z % 256).toNat : Nat)) := hide (by omega)
      have HE2 : Hid ((ys ++ [(z % 256).toNat]) ++ numI (s - (k + 1)) (z / 256) = xs ++ numI s n) := hide (by
        rw [← unhide HE, show s - k = (s - (k + 1)) + 1 by omega, List.append_assoc]
        rfl)
      generalize hc : (z % 256).toNat = c at *
      clear hc
      have HR := hide (row_new wr [c] (by simp) (by simp [maxLen]) #[.int .u8 (c : Int)] rfl)
      have HG2 := hide ((unhide HG).alloc (.cells #[.int .u8 (c : Int)] 5))
      have HS2 := hide ((unhide HS).trans (Spare.alloc wr _ (.cells #[.int .u8 (c : Int)] 5)))
      have HL2 : Hid (ys.length + [c].length ≤ 1000000) := hide (by have := unhide HL; simp; omega)
      rw [← unhide HC] at HR HG2 HS2
      clear HG HS
      go_wp2_with (at_builtin; refine pushB rfl _ _ rfl w _ _ _ ys [c] (unhide HG2) rfl rfl (by simpa [Act.eval, Act.put] using unhide HR) (unhide HL2) ?_)
      intro v' w2 hG2 hS2
      replace hG2 := hide hG2
      have hS3 := hide ((unhide HS2).trans hS2)
      clear HG2 HS2 HR hS2
      go_wp2_with fail
      go_roundw
      case rel => exact ⟨k + 1, ys ++ [c], z / 256, by omega, by go_num, rfl, hG2, hS3, HE2, hide (by rw [List.length_append, unhide HL]; simp; omega)⟩
      case measure => simp [intOf]; omega
    · obtain rfl : k = s := by omega
      have HE2 : Hid (ys = xs ++ numI k n) := hide (by
        have := unhide HE
        rw [Nat.sub_self] at this
        simpa [numI] using this)
      clear HE
      go_wp2_with fail
      go_ret
      exact ⟨_, rfl, by rw [← unhide HE2]; exact unhide HG, unhide HS⟩
set_option maxHeartbeats 1000000 in
theorem put_u32 (v0 : Value) (xs : List Nat) (n : Int) (s : Nat) (w w0 : World) (hG : GrowG 5 1 w w0 v0 (bys xs)) (hs : s ≤ 8) (hl : xs.length ≤ 100000) : Calls Try.prog 25 #[v0, .int .u32 n, .int .i64 s] w0 fun e w' => ∃ u, e = .returned u ∧ GrowG 5 1 w w' u (bys (xs ++ numI s n)) ∧ Spare w0 v0 w' u := by
  have HG := hide hG
  have HS := hide (Spare.refl w0 v0)
  clear hG
  go_enter Try.func25, Try.ntmps25
  go_wp2_with fail
  go_loopw [0, 1, 8] (fun b m i wr => ∃ (k : Nat) (ys : List Nat) (z : Int), k ≤ s ∧ i = .int .i64 k ∧ m = .int .u32 z ∧ Hid (GrowG 5 1 w wr b (bys ys)) ∧ Hid (Spare w0 v0 wr b) ∧ Hid (ys ++ numI (s - k) z = xs ++ numI s n) ∧ Hid (ys.length = xs.length + k)) (fun _ _ i _ => s - (intOf i).toNat)
  case atStart => exact ⟨0, xs, n, by omega, rfl, rfl, HG, HS, hide rfl, hide rfl⟩
  case round =>
    clear HG HS
    obtain ⟨k, ys, z, hk, rfl, rfl, HG, HS, HE, HL⟩ := hrel
    by_cases hlt : k < s
    · have k1 : (k : Int) < (s : Int) := by omega
      have HC : Hid (z % 256 = ((z % 256).toNat : Nat)) := hide (by omega)
      have HE2 : Hid ((ys ++ [(z % 256).toNat]) ++ numI (s - (k + 1)) (z / 256) = xs ++ numI s n) := hide (by
        rw [← unhide HE, show s - k = (s - (k + 1)) + 1 by omega, List.append_assoc]
        rfl)
      generalize hc : (z % 256).toNat = c at *
      clear hc
      have HR := hide (row_new wr [c] (by simp) (by simp [maxLen]) #[.int .u8 (c : Int)] rfl)
      have HG2 := hide ((unhide HG).alloc (.cells #[.int .u8 (c : Int)] 5))
      have HS2 := hide ((unhide HS).trans (Spare.alloc wr _ (.cells #[.int .u8 (c : Int)] 5)))
      have HL2 : Hid (ys.length + [c].length ≤ 1000000) := hide (by have := unhide HL; simp; omega)
      rw [← unhide HC] at HR HG2 HS2
      clear HG HS
      go_wp2_with (at_builtin; refine pushB rfl _ _ rfl w _ _ _ ys [c] (unhide HG2) rfl rfl (by simpa [Act.eval, Act.put] using unhide HR) (unhide HL2) ?_)
      intro v' w2 hG2 hS2
      replace hG2 := hide hG2
      have hS3 := hide ((unhide HS2).trans hS2)
      clear HG2 HS2 HR hS2
      go_wp2_with fail
      go_roundw
      case rel => exact ⟨k + 1, ys ++ [c], z / 256, by omega, by go_num, rfl, hG2, hS3, HE2, hide (by rw [List.length_append, unhide HL]; simp; omega)⟩
      case measure => simp [intOf]; omega
    · obtain rfl : k = s := by omega
      have HE2 : Hid (ys = xs ++ numI k n) := hide (by
        have := unhide HE
        rw [Nat.sub_self] at this
        simpa [numI] using this)
      clear HE
      go_wp2_with fail
      go_ret
      exact ⟨_, rfl, by rw [← unhide HE2]; exact unhide HG, unhide HS⟩
end Go.Proofs.Ytfahgphkceilkaa
