/- Whether bytes are put together as a batch is. -/
import Derived.Test.YtfahgphkceilkaaSl
import Derived.Deep.QuietTactic
import Derived.BigQuiet
namespace Go.Proofs.Ytfahgphkceilkaa
open Go.RowKit
set_option linter.unusedVariables false
set_option linter.unusedSimpArgs false
set_option maxHeartbeats 4000000 in
theorem cb_any (v : Value) (xs : List Nat) (w : World) (h : RowG 1 w v (bys xs)) (hb : Bytes xs) : Calls Try.prog 31 #[v] w fun e w' => e = .returned (.int .i64 (formE xs)) ∧ Below w.heap.size w w' := by
  by_cases h1 : xs.length < 15
  · obtain ⟨a, cap, rfl⟩ := rowG_slice h
    rw [bys_len]
    have HE := hide (show formE xs = 14 by unfold formE; rw [if_pos h1])
    generalize xs.length = n at *
    clear h
    go_enter Try.func31, Try.ntmps31
    go_wp2_with fail
    refine (size_any 0 _ (by decide)).mono ?_
    rintro r w2 ⟨rfl, rfl⟩
    go_wp2_with fail
    go_ret
    exact ⟨by rw [unhide HE]; rfl, Below.refl _ _⟩
  rcases rowB_cases h with ⟨_, _, rfl, rfl, _⟩ | ⟨b, off, cap, rfl, h0, hc, hm, hx⟩
  · exact absurd (by decide) h1
  have m0 := hx 0 h0
  have m1 := hx 1 (by omega)
  have m10 := hx 10 (by omega)
  have hl : 15 ≤ xs.length := by omega
  have hcm : xs.length ≤ 9223372036854775807 := by have : maxLen = 2 ^ 63 - 1 := rfl; omega
  rw [Nat.add_zero] at m0
  have g0 := getD_lt hb 0
  have g1 := getD_lt hb 1
  have g10 := getD_lt hb 10
  by_cases h2 : xs.getD 0 0 = 76
  case neg =>
    have HE := hide (show formE xs = 6 by unfold formE; rw [if_neg h1, if_pos (fun q => h2 q.1)])
    generalize xs.getD 0 0 = c0 at *
    have e2 : ¬ (c0 : Int) = 76 := by omega
    clear h hx hb
    generalize hn : xs.length = n at *
    go_enter Try.func31, Try.ntmps31
    go_wp2_with fail
    refine (size_any 0 _ (by decide)).mono ?_
    rintro r w2 ⟨rfl, rfl⟩
    go_wp2_with fail
    go_ret
    exact ⟨by rw [unhide HE]; rfl, Below.refl _ _⟩
  by_cases h3 : xs.getD 1 0 = 66
  case neg =>
    have HE := hide (show formE xs = 6 by unfold formE; rw [if_neg h1, if_pos (fun q => h3 q.2)])
    rw [h2] at m0
    generalize xs.getD 1 0 = c1 at *
    have e3 : ¬ (c1 : Int) = 66 := by omega
    clear h hx hb
    generalize hn : xs.length = n at *
    go_enter Try.func31, Try.ntmps31
    go_wp2_with fail
    refine (size_any 0 _ (by decide)).mono ?_
    rintro r w2 ⟨rfl, rfl⟩
    go_wp2_with fail
    go_ret
    exact ⟨by rw [unhide HE]; rfl, Below.refl _ _⟩
  rw [h2] at m0
  rw [h3] at m1
  by_cases h4 : xs.length < 15 + 9 * xs.getD 10 0
  · have HE := hide (show formE xs = 14 by unfold formE; rw [if_neg h1, if_neg (by rw [h2, h3]; simp), if_pos h4])
    generalize xs.getD 10 0 = c at *
    have HZ := hide (fun W => size_any c W (by omega))
    have e4 : (xs.length : Int) < 15 + 9 * (c : Int) := by omega
    clear h hx hb
    generalize hn : xs.length = n at *
    go_enter Try.func31, Try.ntmps31
    go_wp2_with fail
    refine (size_any 0 _ (by decide)).mono ?_
    rintro r w2 ⟨rfl, rfl⟩
    go_wp2_with fail
    refine (unhide HZ _).mono ?_
    rintro r w2 ⟨rfl, rfl⟩
    go_wp2_with fail
    go_ret
    exact ⟨by rw [unhide HE]; rfl, Below.refl _ _⟩
  by_cases h5 : 15 + 9 * xs.getD 10 0 < xs.length
  · have HE := hide (show formE xs = 6 by unfold formE; rw [if_neg h1, if_neg (by rw [h2, h3]; simp), if_neg h4, if_pos h5])
    generalize xs.getD 10 0 = c at *
    have HZ := hide (fun W => size_any c W (by omega))
    have e4 : ¬ (xs.length : Int) < 15 + 9 * (c : Int) := by omega
    have e5 : 15 + 9 * (c : Int) < (xs.length : Int) := by omega
    clear h hx hb
    generalize hn : xs.length = n at *
    go_enter Try.func31, Try.ntmps31
    go_wp2_with fail
    refine (size_any 0 _ (by decide)).mono ?_
    rintro r w2 ⟨rfl, rfl⟩
    go_wp2_with fail
    refine (unhide HZ _).mono ?_
    rintro r w2 ⟨rfl, rfl⟩
    go_wp2_with fail
    go_ret
    exact ⟨by rw [unhide HE]; rfl, Below.refl _ _⟩
  have HF := hide (show formE xs = if valB (xs.drop (xs.length - 4)) = crcSum (xs.take (xs.length - 4)) then 0 else 7 by unfold formE; rw [if_neg h1, if_neg (by rw [h2, h3]; simp), if_neg h4, if_neg h5])
  have HZ := hide (fun W => size_any (xs.getD 10 0) W (by omega))
  have HR1 := hide (fun W h => num_u32 (.slice (loA 1 (some ⟨b, off, none⟩) (xs.length - 4) cap) 4 (cap - (xs.length - 4))) (xs.drop (xs.length - 4)) W h (bytes_drop hb _) (by rw [List.length_drop]; omega))
  have HR2 := hide (fun W h => sum_any (.slice (some ⟨b, off, none⟩) (xs.length - 4) cap) (xs.take (xs.length - 4)) W h (bytes_take hb _))
  have HS1 := hide (rowB_lo h (show xs.length - 4 ≤ xs.length by omega))
  rw [show xs.length - (xs.length - 4) = 4 by omega] at HS1
  have HS2 := hide (rowB_hi h (show xs.length - 4 ≤ xs.length by omega))
  have e6 : (xs.length : Int) = 15 + 9 * (xs.getD 10 0 : Nat) := by omega
  generalize xs.getD 10 0 = c at *
  have e4 : ¬ (xs.length : Int) < 15 + 9 * (c : Int) := by omega
  have e5 : ¬ 15 + 9 * (c : Int) < (xs.length : Int) := by omega
  have e7 : IntKind.i64.wrap (15 + 9 * (c : Int) - 4) = ((xs.length - 4 : Nat) : Int) := by rw [wrap_in' ⟨by omega, by omega⟩]; omega
  have hs1 := fun W => sl_lo (some ⟨b, off, none⟩) xs.length cap (xs.length - 4) (by omega) W
  rw [show xs.length - (xs.length - 4) = 4 by omega] at hs1
  have hs2 := fun W => sl_hi (some ⟨b, off, none⟩) xs.length cap (xs.length - 4) (by omega) W
  generalize valB (xs.drop (xs.length - 4)) = A at *
  generalize crcSum (xs.take (xs.length - 4)) = B at *
  generalize hk4 : xs.length - 4 = k4 at *
  clear h hx hb e6
  generalize hn : xs.length = n at *
  by_cases hAB : A = B
  · subst hAB
    rw [if_pos rfl] at HF
    go_enter Try.func31, Try.ntmps31
    go_wp2_with fail
    refine (size_any 0 _ (by decide)).mono ?_
    rintro r w2 ⟨rfl, rfl⟩
    go_wp2_with fail
    refine (unhide HZ _).mono ?_
    rintro r w2 ⟨rfl, rfl⟩
    go_wp2_with fail
    go_quiet (fail)
    go_wp2_with fail
    refine (unhide HR1 _ ((unhide HS1).keep (below_drewN (Below.refl _ _) nq))).mono ?_
    rintro r w3 ⟨rfl, rfl⟩
    go_wp2_with fail
    refine (unhide HR2 _ ((unhide HS2).keep (below_drewN (Below.refl _ _) nq))).mono ?_
    rintro r w3 ⟨rfl, rfl⟩
    go_wp2_with fail
    go_ret
    exact ⟨by rw [unhide HF]; rfl, below_drewN (Below.refl _ _) nq⟩
  · rw [if_neg hAB] at HF
    have hAB2 : ¬ (A : Int) = (B : Int) := by omega
    go_enter Try.func31, Try.ntmps31
    go_wp2_with fail
    refine (size_any 0 _ (by decide)).mono ?_
    rintro r w2 ⟨rfl, rfl⟩
    go_wp2_with fail
    refine (unhide HZ _).mono ?_
    rintro r w2 ⟨rfl, rfl⟩
    go_wp2_with fail
    go_quiet (fail)
    go_wp2_with fail
    refine (unhide HR1 _ ((unhide HS1).keep (below_drewN (Below.refl _ _) nq))).mono ?_
    rintro r w3 ⟨rfl, rfl⟩
    go_wp2_with fail
    refine (unhide HR2 _ ((unhide HS2).keep (below_drewN (Below.refl _ _) nq))).mono ?_
    rintro r w3 ⟨rfl, rfl⟩
    go_wp2_with fail
    go_ret
    exact ⟨by rw [unhide HF]; rfl, below_drewN (Below.refl _ _) nq⟩
end Go.Proofs.Ytfahgphkceilkaa
