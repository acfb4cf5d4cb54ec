/- Names of the document. -/
import Derived.Test.YtalbdkihlcbhbaaLd
namespace Go.Proofs.Ytalbdkihlcbhbaa
open Go.RowKit
set_option linter.unusedVariables false
set_option linter.unusedSimpArgs false
abbrev NAMES : Array Value := #[.string ⟨#[99, 97, 115, 104]⟩, .string ⟨#[108, 111, 97, 110, 115]⟩, .string ⟨#[97, 108, 108, 111, 119, 97, 110, 99, 101]⟩, .string ⟨#[105, 110, 99, 111, 109, 101]⟩, .string ⟨#[101, 102, 102, 101, 99, 116, 115]⟩, .string ⟨#[105, 109, 112, 97, 105, 114, 101, 100]⟩, .string ⟨#[114, 101, 99, 111, 118, 101, 114, 101, 100]⟩]
theorem size67 : (Try.prog.info? 67).map (·.size) = some 7 := by kernel_rfl
theorem row67 : isRowB Try.prog 67 = true := by kernel_rfl
theorem names_any (w : World) : Calls Try.prog 29 #[] w fun e w' => e = .returned (.agg NAMES) ∧ Below w.heap.size w w' := by
  have HX := hide (Blk.new w NAMES 67)
  have HB := hide (below1 w (.cells NAMES 67))
  go_enter Try.func29, Try.ntmps29
  go_wp2_with fail
  exact bodyPost_ret (v := .agg NAMES) (res_c (cs0 := NAMES) rfl (unhide HX) row67 size67 rfl rfl) rfl ⟨rfl, unhide HB⟩
theorem ixn_0 (w : World) : (Instr.index 67 (.agg NAMES) (.int .i64 0)).run Try.prog w = .ok (.string (nmB 0)) w := by kernel_rfl
theorem ixn_1 (w : World) : (Instr.index 67 (.agg NAMES) (.int .i64 1)).run Try.prog w = .ok (.string (nmB 1)) w := by kernel_rfl
theorem ixn_2 (w : World) : (Instr.index 67 (.agg NAMES) (.int .i64 2)).run Try.prog w = .ok (.string (nmB 2)) w := by kernel_rfl
theorem ixn_3 (w : World) : (Instr.index 67 (.agg NAMES) (.int .i64 3)).run Try.prog w = .ok (.string (nmB 3)) w := by kernel_rfl
theorem ixn_4 (w : World) : (Instr.index 67 (.agg NAMES) (.int .i64 4)).run Try.prog w = .ok (.string (nmB 4)) w := by kernel_rfl
theorem ixn_5 (w : World) : (Instr.index 67 (.agg NAMES) (.int .i64 5)).run Try.prog w = .ok (.string (nmB 5)) w := by kernel_rfl
theorem ixn_6 (w : World) : (Instr.index 67 (.agg NAMES) (.int .i64 6)).run Try.prog w = .ok (.string (nmB 6)) w := by kernel_rfl
theorem ixn (k : Nat) (hk : k < 7) (w : World) : (Instr.index 67 (.agg NAMES) (.int .i64 (k : Int))).run Try.prog w = .ok (.string (nmB k)) w := by
  match k, hk with
  | 0, _ => exact ixn_0 w
  | 1, _ => exact ixn_1 w
  | 2, _ => exact ixn_2 w
  | 3, _ => exact ixn_3 w
  | 4, _ => exact ixn_4 w
  | 5, _ => exact ixn_5 w
  | 6, _ => exact ixn_6 w
theorem acc_ex {n : Int} (h : accB n = true) : ∃ k : Nat, k < 7 ∧ n = (k : Int) + 1 := by
  unfold accB at h
  simp at h
  exact ⟨(n - 1).toNat, by omega, by omega⟩
theorem rname_any (n : Int) (w : World) : Calls Try.prog 14 #[.int .i64 n] w fun e w' => e = .returned (.string (accN n)) ∧ Below w.heap.size w w' := by
  cases hB : accB n with
  | false =>
    unfold accN
    rw [hB]
    unfold accB at hB
    simp only [Bool.and_eq_false_iff, decide_eq_false_iff_not] at hB
    by_cases h1 : n < 1
    · clear hB
      go_enter Try.func14, Try.ntmps14
      go_wp2_with fail
      go_ret
      exact ⟨rfl, Below.refl _ _⟩
    · have h2 : 7 < n := by omega
      clear hB
      go_enter Try.func14, Try.ntmps14
      go_wp2_with fail
      go_ret
      exact ⟨rfl, Below.refl _ _⟩
  | true =>
    obtain ⟨k, hk, rfl⟩ := acc_ex hB
    have e : accN ((k : Int) + 1) = nmB k := by unfold accN; rw [hB, show ((k : Int) + 1 - 1).toNat = k by omega]; rfl
    rw [e]
    clear e hB
    have HN := hide (fun W => names_any W)
    have HI := hide (ixn k hk)
    generalize nmB k = s at *
    have k0 : ¬ ((k : Int) + 1 < 1) := by omega
    have k1 : ¬ (7 < (k : Int) + 1) := by omega
    have k2 : (k : Int) + 1 - 1 = (k : Int) := by omega
    go_enter Try.func14, Try.ntmps14
    go_wp2_with fail
    refine (unhide HN _).mono ?_
    rintro e w2 ⟨rfl, hb⟩
    have HB := hide hb
    clear hb HN
    have hi := unhide HI w2
    go_wp2_with (first | rw [hi] | simp only [hi])
    go_ret
    exact ⟨rfl, unhide HB⟩
set_option maxHeartbeats 1000000 in
theorem racct_any (z : ByteArray) (w : World) : Calls Try.prog 16 #[.string z] w fun e w' => e = .returned (.int .i64 (accA (accI z))) ∧ Below w.heap.size w w' := by
  have HN := hide (names_any w)
  go_enter Try.func16, Try.ntmps16
  go_wp2_with fail
  refine (unhide HN).mono ?_
  rintro e w1 ⟨rfl, hb⟩
  have HB := hide hb
  clear hb HN
  have HI := hide (fun k hk => ixn k hk)
  generalize NAMES = nm at *
  go_wp2_with fail
  go_loopw [6] (fun i wr => ∃ k : Nat, k ≤ 7 ∧ i = .int .i64 k ∧ wr = w1 ∧ Hid (∀ j : Nat, j < k → ¬ (nmB j = z))) (fun i _ => 7 - (intOf i).toNat)
  case atStart => exact ⟨0, by omega, rfl, rfl, hide (fun j hj => absurd hj (Nat.not_lt_zero j))⟩
  case round =>
    obtain ⟨k, hk, rfl, rfl, HN⟩ := hrel
    by_cases hlt : k < 7
    · have Hk := hide hlt
      have k1 : (k : Int) < 7 := by omega
      have hi := unhide HI k hlt wr
      generalize hs : nmB k = s at *
      have Hs := hide hs
      clear hs
      by_cases he : s = z
      · subst he
        go_wp2_with (first | simp only [hi])
        go_ret
        exact ⟨by rw [← unhide Hs, accI_yes (unhide Hk), accA, if_pos (accB_yes (unhide Hk))]; rfl, unhide HB⟩
      · have he2 := str_ne he
        go_wp2_with (first | simp only [hi])
        go_roundw
        case rel => exact ⟨k + 1, by omega, by go_num, trivial, hide (fun j hj => by
            rcases Nat.lt_succ_iff_lt_or_eq.1 hj with h | rfl
            · exact unhide HN j h
            · exact fun e => he ((unhide Hs).symm.trans e))⟩
        case measure => simp [intOf]; omega
    · obtain rfl : k = 7 := by omega
      have HBn := hide (unhide HN)
      clear HN
      go_wp2_with fail
      go_ret
      exact ⟨by rw [accI_no (unhide HBn)]; rfl, unhide HB⟩
end Go.Proofs.Ytalbdkihlcbhbaa
