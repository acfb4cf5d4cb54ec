/- Accounts by their numbers and names. -/
import Derived.Test.YtfahgphkceilkaaRg
import Derived.Handy
import Derived.Laws.EntriesVeiled
namespace Go.Proofs.Ytfahgphkceilkaa
open Go.RowKit
set_option linter.unusedVariables false
set_option linter.unusedSimpArgs false
def nmB : Nat → ByteArray
  | 0 => ⟨#[99, 97, 115, 104]⟩
  | 1 => ⟨#[108, 111, 97, 110, 115]⟩
  | 2 => ⟨#[97, 108, 108, 111, 119, 97, 110, 99, 101]⟩
  | 3 => ⟨#[105, 110, 99, 111, 109, 101]⟩
  | 4 => ⟨#[101, 102, 102, 101, 99, 116, 115]⟩
  | 5 => ⟨#[105, 109, 112, 97, 105, 114, 101, 100]⟩
  | 6 => ⟨#[114, 101, 99, 111, 118, 101, 114, 101, 100]⟩
  | _ => ⟨#[]⟩
abbrev LED : Array Value := #[.int .i64 1, .string ⟨#[99, 97, 115, 104]⟩, .int .i64 2, .string ⟨#[108, 111, 97, 110, 115]⟩, .int .i64 3, .string ⟨#[97, 108, 108, 111, 119, 97, 110, 99, 101]⟩, .int .i64 4, .string ⟨#[105, 110, 99, 111, 109, 101]⟩, .int .i64 5, .string ⟨#[101, 102, 102, 101, 99, 116, 115]⟩, .int .i64 6, .string ⟨#[105, 109, 112, 97, 105, 114, 101, 100]⟩, .int .i64 7, .string ⟨#[114, 101, 99, 111, 118, 101, 114, 101, 100]⟩]
theorem led_cell {w : World} {b k : Nat} (h : Blk w b LED 74) (hk : k < 7) : w.cell? ⟨b, k * 2, none⟩ = some (.int .i64 ((k : Int) + 1)) ∧ w.cell? ⟨b, k * 2 + 1, none⟩ = some (.string (nmB k)) := by
  match k, hk with
  | 0, _ => exact ⟨h.at 0 _ rfl, h.at 1 _ rfl⟩
  | 1, _ => exact ⟨h.at 2 _ rfl, h.at 3 _ rfl⟩
  | 2, _ => exact ⟨h.at 4 _ rfl, h.at 5 _ rfl⟩
  | 3, _ => exact ⟨h.at 6 _ rfl, h.at 7 _ rfl⟩
  | 4, _ => exact ⟨h.at 8 _ rfl, h.at 9 _ rfl⟩
  | 5, _ => exact ⟨h.at 10 _ rfl, h.at 11 _ rfl⟩
  | 6, _ => exact ⟨h.at 12 _ rfl, h.at 13 _ rfl⟩
theorem led_any (w : World) : Calls Try.prog 42 #[] w fun e w' => e = .returned (.slice (some ⟨w.heap.size, 0, none⟩) 7 7) ∧ w' = w.alloc (.cells LED 74) := by
  go_enter Try.func42, Try.ntmps42
  go_wp2_with fail
  go_ret
  exact ⟨rfl, rfl⟩
theorem num_any (a : Int) (s : ByteArray) (w : World) : Calls Try.prog 43 #[.agg #[.int .i64 a, .string s]] w fun e w' => e = .returned (.int .i64 a) ∧ Below w.heap.size w w' := by
  go_enter Try.func43, Try.ntmps43
  go_wp2_with fail
  go_ret
  exact ⟨rfl, below1 _ _⟩
/-- Is there such an account? Its name; a name's account. -/
def accB (n : Int) : Bool := decide (1 ≤ n) && decide (n ≤ 7)
def accN (n : Int) : ByteArray := if accB n then nmB (n - 1).toNat else ⟨#[]⟩
def accA (n : Int) : Int := if accB n then n else 0
abbrev accOf (n : Int) : Value := .agg #[.int .i64 (accA n), .string (accN n)]
theorem str_ne {s z : ByteArray} (h : ¬ s = z) : (s.toList == z.toList) = false := by
  rw [ByteArray.toList_eq, ByteArray.toList_eq]
  simp only [beq_eq_false_iff_ne, ne_eq]
  intro e
  exact h (by cases s; cases z; simp at e; rw [e])
theorem str_eq (s : ByteArray) : (s.toList == s.toList) = true := by simp
theorem size74 : (Try.prog.info? 74).map (·.size) = some 2 := by kernel_rfl
theorem row74 : isRowB Try.prog 74 = true := by kernel_rfl
theorem accB_yes {k : Nat} (h : k < 7) : accB ((k : Int) + 1) = true := by unfold accB; simp; omega
theorem acc_yes {k : Nat} (h : k < 7) : accOf ((k : Int) + 1) = .agg #[.int .i64 ((k : Int) + 1), .string (nmB k)] := by
  unfold accOf accA accN; rw [if_pos (accB_yes h), if_pos (accB_yes h), show ((k : Int) + 1 - 1).toNat = k by omega]
theorem accB_no {n : Int} (h : ∀ j : Nat, j < 7 → ¬ ((j : Int) + 1 = n)) : accB n = false := by
  cases hB : accB n with
  | false => rfl
  | true =>
    unfold accB at hB
    simp at hB
    exact absurd (show (((n - 1).toNat : Nat) : Int) + 1 = n by omega) (h (n - 1).toNat (by omega))
theorem acc_no {n : Int} (h : accB n = false) : accOf n = .agg #[.int .i64 0, .string ⟨#[]⟩] := by unfold accOf accA accN; rw [h]; rfl
set_option maxHeartbeats 1000000 in
theorem look_any (n : Int) (b : Nat) (w : World) (hL : Blk w b LED 74) : Calls Try.prog 41 #[.slice (some ⟨b, 0, none⟩) 7 7, .int .i64 n, .func (.func 43) #[] #[]] w fun e w' => e = .returned (.tuple #[accOf n, .bool (accB n)]) ∧ Below w.heap.size w w' := by
  have HL := hide (hL.alloc (.cells #[.int .i64 0, .string ⟨#[]⟩] 74))
  have HR := hide (Blk.new w #[.int .i64 0, .string ⟨#[]⟩] 74)
  have HB := hide (below1 w (.cells #[.int .i64 0, .string ⟨#[]⟩] 74))
  clear hL
  go_enter Try.func41, Try.ntmps41
  go_wp2_with fail
  generalize w.alloc (.cells #[.int .i64 0, .string ⟨#[]⟩] 74) = w1 at *
  go_loopw [13] (fun i wr => ∃ k : Nat, k ≤ 7 ∧ i = .int .i64 k ∧ Hid (Blk wr b LED 74) ∧ Hid (Blk wr w.heap.size #[.int .i64 0, .string ⟨#[]⟩] 74) ∧ Hid (Below w.heap.size w wr) ∧ Hid (∀ j : Nat, j < k → ¬ ((j : Int) + 1 = n))) (fun i _ => 7 - (intOf i).toNat)
  case atStart => exact ⟨0, by omega, rfl, HL, HR, HB, hide (fun j hj => absurd hj (Nat.not_lt_zero j))⟩
  case round =>
    clear HL HR HB
    obtain ⟨k, hk, rfl, HL, HR, HB, HN⟩ := hrel
    by_cases hlt : k < 7
    · obtain ⟨m0, m1⟩ := led_cell (unhide HL) hlt
      have Hk := hide hlt
      have k1 : (k : Int) < 7 := by omega
      have HY := hide (fun W => num_any ((k : Int) + 1) (nmB k) W)
      generalize hs : nmB k = s at *
      have Hs := hide hs
      clear hs
      replace HL := hide (((unhide HL).alloc (.cells #[.int .i64 ((k : Int) + 1), .string s] 74)))
      replace HR := hide (((unhide HR).alloc (.cells #[.int .i64 ((k : Int) + 1), .string s] 74)))
      replace HB := hide (below_via (unhide HB) (below1 wr (.cells #[.int .i64 ((k : Int) + 1), .string s] 74)))
      have HX := hide (Blk.new wr #[.int .i64 ((k : Int) + 1), .string s] 74)
      go_wp2_with fail
      generalize wr.alloc (.cells #[.int .i64 ((k : Int) + 1), .string s] 74) = w2 at *
      generalize wr.heap.size = xb at *
      refine (unhide HY _).mono ?_
      rintro e w3 ⟨rfl, hb⟩
      replace HL := hide ((unhide HL).keep hb)
      replace HR := hide ((unhide HR).keep hb)
      replace HX := hide ((unhide HX).keep hb)
      replace HB := hide (below_via (unhide HB) hb)
      clear hb HY
      by_cases he : (k : Int) + 1 = n
      · subst he
        go_wp2_with (first | refine load_blk rfl 74 _ rfl (show Blk _ _ _ _ from unhide HX) rfl row74 size74 rfl ?_ | refine store_blk rfl 74 _ _ rfl (show Blk _ _ _ _ from unhide HR) rfl rfl size74 rfl rfl rfl ?_)
        intro w4 k4 kp
        have k6 := kp.bel (Nat.le_refl _) (unhide HB)
        clear kp HX HR HL HB
        go_wp2_with fail
        exact bodyPost_ret (v := .tuple #[.agg #[.int .i64 ((k : Int) + 1), .string s], .bool true]) (res_ct (cs0 := #[.int .i64 ((k : Int) + 1), .string s]) rfl k4 row74 size74 rfl rfl rfl) rfl ⟨by rw [acc_yes (unhide Hk), accB_yes (unhide Hk), unhide Hs], k6⟩
      · go_wp2_with (first | refine load_blk rfl 74 _ rfl (show Blk _ _ _ _ from unhide HX) rfl row74 size74 rfl ?_)
        go_roundw
        case rel => exact ⟨k + 1, by omega, by go_num, HL, HR, HB, hide (fun j hj => by
            rcases Nat.lt_succ_iff_lt_or_eq.1 hj with h | rfl
            · exact unhide HN j h
            · exact he)⟩
        case measure => simp [intOf]; omega
    · obtain rfl : k = 7 := by omega
      have HBn := hide (unhide HN)
      replace HR := hide ((unhide HR).alloc (.cells #[.int .i64 0, .string ⟨#[]⟩] 74))
      have HX := hide (Blk.new wr #[.int .i64 0, .string ⟨#[]⟩] 74)
      replace HB := hide (below_via (unhide HB) (below1 wr (.cells #[.int .i64 0, .string ⟨#[]⟩] 74)))
      clear HN HL
      go_wp2_with (first | refine load_blk rfl 74 _ rfl (show Blk _ _ _ _ from unhide HX) rfl row74 size74 rfl ?_ | refine store_blk rfl 74 _ _ rfl (show Blk _ _ _ _ from unhide HR) rfl rfl size74 rfl rfl rfl ?_)
      intro w4 k4 kp
      have k6 := kp.bel (Nat.le_refl _) (unhide HB)
      clear kp HX HR HB
      go_wp2_with fail
      exact bodyPost_ret (v := .tuple #[.agg #[.int .i64 0, .string ⟨#[]⟩], .bool false]) (res_ct (cs0 := #[.int .i64 0, .string ⟨#[]⟩]) rfl k4 row74 size74 rfl rfl rfl) rfl ⟨by rw [acc_no (accB_no (unhide HBn)), accB_no (unhide HBn)], k6⟩
theorem isacc_any (n : Int) (w : World) : Calls Try.prog 40 #[.int .i64 n] w fun e w' => e = .returned (.bool (accB n)) ∧ Below w.heap.size w w' := by
  have HL := hide (fun b W => look_any n b W)
  have HN := hide (fun W => num_any (accA n) (accN n) W)
  have HG := hide (led_any w)
  have HB := hide (below1 w (.cells LED 74))
  have HX := hide (Blk.new w LED 74)
  go_enter Try.func40, Try.ntmps40
  go_wp2_with fail
  refine (unhide HG).mono ?_
  rintro e w1 ⟨rfl, hw⟩
  rw [← hw] at HB HX
  clear hw HG
  go_wp2_with fail
  refine (unhide HL _ _ (unhide HX)).mono ?_
  rintro e w2 ⟨rfl, hb⟩
  replace HB := hide (below_via (unhide HB) hb)
  clear hb HX HL
  go_wp2_with fail
  replace HB := hide (below_via (unhide HB) (below1 w2 (.cells #[.int .i64 (accA n), .string (accN n)] 74)))
  go_ret
  exact ⟨rfl, unhide HB⟩
end Go.Proofs.Ytfahgphkceilkaa
