/- Proved here: MoneyWhole: at any amount and any row of weights: parts are the whole, all together; of a weight of 0: 0; parts of like weights differ by 1 at most; none has another sign than the whole. No condition. -/
import Derived.Test.YtcimppdeajhfmaaOpen
import Derived.Deep.QuietTactic
import Derived.BigQuiet
namespace Go.Proofs.Ytcimppdeajhfmaa.moneyWhole
open Go.ChangeShapes Go.WideShapes Go.ChangeAt Go.RowKit
set_option maxHeartbeats 1000000 in
theorem walk_long (n : Int) (a : Option Addr) (len cap : Nat) (h : 200 < len) (w : World) :
    Calls Try.prog 6 #[.int .i64 n, .slice a len cap] w fun e w' => e = .returned (.bool true) ∧ Below w.heap.size w w' := by
  have h2 : (200 : Int) < (len : Int) := by omega
  clear h
  go_enter Try.func6, Try.ntmps6
  go_wp2_with fail
  refine (alive_any _).mono ?_
  rintro e w1 ⟨rfl, hbel⟩
  have HB := hide hbel
  clear hbel
  go_wp2_with fail
  go_ret
  exact ⟨rfl, unhide HB⟩
set_option maxHeartbeats 1000000 in
theorem walk_no (n : Int) (a : Option Addr) (cap : Nat) (ws : List Int) (w : World) (hlen : ws.length ≤ 200) (h : Row w (.slice a ws.length cap) ws) (hno : (weighB ws && may n) = false) :
    Calls Try.prog 6 #[.int .i64 n, .slice a ws.length cap] w fun e w' => e = .returned (.bool true) ∧ Below w.heap.size w w' := by
  have H := hide h
  have Hno := hide hno
  clear h hno
  have h2 : ((ws.length : Nat) : Int) ≤ 200 := by omega
  generalize hl : ws.length = len at *
  clear hlen hl
  go_enter Try.func6, Try.ntmps6
  go_wp2_with fail
  refine (alive_any _).mono ?_
  rintro e w1 ⟨rfl, hbel⟩
  have HB := hide hbel
  clear hbel
  go_wp2_with fail
  refine (split_no n _ ws _ ((unhide H).below (unhide HB) (Nat.le_refl _)) (unhide Hno)).mono ?_
  rintro e w' ⟨rfl, rfl⟩
  go_wp2_with fail
  go_ret
  exact ⟨rfl, unhide HB⟩
set_option maxHeartbeats 4000000 in
set_option maxRecDepth 100000 in
theorem walk_yes (n : Int) (b off cap : Nat) (ws : List Int) (w : World) (hlen : ws.length ≤ 200) (hg : good ws = true) (ht : total ws ≠ 0) (hn : may n = true)
    (hc : ∀ j, j < ws.length → w.cell? ⟨b, off + j, none⟩ = some (.int .i64 (ws.getD j 0))) (hrow : Row w (.slice (some ⟨b, off, none⟩) ws.length cap) ws) :
    Calls Try.prog 6 #[.int .i64 n, .slice (some ⟨b, off, none⟩) ws.length cap] w fun e w' => e = .returned (.bool true) ∧ Below w.heap.size w w' := by
  have h1 := (good_len hg).1
  have hb : b < w.heap.size := lt_of_cell (hc 0 (by omega))
  have HC := hide hc
  have HR := hide hrow
  have Hsplit : Hid (∀ w1 : World, Below w.heap.size w w1 → Calls Try.prog 23 #[.int .i64 n, .slice (some ⟨b, off, none⟩) ws.length cap] w1 fun e w' => e = .returned (.tuple #[.slice (some ⟨w1.heap.size, 0, none⟩) ws.length ws.length, .int .i64 0]) ∧ Own w1 w' w1.heap.size ws.length (part n ws)) :=
    hide (fun w1 hb1 => split_row n b off cap ws w1 hg ht hn (fun j hj => (hb1.cell (p := ⟨b, off + j, none⟩) hb).trans (hc j hj)) (hrow.below hb1 (Nat.le_refl _)) (fun j _ => div_ok hg ht hn j))
  have Hsum : Hid (∀ (w1 w2 : World) (P : Nat), Own w1 w2 P ws.length (part n ws) → Calls Try.prog 20 #[.slice (some ⟨P, 0, none⟩) ws.length ws.length] w2 fun e w' => e = .returned (.tuple #[.int .i64 n, .int .i64 0]) ∧ w2 = w') :=
    hide (fun w1 w2 P ho => by
      have hs := sum_any _ _ w2 (ho.asRow (cap := ws.length) (by unfold maxLen; omega) (part_in64 hg hn))
      have e := parts_total (n := n) hg ht
      unfold partL at e
      have hin : turn n = 0 := turn_in ⟨by have := may_bd hn; omega, by have := may_bd hn; omega⟩
      rw [e, okN_in hin, okE_in hin] at hs
      exact hs)
  have Hzero : Hid (∀ j, ws.getD j 0 = 0 → part n ws j = 0) := hide (fun j h => part_zero h)
  have Hup : Hid (0 ≤ n → ∀ j, 0 ≤ part n ws j) := hide (fun h j => part_up hg ht h j)
  have Hdown : Hid (n ≤ 0 → ∀ j, part n ws j ≤ 0) := hide (fun h j => part_down hg ht h j)
  have Hlike : Hid (∀ i j, ws.getD i 0 = ws.getD j 0 → part n ws i - part n ws j ≤ 1 ∧ part n ws j - part n ws i ≤ 1) := hide (fun i j h => part_like h)
  have Hbd := hide (part_bd hg hn)
  have hlen2 : decide ((200 : Int) < ((ws.length : Nat) : Int)) = false := by simp; omega
  clear hg ht hn hc hrow
  generalize ws.length = len at *
  go_enter Try.func6, Try.ntmps6
  go_wp2_with fail
  refine (alive_any _).mono ?_
  rintro e w1 ⟨rfl, hbel⟩
  have HB := hide hbel
  have hsz : w.heap.size ≤ w1.heap.size := hbel.size
  clear hbel
  go_wp2_with fail
  refine (unhide Hsplit w1 (unhide HB)).mono ?_
  rintro e w2 ⟨rfl, hown⟩
  have HO := hide hown
  clear hown
  go_wp2_with fail
  refine (unhide Hsum w1 w2 _ (unhide HO)).mono ?_
  rintro e w' ⟨rfl, rfl⟩
  have Hp : Hid (∀ j, j < len → w2.cell? ⟨w1.heap.size, j, none⟩ = some (.int .i64 (part n ws j))) := hide (fun j hj => (unhide HO).row.cell hj)
  have Hw : Hid (∀ j, j < len → w2.cell? ⟨b, off + j, none⟩ = some (.int .i64 (ws.getD j 0))) := hide (fun j hj =>
    ((unhide HO).below.cell (p := ⟨b, off + j, none⟩) (by show b < w1.heap.size; omega)).trans (((unhide HB).cell (p := ⟨b, off + j, none⟩) hb).trans (unhide HC j hj)))
  have HBel : Hid (Below w.heap.size w w2) := hide ((unhide HB).trans ((unhide HO).below.mono hsz))
  clear HO HB HC HR Hsplit Hsum hsz hb
  generalize w1.heap.size = P at *
  go_wp2_with fail
  go_loopw [50] (fun i wr => ∃ k m : Nat, k ≤ len ∧ i = .int .i64 k ∧ wr = w2.drewN m) (fun i _ => len - (intOf i).toNat)
  case atStart => exact ⟨0, 0, by omega, rfl, rfl⟩
  case round =>
    obtain ⟨k, m, hk, rfl, rfl⟩ := hrel
    by_cases hlt : k < len
    · have hkw := unhide Hw k hlt
      have hkp := unhide Hp k hlt
      have HZ := hide (unhide Hzero k)
      have HU := hide (fun h => unhide Hup h k)
      have HD := hide (fun h => unhide Hdown h k)
      have hpb := unhide Hbd k
      have HLk : Hid (∀ a, ws.getD k 0 = ws.getD a 0 → part n ws k - part n ws a ≤ 1 ∧ part n ws a - part n ws k ≤ 1) := hide (fun a => unhide Hlike k a)
      generalize part n ws k = p at *
      generalize ws.getD k 0 = z at *
      by_cases hz : z = 0
      · have hz1 : (z == 0) = true := by simp [hz]
        have hz2 : (p != 0) = false := by simp [unhide HZ hz]
        clear hz
        by_cases hn1 : n < 0
        · have hp2 := unhide HD (by omega)
          clear HU HD HZ
          go_wp2_with fail
          go_loopw [84] (fun j wr => ∃ a m : Nat, a ≤ k ∧ j = .int .i64 a ∧ wr = w2.drewN m) (fun j _ => k - (intOf j).toNat)
          case atStart => exact ⟨0, m, by omega, rfl, rfl⟩
          case round =>
            obtain ⟨a, m2, ha, rfl, rfl⟩ := hrel
            by_cases hlt2 : a < k
            · have haw := unhide Hw a (by omega)
              have hap := unhide Hp a (by omega)
              have hal : a < len := by omega
              have HL := hide (unhide HLk a)
              have hqb := unhide Hbd a
              generalize part n ws a = q at *
              generalize ws.getD a 0 = y at *
              by_cases hyz : z = y
              · have hl := unhide HL hyz
                have hl1 := hl.1
                have hl2 := hl.2
                have hyy : (y == z) = true := by simp [hyz]
                have hd1 : decide (1 < p - q) = false := by simp; omega
                have hd2 : decide (1 < q - p) = false := by simp; omega
                clear hl HL hyz
                go_wp2
                go_quiet (fail)
                all_goals (try go_wp2)
                go_roundw
                case rel => exact ⟨a + 1, _, by omega, by go_num, rfl⟩
                case measure => simp [intOf]; omega
              · have hyz2 : (y == z) = false := by rw [beq_eq_false_iff_ne]; exact fun h => hyz h.symm
                clear HL hyz
                go_wp2
                go_quiet (fail)
                all_goals (try go_wp2)
                go_roundw
                case rel => exact ⟨a + 1, _, by omega, by go_num, rfl⟩
                case measure => simp [intOf]; omega
            · have hak : a = k := by omega
              subst hak; clear ha hlt2
              go_wp2
              go_roundw
              case rel => exact ⟨a + 1, m2, by omega, by go_num, rfl⟩
              case measure => simp [intOf]; omega
        · by_cases hn2 : 0 < n
          · have hp1 := unhide HU (by omega)
            clear HU HD HZ
            go_wp2_with fail
            go_loopw [84] (fun j wr => ∃ a m : Nat, a ≤ k ∧ j = .int .i64 a ∧ wr = w2.drewN m) (fun j _ => k - (intOf j).toNat)
            case atStart => exact ⟨0, m, by omega, rfl, rfl⟩
            case round =>
              obtain ⟨a, m2, ha, rfl, rfl⟩ := hrel
              by_cases hlt2 : a < k
              · have haw := unhide Hw a (by omega)
                have hap := unhide Hp a (by omega)
                have hal : a < len := by omega
                have HL := hide (unhide HLk a)
                have hqb := unhide Hbd a
                generalize part n ws a = q at *
                generalize ws.getD a 0 = y at *
                by_cases hyz : z = y
                · have hl := unhide HL hyz
                  have hl1 := hl.1
                  have hl2 := hl.2
                  have hyy : (y == z) = true := by simp [hyz]
                  have hd1 : decide (1 < p - q) = false := by simp; omega
                  have hd2 : decide (1 < q - p) = false := by simp; omega
                  clear hl HL hyz
                  go_wp2
                  go_quiet (fail)
                  all_goals (try go_wp2)
                  go_roundw
                  case rel => exact ⟨a + 1, _, by omega, by go_num, rfl⟩
                  case measure => simp [intOf]; omega
                · have hyz2 : (y == z) = false := by rw [beq_eq_false_iff_ne]; exact fun h => hyz h.symm
                  clear HL hyz
                  go_wp2
                  go_quiet (fail)
                  all_goals (try go_wp2)
                  go_roundw
                  case rel => exact ⟨a + 1, _, by omega, by go_num, rfl⟩
                  case measure => simp [intOf]; omega
              · have hak : a = k := by omega
                subst hak; clear ha hlt2
                go_wp2
                go_roundw
                case rel => exact ⟨a + 1, m2, by omega, by go_num, rfl⟩
                case measure => simp [intOf]; omega
          · have hp1 := unhide HU (by omega)
            have hp2 := unhide HD (by omega)
            have hn3 : n ≤ 0 := by omega
            have hn4 : 0 ≤ n := by omega
            clear HU HD HZ hn1 hn2
            go_wp2_with fail
            go_loopw [84] (fun j wr => ∃ a m : Nat, a ≤ k ∧ j = .int .i64 a ∧ wr = w2.drewN m) (fun j _ => k - (intOf j).toNat)
            case atStart => exact ⟨0, m, by omega, rfl, rfl⟩
            case round =>
              obtain ⟨a, m2, ha, rfl, rfl⟩ := hrel
              by_cases hlt2 : a < k
              · have haw := unhide Hw a (by omega)
                have hap := unhide Hp a (by omega)
                have hal : a < len := by omega
                have HL := hide (unhide HLk a)
                have hqb := unhide Hbd a
                generalize part n ws a = q at *
                generalize ws.getD a 0 = y at *
                by_cases hyz : z = y
                · have hl := unhide HL hyz
                  have hl1 := hl.1
                  have hl2 := hl.2
                  have hyy : (y == z) = true := by simp [hyz]
                  have hd1 : decide (1 < p - q) = false := by simp; omega
                  have hd2 : decide (1 < q - p) = false := by simp; omega
                  clear hl HL hyz
                  go_wp2
                  go_quiet (fail)
                  all_goals (try go_wp2)
                  go_roundw
                  case rel => exact ⟨a + 1, _, by omega, by go_num, rfl⟩
                  case measure => simp [intOf]; omega
                · have hyz2 : (y == z) = false := by rw [beq_eq_false_iff_ne]; exact fun h => hyz h.symm
                  clear HL hyz
                  go_wp2
                  go_quiet (fail)
                  all_goals (try go_wp2)
                  go_roundw
                  case rel => exact ⟨a + 1, _, by omega, by go_num, rfl⟩
                  case measure => simp [intOf]; omega
              · have hak : a = k := by omega
                subst hak; clear ha hlt2
                go_wp2
                go_roundw
                case rel => exact ⟨a + 1, m2, by omega, by go_num, rfl⟩
                case measure => simp [intOf]; omega
      · have hz1 : (z == 0) = false := by simp [hz]
        clear hz
        by_cases hn1 : n < 0
        · have hp2 := unhide HD (by omega)
          clear HU HD HZ
          go_wp2_with fail
          go_loopw [84] (fun j wr => ∃ a m : Nat, a ≤ k ∧ j = .int .i64 a ∧ wr = w2.drewN m) (fun j _ => k - (intOf j).toNat)
          case atStart => exact ⟨0, m, by omega, rfl, rfl⟩
          case round =>
            obtain ⟨a, m2, ha, rfl, rfl⟩ := hrel
            by_cases hlt2 : a < k
            · have haw := unhide Hw a (by omega)
              have hap := unhide Hp a (by omega)
              have hal : a < len := by omega
              have HL := hide (unhide HLk a)
              have hqb := unhide Hbd a
              generalize part n ws a = q at *
              generalize ws.getD a 0 = y at *
              by_cases hyz : z = y
              · have hl := unhide HL hyz
                have hl1 := hl.1
                have hl2 := hl.2
                have hyy : (y == z) = true := by simp [hyz]
                have hd1 : decide (1 < p - q) = false := by simp; omega
                have hd2 : decide (1 < q - p) = false := by simp; omega
                clear hl HL hyz
                go_wp2
                go_quiet (fail)
                all_goals (try go_wp2)
                go_roundw
                case rel => exact ⟨a + 1, _, by omega, by go_num, rfl⟩
                case measure => simp [intOf]; omega
              · have hyz2 : (y == z) = false := by rw [beq_eq_false_iff_ne]; exact fun h => hyz h.symm
                clear HL hyz
                go_wp2
                go_quiet (fail)
                all_goals (try go_wp2)
                go_roundw
                case rel => exact ⟨a + 1, _, by omega, by go_num, rfl⟩
                case measure => simp [intOf]; omega
            · have hak : a = k := by omega
              subst hak; clear ha hlt2
              go_wp2
              go_roundw
              case rel => exact ⟨a + 1, m2, by omega, by go_num, rfl⟩
              case measure => simp [intOf]; omega
        · by_cases hn2 : 0 < n
          · have hp1 := unhide HU (by omega)
            clear HU HD HZ
            go_wp2_with fail
            go_loopw [84] (fun j wr => ∃ a m : Nat, a ≤ k ∧ j = .int .i64 a ∧ wr = w2.drewN m) (fun j _ => k - (intOf j).toNat)
            case atStart => exact ⟨0, m, by omega, rfl, rfl⟩
            case round =>
              obtain ⟨a, m2, ha, rfl, rfl⟩ := hrel
              by_cases hlt2 : a < k
              · have haw := unhide Hw a (by omega)
                have hap := unhide Hp a (by omega)
                have hal : a < len := by omega
                have HL := hide (unhide HLk a)
                have hqb := unhide Hbd a
                generalize part n ws a = q at *
                generalize ws.getD a 0 = y at *
                by_cases hyz : z = y
                · have hl := unhide HL hyz
                  have hl1 := hl.1
                  have hl2 := hl.2
                  have hyy : (y == z) = true := by simp [hyz]
                  have hd1 : decide (1 < p - q) = false := by simp; omega
                  have hd2 : decide (1 < q - p) = false := by simp; omega
                  clear hl HL hyz
                  go_wp2
                  go_quiet (fail)
                  all_goals (try go_wp2)
                  go_roundw
                  case rel => exact ⟨a + 1, _, by omega, by go_num, rfl⟩
                  case measure => simp [intOf]; omega
                · have hyz2 : (y == z) = false := by rw [beq_eq_false_iff_ne]; exact fun h => hyz h.symm
                  clear HL hyz
                  go_wp2
                  go_quiet (fail)
                  all_goals (try go_wp2)
                  go_roundw
                  case rel => exact ⟨a + 1, _, by omega, by go_num, rfl⟩
                  case measure => simp [intOf]; omega
              · have hak : a = k := by omega
                subst hak; clear ha hlt2
                go_wp2
                go_roundw
                case rel => exact ⟨a + 1, m2, by omega, by go_num, rfl⟩
                case measure => simp [intOf]; omega
          · have hp1 := unhide HU (by omega)
            have hp2 := unhide HD (by omega)
            have hn3 : n ≤ 0 := by omega
            have hn4 : 0 ≤ n := by omega
            clear HU HD HZ hn1 hn2
            go_wp2_with fail
            go_loopw [84] (fun j wr => ∃ a m : Nat, a ≤ k ∧ j = .int .i64 a ∧ wr = w2.drewN m) (fun j _ => k - (intOf j).toNat)
            case atStart => exact ⟨0, m, by omega, rfl, rfl⟩
            case round =>
              obtain ⟨a, m2, ha, rfl, rfl⟩ := hrel
              by_cases hlt2 : a < k
              · have haw := unhide Hw a (by omega)
                have hap := unhide Hp a (by omega)
                have hal : a < len := by omega
                have HL := hide (unhide HLk a)
                have hqb := unhide Hbd a
                generalize part n ws a = q at *
                generalize ws.getD a 0 = y at *
                by_cases hyz : z = y
                · have hl := unhide HL hyz
                  have hl1 := hl.1
                  have hl2 := hl.2
                  have hyy : (y == z) = true := by simp [hyz]
                  have hd1 : decide (1 < p - q) = false := by simp; omega
                  have hd2 : decide (1 < q - p) = false := by simp; omega
                  clear hl HL hyz
                  go_wp2
                  go_quiet (fail)
                  all_goals (try go_wp2)
                  go_roundw
                  case rel => exact ⟨a + 1, _, by omega, by go_num, rfl⟩
                  case measure => simp [intOf]; omega
                · have hyz2 : (y == z) = false := by rw [beq_eq_false_iff_ne]; exact fun h => hyz h.symm
                  clear HL hyz
                  go_wp2
                  go_quiet (fail)
                  all_goals (try go_wp2)
                  go_roundw
                  case rel => exact ⟨a + 1, _, by omega, by go_num, rfl⟩
                  case measure => simp [intOf]; omega
              · have hak : a = k := by omega
                subst hak; clear ha hlt2
                go_wp2
                go_roundw
                case rel => exact ⟨a + 1, m2, by omega, by go_num, rfl⟩
                case measure => simp [intOf]; omega
    · go_wp2
      go_ret
      exact ⟨rfl, below_drewN (unhide HBel) m⟩
theorem walk (n : Int) (v : Value) (ws : List Int) (w : World) (_wn : (Lit.int .i64 n).wf = true) (h : Row w v ws) :
    Calls Try.prog 6 #[.int .i64 n, v] w fun e w' => e = .returned (.bool true) ∧ Below w.heap.size w w' := by
  by_cases hlen : ws.length ≤ 200
  · cases hok : (weighB ws && may n) with
    | false =>
      obtain ⟨a, cap, rfl⟩ := row_slice h
      exact walk_no n a cap ws w hlen h hok
    | true =>
      have h1 : weighB ws = true ∧ may n = true := by simpa using hok
      have hg : good ws = true := by
        cases hg : good ws with
        | true => rfl
        | false => rw [weighB_no hg] at h1; exact absurd h1.1 (by decide)
      have ht : total ws ≠ 0 := by
        have := h1.1
        rw [weighB_yes hg] at this
        simpa using this
      rcases h with ⟨a, cap, rfl, rfl⟩ | ⟨b, off, cap, rfl, h0, hm, hc, hin⟩
      · exact absurd rfl ht
      · exact walk_yes n b off cap ws w hlen hg ht h1.2 hc (Or.inr ⟨b, off, cap, rfl, h0, hm, hc, hin⟩)
  · obtain ⟨a, cap, rfl⟩ := row_slice h
    exact walk_long n a ws.length cap (by omega) w
theorem own : ownKnob Try.prog.godebug = none := by kernel_rfl
theorem laidOut : laidOutB Try.prog = true := by kernel_rfl
set_option linter.unusedVariables false in
set_option maxRecDepth 100000 in
theorem lifted (os : Os) (started : os.Started) (H : Type) (enc : TypeId × Value → H) :
    ReturnsInHanded {} Try.checked os 6 .any (Rows.moneyWholeSpec.pre6 enc Try.prog Try.f6 Rows.moneyWholeRow.domain false) (Rows.moneyWholeSpec.post enc Try.prog Try.f6 false true false false) := by
  refine returnsInHanded_of_change (C := Try.checked) own started (by kernel_rfl) Try.func6
    (ChangeSpec.witness6 (enc := enc) (C := Try.checked) false ⟨#[], #[.int .i64 0, .slice none 0 0], []⟩ 8 (by kernel_rfl) (by kernel_rfl) (by kernel_rfl) (by kernel_rfl)) ?_
  intro W base args ds gs before hval0 hW hcnd _
  have hval : ∀ (j : Nat) t v, Try.f6.params[j]? = some t → args[j]? = some v → Value.okWide Try.prog W .any base t v := hval0
  have hW' := hW
  obtain ⟨p, q, hA0, hV, rfl, hfz, hnd⟩ := hW
  have hA : DataW.TrodAll enc Try.prog W 0 (fun _ => true) true Try.f6.params.toList args.toList ds p := hA0
  rw [Try.params6] at hA hval
  obtain ⟨v0, vs0, d0, ds0, p0, q0, hargs, rfl, rfl, h0, r0⟩ := trodAll_cons hA
  obtain ⟨v1, vs1, d1, ds1, p1, q1, rfl, rfl, rfl, h1, r1⟩ := trodAll_cons r0
  obtain ⟨rfl, rfl, rfl⟩ := trodAll_nil r1
  obtain rfl : args = #[v0, v1] := by cases args; simp_all
  obtain ⟨rfl, rfl⟩ := trodVars_none hV
  obtain ⟨a0, rfl, rfl, rfl, w0⟩ := open_int Try.underlying2 (hval 0 2 v0 rfl rfl) h0
  obtain ⟨a1, len1, cap1, rfl⟩ := okWide_slice Try.underlying29 (hval 1 29 v1 rfl rfl)
  have k1 := h1
  have lt1 : ∀ x ∈ p1, x.block < W.heap.size := by obtain ⟨m, hm⟩ := k1; exact DataW.trod_lt m _ _ _ hm
  obtain ⟨z1, w1⟩ : ∃ zs : List Int, Row W (.slice a1 len1 cap1) zs := by
    obtain ⟨fuel, hf⟩ := h1
    rcases open_ints Try.underlying29 Try.underlying2 (by kernel_rfl) hf with ⟨hcs, _⟩ | ⟨x, l, c, zs, hcs, _, hl, hm, hz, _, hcell, hwz⟩
    · simp [Value.cells] at hcs
      obtain ⟨rfl, rfl, rfl⟩ := hcs
      exact ⟨[], .inl ⟨_, _, rfl, rfl⟩⟩
    · simp [Value.cells] at hcs
      obtain ⟨rfl, rfl, rfl⟩ := hcs
      exact row_open hl hm (by simpa using hz) hcell hwz
  clear hA0 hval0
  refine (walk a0 _ z1 W w0 w1).mono fun e W' ⟨he, bel⟩ => ?_
  subst he
  exact ⟨_, rfl, _, _, _, [], _, [], hW', trodAll_mk1 (shut_bool Try.underlying4 _), (trodAll_cons_mk (shut_int Try.underlying2 w0) (trodAll_cons_mk (Below.trod laidOut (by kernel_rfl) (of_decide_eq_true (by kernel_rfl)) k1 bel lt1) trodAll_mk0)), rfl, bel.frame _, fun h => by cases h⟩
theorem over : Rows.moneyWholeRow.holds Try.pinned (OpenSpec.ofChange Rows.moneyWholeSpec) :=
  OpenClaim.holds_of_wide 6 Try.f6 rfl rfl rfl rfl rfl rfl rfl ⟨rfl, rfl, rfl, rfl, rfl⟩ rfl rfl rfl rfl rfl (by kernel_rfl) Try.func6 (by kernel_rfl)
    (of_decide_eq_true (by kernel_rfl)) (by unfold Func.isWrapper; first | (rw [if_pos (by decide +kernel)]; kernel_rfl) | (rw [if_neg (by decide +kernel)]; exact ⟨rfl, rfl⟩))
    (fun os started H enc _ => lifted os started H enc)
/-- The statement. -/
theorem proved : Rows.MoneyWholeSaid := over
#print axioms proved
end Go.Proofs.Ytcimppdeajhfmaa.moneyWhole
namespace Go.Proofs.Ytcimppdeajhfmaa
theorem moneyWhole_holds : Rows.MoneyWholeSaid := moneyWhole.proved
end Go.Proofs.Ytcimppdeajhfmaa
