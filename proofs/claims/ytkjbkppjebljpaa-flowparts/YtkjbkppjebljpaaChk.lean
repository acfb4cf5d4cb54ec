/- What Check answers, the program's and the document's, and checkDays. -/
import Derived.Test.YtkjbkppjebljpaaFRow
namespace Go.Proofs.Ytkjbkppjebljpaa
open Go.RowKit
set_option linter.unusedSimpArgs false
def getF (l : List (Int × Int)) (k : Nat) : Int × Int := l.getD k (0, 0)
theorem drop_getF {l : List (Int × Int)} {k : Nat} (h : k < l.length) : l.drop k = getF l k :: l.drop (k + 1) := by
  rw [List.drop_eq_getElem_cons h]
  simp [getF, List.getD, h]
theorem getF_64 {l : List (Int × Int)} (h : ∀ f ∈ l, In64 f.1 ∧ In64 f.2) (k : Nat) : In64 (getF l k).1 ∧ In64 (getF l k).2 := by
  by_cases hk : k < l.length
  · have : getF l k = l[k] := by simp [getF, List.getD, hk]
    rw [this]; exact h _ (List.getElem_mem hk)
  · have : getF l k = (0, 0) := by simp [getF, List.getD, List.getElem?_eq_none (Nat.le_of_not_lt hk)]
    rw [this]; exact ⟨⟨by omega, by omega⟩, ⟨by omega, by omega⟩⟩
/-- The cells of flows, in the world w. -/
def CellsF (w : World) (b off : Nat) (l : List (Int × Int)) : Prop := ∀ j, j < l.length → w.cell? ⟨b, off + j * 2, none⟩ = some (.int .i64 (getF l j).1) ∧ w.cell? ⟨b, off + j * 2 + 1, none⟩ = some (.int .i64 (getF l j).2)
theorem CellsF.keep {w w' : World} {b off : Nat} {l : List (Int × Int)} (h : CellsF w b off l) (hb : Below w.heap.size w w') : CellsF w' b off l := fun j hj =>
  ⟨(hb.cell (p := ⟨b, off + j * 2, none⟩) (lt_of_cell (h j hj).1)).trans (h j hj).1, (hb.cell (p := ⟨b, off + j * 2 + 1, none⟩) (lt_of_cell (h j hj).2)).trans (h j hj).2⟩
theorem follows_any (a n : Int) (w : World) : Calls Try.prog 34 #[.int .i64 a, .int .i64 n] w fun e w' => e = .returned (.bool (decide (a < n) && decide (n ≤ 3652059))) ∧ w = w' := by
  by_cases h : a < n
  · rw [decide_eq_true h, Bool.true_and]
    have h1 := decide_eq_true h
    go_enter Try.func34, Try.ntmps34
    go_wp2
    go_ret
    exact ⟨rfl, rfl⟩
  · rw [decide_eq_false h, Bool.false_and]
    have h1 := decide_eq_false h
    go_enter Try.func34, Try.ntmps34
    go_wp2
    go_ret
    exact ⟨rfl, rfl⟩
theorem chk_date {a : Int} {f : Int × Int} {r : List (Int × Int)} (h : (decide (a < f.1) && decide (f.1 ≤ 3652059)) = false) : chk a (f :: r) = 5 := by
  unfold chk
  rw [if_pos]
  by_cases c : a < f.1
  · rw [decide_eq_true c, Bool.true_and] at h
    have := of_decide_eq_false h
    omega
  · omega
theorem chk_arg {a : Int} {f : Int × Int} {r : List (Int × Int)} (h : (decide (a < f.1) && decide (f.1 ≤ 3652059)) = true) (h2 : may f.2 = false) : chk a (f :: r) = 2 := by
  unfold chk
  simp at h
  rw [if_neg (by omega), if_neg (by rw [h2]; decide)]
theorem chk_next {a : Int} {f : Int × Int} {r : List (Int × Int)} (h : (decide (a < f.1) && decide (f.1 ≤ 3652059)) = true) (h2 : may f.2 = true) : chk a (f :: r) = chk f.1 r := by
  conv => lhs; unfold chk
  simp at h
  rw [if_neg (by omega), if_pos h2]
theorem ret_int {a b : Int} (h : a = b) : Ending.returned (.int .i64 a) = .returned (.int .i64 b) := by rw [h]
theorem follows_of {a n : Int} {b : Bool} (h : (decide (a < n) && decide (n ≤ 3652059)) = b) (w : World) : Calls Try.prog 34 #[.int .i64 a, .int .i64 n] w fun e w' => e = .returned (.bool b) ∧ w = w' := by
  have := follows_any a n w
  rwa [h] at this
theorem may_of {a : Int} {b : Bool} (h : may a = b) (w : World) : Calls Try.prog 35 #[.int .i64 a] w fun e w' => e = .returned (.bool b) ∧ w = w' := by
  have := may_any a w
  rwa [h] at this
theorem rmay_of {a : Int} {b : Bool} (h : may a = b) (w : World) : Calls Try.prog 23 #[.int .i64 a] w fun e w' => e = .returned (.bool b) ∧ w = w' := by
  have := rmay_any a w
  rwa [h] at this
theorem below_new2 {w wr : World} (h : Below w.heap.size w wr) (o : Obj) : Below w.heap.size w (wr.alloc o) := h.alloc h.size o
/-- Check's answer. -/
def chkE (l : List (Int × Int)) : Int := if 600 < l.length then 10 else chk 0 l
theorem chkE_ok {l : List (Int × Int)} (h : chkE l = 0) : l.length ≤ 600 ∧ chk 0 l = 0 := by
  unfold chkE at h
  split at h
  · cases h
  · exact ⟨by omega, h⟩
theorem chkE_of {l : List (Int × Int)} (h1 : l.length ≤ 600) (h : chk 0 l = 0) : chkE l = 0 := by
  unfold chkE
  rw [if_neg (by omega)]
  exact h
set_option maxHeartbeats 1000000 in
theorem check_row (b off cap : Nat) (l : List (Int × Int)) (w : World) (hm : l.length ≤ 600) (hc : CellsF w b off l) :
    Calls Try.prog 18 #[.slice (some ⟨b, off, none⟩) l.length cap] w fun e w' => e = .returned (.int .i64 (chk 0 l)) ∧ Below w.heap.size w w' := by
  have HC := hide hc
  have HB := hide (Below.refl w.heap.size w)
  obtain ⟨c, ec⟩ : ∃ c, c = chk 0 l := ⟨_, rfl⟩
  rw [← ec]
  have H0 := hide ec.symm
  have HD := hide (fun k => drop_getF (l := l) (k := k))
  have HE : Hid (l.drop l.length = []) := hide (List.drop_length)
  clear ec hc
  generalize hl : l.length = len at *
  go_enter Try.func18, Try.ntmps18
  go_wp2_with fail
  go_loopw [3, 11] (fun a i wr => ∃ (k : Nat) (la : Int), k ≤ len ∧ a = .int .i64 la ∧ i = .int .i64 k ∧ Hid (chk la (l.drop k) = c) ∧ Hid (Below w.heap.size w wr)) (fun _ i _ => len - (intOf i).toNat)
  case atStart => exact ⟨0, 0, by omega, rfl, rfl, H0, HB⟩
  case round =>
    clear HB H0
    obtain ⟨k, la, hk, rfl, rfl, HK, HB⟩ := hrel
    by_cases hlt : k < len
    · obtain ⟨c0, c1⟩ := (unhide HC).keep ((unhide HB)) k (by rw [hl]; exact hlt)
      replace HK := hide ((congrArg (chk la) (unhide HD k hlt)).symm.trans (unhide HK))
      generalize getF l k = f at *
      obtain ⟨d, a⟩ := f
      replace c0 : wr.cell? ⟨b, off + k * 2, none⟩ = some (.int .i64 d) := c0
      replace c1 : wr.cell? ⟨b, off + k * 2 + 1, none⟩ = some (.int .i64 a) := c1
      replace HB := hide (below_new2 (unhide HB) (.cells #[.int .i64 d, .int .i64 a] 39))
      by_cases q : (decide (la < d) && decide (d ≤ 3652059)) = true
      · by_cases q2 : may a = true
        · replace HK := hide ((chk_next q q2).symm.trans (unhide HK))
          have q := hide q
          have q2 := hide q2
          go_wp2_with fail
          refine (follows_of (unhide q) _).mono ?_
          rintro e w' ⟨rfl, rfl⟩
          go_wp2_with fail
          refine (may_of (unhide q2) _).mono ?_
          rintro e w' ⟨rfl, rfl⟩
          go_wp2_with fail
          go_roundw
          case rel => exact ⟨k + 1, d, by omega, rfl, by go_num, HK, HB⟩
          case measure => simp [intOf]; omega
        · have q2 := hide (Bool.eq_false_iff.2 q2)
          replace HK := hide ((chk_arg q (unhide q2)).symm.trans (unhide HK))
          have q := hide q
          go_wp2_with fail
          refine (follows_of (unhide q) _).mono ?_
          rintro e w' ⟨rfl, rfl⟩
          go_wp2_with fail
          refine (may_of (unhide q2) _).mono ?_
          rintro e w' ⟨rfl, rfl⟩
          go_wp2_with fail
          go_ret
          exact ⟨ret_int (unhide HK), unhide HB⟩
      · have q := hide (Bool.eq_false_iff.2 q)
        replace HK := hide ((chk_date (unhide q)).symm.trans (unhide HK))
        go_wp2_with fail
        refine (follows_of (unhide q) _).mono ?_
        rintro e w' ⟨rfl, rfl⟩
        go_wp2_with fail
        go_ret
        exact ⟨ret_int (unhide HK), unhide HB⟩
    · have HK2 : Hid (0 = c) := hide (by
        obtain rfl : k = len := by omega
        have := unhide HK
        rw [unhide HE] at this
        exact this)
      go_wp2_with fail
      go_ret
      exact ⟨ret_int (unhide HK2), unhide HB⟩
theorem check_empty (x : Option Addr) (cap : Nat) (w : World) : Calls Try.prog 18 #[.slice x 0 cap] w fun e w' => e = .returned (.int .i64 0) ∧ Below w.heap.size w w' := by
  go_enter Try.func18, Try.ntmps18
  go_wp2_with fail
  refine wp_loop_rounds 1 ?_
  rw [rounds_succ]
  go_wp2_with fail
  go_ret
  exact ⟨rfl, Below.refl _ _⟩
theorem check_full (x : Option Addr) (len cap : Nat) (w : World) (h : 600 < len) : Calls Try.prog 18 #[.slice x len cap] w fun e w' => e = .returned (.int .i64 10) ∧ Below w.heap.size w w' := by
  have h1 : decide (600 < (len : Int)) = true := decide_eq_true (by omega)
  go_enter Try.func18, Try.ntmps18
  go_wp2_with fail
  go_ret
  exact ⟨rfl, Below.refl _ _⟩
theorem check_any (v : Value) (l : List (Int × Int)) (w : World) (h : RowF w v l) : Calls Try.prog 18 #[v] w fun e w' => e = .returned (.int .i64 (chkE l)) ∧ Below w.heap.size w w' := by
  by_cases hf : 600 < l.length
  · obtain ⟨a, cap, rfl⟩ := rowF_slice h
    rw [show chkE l = 10 from if_pos hf]
    exact check_full a _ cap w hf
  · rw [show chkE l = chk 0 l from if_neg hf]
    rcases h with ⟨a, cap, rfl, rfl, _⟩ | ⟨b, off, cap, rfl, h0, _, hm, hc, hin⟩
    · exact check_empty a cap w
    · exact check_row b off cap l w (by omega) hc
set_option maxHeartbeats 1000000 in
theorem rcheck_row (b off cap : Nat) (l : List (Int × Int)) (w : World) (hm : l.length ≤ 600) (hc : CellsF w b off l) :
    Calls Try.prog 19 #[.slice (some ⟨b, off, none⟩) l.length cap] w fun e w' => e = .returned (.int .i64 (chk 0 l)) ∧ Below w.heap.size w w' := by
  have HC := hide hc
  have HB := hide (Below.refl w.heap.size w)
  obtain ⟨c, ec⟩ : ∃ c, c = chk 0 l := ⟨_, rfl⟩
  rw [← ec]
  have H0 := hide ec.symm
  have HD := hide (fun k => drop_getF (l := l) (k := k))
  have HE : Hid (l.drop l.length = []) := hide (List.drop_length)
  clear ec hc
  generalize hl : l.length = len at *
  go_enter Try.func19, Try.ntmps19
  go_wp2_with fail
  go_loopw [3, 11] (fun a i wr => ∃ (k : Nat) (la : Int), k ≤ len ∧ a = .int .i64 la ∧ i = .int .i64 k ∧ Hid (chk la (l.drop k) = c) ∧ Hid (Below w.heap.size w wr)) (fun _ i _ => len - (intOf i).toNat)
  case atStart => exact ⟨0, 0, by omega, rfl, rfl, H0, HB⟩
  case round =>
    clear HB H0
    obtain ⟨k, la, hk, rfl, rfl, HK, HB⟩ := hrel
    by_cases hlt : k < len
    · obtain ⟨c0, c1⟩ := (unhide HC).keep ((unhide HB)) k (by rw [hl]; exact hlt)
      replace HK := hide ((congrArg (chk la) (unhide HD k hlt)).symm.trans (unhide HK))
      generalize getF l k = f at *
      obtain ⟨d, a⟩ := f
      replace c0 : wr.cell? ⟨b, off + k * 2, none⟩ = some (.int .i64 d) := c0
      replace c1 : wr.cell? ⟨b, off + k * 2 + 1, none⟩ = some (.int .i64 a) := c1
      replace HB := hide (below_new2 (unhide HB) (.cells #[.int .i64 d, .int .i64 a] 40))
      by_cases q0 : d ≤ la
      · replace HK := hide ((chk_date (by simp; omega)).symm.trans (unhide HK))
        have q1 := decide_eq_true q0
        go_wp2_with fail
        go_ret
        exact ⟨ret_int (unhide HK), unhide HB⟩
      · by_cases q3 : 3652059 < d
        · replace HK := hide ((chk_date (by simp; omega)).symm.trans (unhide HK))
          have q1 := decide_eq_false q0
          have q4 := decide_eq_true q3
          go_wp2_with fail
          go_ret
          exact ⟨ret_int (unhide HK), unhide HB⟩
        · have q1 := decide_eq_false q0
          have q4 := decide_eq_false q3
          have q : (decide (la < d) && decide (d ≤ 3652059)) = true := by simp; omega
          by_cases q2 : may a = true
          · replace HK := hide ((chk_next q q2).symm.trans (unhide HK))
            clear q
            have q2 := hide q2
            go_wp2_with fail
            refine (rmay_of (unhide q2) _).mono ?_
            rintro e w' ⟨rfl, rfl⟩
            go_wp2_with fail
            go_roundw
            case rel => exact ⟨k + 1, d, by omega, rfl, by go_num, HK, HB⟩
            case measure => simp [intOf]; omega
          · have q2 := hide (Bool.eq_false_iff.2 q2)
            replace HK := hide ((chk_arg q (unhide q2)).symm.trans (unhide HK))
            clear q
            go_wp2_with fail
            refine (rmay_of (unhide q2) _).mono ?_
            rintro e w' ⟨rfl, rfl⟩
            go_wp2_with fail
            go_ret
            exact ⟨ret_int (unhide HK), unhide HB⟩
    · have HK2 : Hid (0 = c) := hide (by
        obtain rfl : k = len := by omega
        have := unhide HK
        rw [unhide HE] at this
        exact this)
      go_wp2_with fail
      go_ret
      exact ⟨ret_int (unhide HK2), unhide HB⟩
theorem rcheck_empty (x : Option Addr) (cap : Nat) (w : World) : Calls Try.prog 19 #[.slice x 0 cap] w fun e w' => e = .returned (.int .i64 0) ∧ Below w.heap.size w w' := by
  go_enter Try.func19, Try.ntmps19
  go_wp2_with fail
  refine wp_loop_rounds 1 ?_
  rw [rounds_succ]
  go_wp2_with fail
  go_ret
  exact ⟨rfl, Below.refl _ _⟩
theorem rcheck_full (x : Option Addr) (len cap : Nat) (w : World) (h : 600 < len) : Calls Try.prog 19 #[.slice x len cap] w fun e w' => e = .returned (.int .i64 10) ∧ Below w.heap.size w w' := by
  have h1 : decide (600 < (len : Int)) = true := decide_eq_true (by omega)
  go_enter Try.func19, Try.ntmps19
  go_wp2_with fail
  go_ret
  exact ⟨rfl, Below.refl _ _⟩
theorem rcheck_any (v : Value) (l : List (Int × Int)) (w : World) (h : RowF w v l) : Calls Try.prog 19 #[v] w fun e w' => e = .returned (.int .i64 (chkE l)) ∧ Below w.heap.size w w' := by
  by_cases hf : 600 < l.length
  · obtain ⟨a, cap, rfl⟩ := rowF_slice h
    rw [show chkE l = 10 from if_pos hf]
    exact rcheck_full a _ cap w hf
  · rw [show chkE l = chk 0 l from if_neg hf]
    rcases h with ⟨a, cap, rfl, rfl, _⟩ | ⟨b, off, cap, rfl, h0, _, hm, hc, hin⟩
    · exact rcheck_empty a cap w
    · exact rcheck_row b off cap l w (by omega) hc
/-- The error of days, behind a day. -/
def chkD (last : Int) : List Int → Int
  | [] => 0
  | d :: r => if last < d ∧ d ≤ 3652059 then chkD d r else 5
theorem chkD_no {a d : Int} {r : List Int} (h : ¬ (a < d ∧ d ≤ 3652059)) : chkD a (d :: r) = 5 := if_neg h
theorem chkD_next {a d : Int} {r : List Int} (h : a < d ∧ d ≤ 3652059) : chkD a (d :: r) = chkD d r := if_pos h
def dayE (ds : List Int) : Int := if 600 < ds.length then 10 else chkD 0 ds
def CellsI (w : World) (b off : Nat) (l : List Int) : Prop := ∀ j, j < l.length → w.cell? ⟨b, off + j, none⟩ = some (.int .i64 (l.getD j 0))
theorem CellsI.keep {w w' : World} {b off : Nat} {l : List Int} (h : CellsI w b off l) (hb : Below w.heap.size w w') : CellsI w' b off l := fun j hj =>
  (hb.cell (p := ⟨b, off + j, none⟩) (lt_of_cell (h j hj))).trans (h j hj)
theorem drop_getI {l : List Int} {k : Nat} (h : k < l.length) : l.drop k = l.getD k 0 :: l.drop (k + 1) := by
  rw [List.drop_eq_getElem_cons h]
  simp [List.getD, h]
theorem days_row (b off cap : Nat) (l : List Int) (w : World) (hm : l.length ≤ 600) (hc : CellsI w b off l) :
    Calls Try.prog 36 #[.slice (some ⟨b, off, none⟩) l.length cap] w fun e w' => e = .returned (.int .i64 (chkD 0 l)) ∧ w = w' := by
  have HC := hide hc
  obtain ⟨c, ec⟩ : ∃ c, c = chkD 0 l := ⟨_, rfl⟩
  rw [← ec]
  have H0 := hide ec.symm
  have HD := hide (fun k => drop_getI (l := l) (k := k))
  have HE : Hid (l.drop l.length = []) := hide (List.drop_length)
  clear ec hc
  generalize hl : l.length = len at *
  go_enter Try.func36, Try.ntmps36
  go_wp2_with fail
  go_loop [3, 11] (fun a i => ∃ (k : Nat) (la : Int), k ≤ len ∧ a = .int .i64 la ∧ i = .int .i64 k ∧ Hid (chkD la (l.drop k) = c)) (fun _ i => len - (intOf i).toNat)
  case atStart => exact ⟨0, 0, by omega, rfl, rfl, H0⟩
  case round =>
    clear H0
    obtain ⟨k, la, hk, rfl, rfl, HK⟩ := hrel
    by_cases hlt : k < len
    · have c0 := unhide HC k (by rw [hl]; exact hlt)
      replace HK := hide ((congrArg (chkD la) (unhide HD k hlt)).symm.trans (unhide HK))
      generalize l.getD k 0 = d at *
      by_cases q0 : la < d ∧ d ≤ 3652059
      · replace HK := hide ((chkD_next q0).symm.trans (unhide HK))
        have q : Hid ((decide (la < d) && decide (d ≤ 3652059)) = true) := hide (by simp; omega)
        go_wp2_with fail
        refine (follows_of (unhide q) _).mono ?_
        rintro e w' ⟨rfl, rfl⟩
        go_wp2_with fail
        go_round
        case rel => exact ⟨k + 1, d, by omega, rfl, by go_num, HK⟩
        case measure => simp [intOf]; omega
      · replace HK := hide ((chkD_no q0).symm.trans (unhide HK))
        have q : Hid ((decide (la < d) && decide (d ≤ 3652059)) = false) := hide (by simp; omega)
        go_wp2_with fail
        refine (follows_of (unhide q) _).mono ?_
        rintro e w' ⟨rfl, rfl⟩
        go_wp2_with fail
        go_ret
        exact ⟨ret_int (unhide HK), rfl⟩
    · have HK2 : Hid (0 = c) := hide (by
        obtain rfl : k = len := by omega
        have := unhide HK
        rw [unhide HE] at this
        exact this)
      go_wp2_with fail
      go_ret
      exact ⟨ret_int (unhide HK2), rfl⟩
theorem days_empty (x : Option Addr) (cap : Nat) (w : World) : Calls Try.prog 36 #[.slice x 0 cap] w fun e w' => e = .returned (.int .i64 0) ∧ w = w' := by
  go_enter Try.func36, Try.ntmps36
  go_wp2_with fail
  refine wp_loop_rounds 1 ?_
  rw [rounds_succ]
  go_wp2_with fail
  go_ret
  exact ⟨rfl, rfl⟩
theorem days_full (x : Option Addr) (len cap : Nat) (w : World) (h : 600 < len) : Calls Try.prog 36 #[.slice x len cap] w fun e w' => e = .returned (.int .i64 10) ∧ w = w' := by
  have h1 : decide (600 < (len : Int)) = true := decide_eq_true (by omega)
  go_enter Try.func36, Try.ntmps36
  go_wp2_with fail
  go_ret
  exact ⟨rfl, rfl⟩
theorem days_any (v : Value) (l : List Int) (w : World) (h : Row w v l) : Calls Try.prog 36 #[v] w fun e w' => e = .returned (.int .i64 (dayE l)) ∧ w = w' := by
  by_cases hf : 600 < l.length
  · obtain ⟨a, cap, rfl⟩ := row_slice h
    rw [show dayE l = 10 from if_pos hf]
    exact days_full a _ cap w hf
  · rw [show dayE l = chkD 0 l from if_neg hf]
    rcases h with ⟨a, cap, rfl, rfl⟩ | ⟨b, off, cap, rfl, h0, hm, hc, hin⟩
    · exact days_empty a cap w
    · exact days_row b off cap l w (by omega) hc
end Go.Proofs.Ytkjbkppjebljpaa
