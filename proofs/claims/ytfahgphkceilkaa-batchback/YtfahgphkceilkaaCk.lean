/- Whether lines may be. -/
import Derived.Test.YtfahgphkceilkaaLd
import Derived.Test.YtfahgphkceilkaaFs
namespace Go.Proofs.Ytfahgphkceilkaa
open Go.RowKit
set_option linter.unusedVariables false
set_option linter.unusedSimpArgs false
/-- May a line be? -/
def lineB (x : Li) : Bool := accB x.1 && (x.2 != 0) && decide (-1125899906842624 ≤ x.2) && decide (x.2 ≤ 1125899906842624)
theorem line_yes {p q : Int} (h1 : accB p = true) (h2 : ¬ q = 0) (h3 : ¬ q < -1125899906842624) (h4 : ¬ 1125899906842624 < q) : lineB (p, q) = true := by
  unfold lineB
  rw [h1, show ((p, q) : Li).2 = q from rfl, show (q != 0) = true by simpa using h2, decide_eq_true (by omega), decide_eq_true (by omega)]
  rfl
theorem line_acc {p q : Int} (h : accB p = false) : lineB (p, q) = false := by unfold lineB; rw [h]; rfl
theorem line_zero {p q : Int} (h : q = 0) : lineB (p, q) = false := by unfold lineB; subst h; simp
theorem line_less {p q : Int} (h : q < -1125899906842624) : lineB (p, q) = false := by unfold lineB; simp; omega
theorem line_more {p q : Int} (h : 1125899906842624 < q) : lineB (p, q) = false := by unfold lineB; simp; omega
theorem line_bd {x : Li} (h : lineB x = true) : -1125899906842624 ≤ x.2 ∧ x.2 ≤ 1125899906842624 := by
  unfold lineB at h
  simp only [Bool.and_eq_true, decide_eq_true_eq] at h
  exact ⟨h.1.2, h.2⟩
theorem wrap_in' {n : Int} (h : In64 n) : IntKind.i64.wrap n = n := by
  obtain ⟨a, b⟩ := h
  rw [IntKind.wrap_i64]
  omega
def total : List Int → Int
  | [] => 0
  | x :: r => x + total r
theorem total_append (l m : List Int) : total (l ++ m) = total l + total m := by
  induction l with
  | nil => simp [total]
  | cons x r ih => rw [List.cons_append, total, total, ih, Int.add_assoc]
def tot (l : List Li) : Int := total (l.map (·.2))
theorem tot_take (l : List Li) {k : Nat} (h : k < l.length) : tot (l.take (k + 1)) = tot (l.take k) + (liA l k).2 := by
  unfold tot
  rw [← take_getD (d := (0, 0)) h, List.map_append, total_append]
  simp [total]
theorem tot_bd {l : List Li} (h : l.all lineB = true) : -1125899906842624 * (l.length : Int) ≤ tot l ∧ tot l ≤ 1125899906842624 * (l.length : Int) := by
  induction l with
  | nil => simp [tot, total]
  | cons x r ih =>
    rw [List.all_cons, Bool.and_eq_true] at h
    have h1 := line_bd h.1
    have h2 := ih h.2
    have e : tot (x :: r) = x.2 + tot r := by simp [tot, total]
    rw [e, List.length_cons]
    omega
theorem all_take {l : List Li} {k : Nat} (h : k < l.length) (h1 : (l.take k).all lineB = true) (h2 : lineB (liA l k) = true) : (l.take (k + 1)).all lineB = true := by
  rw [← take_getD (d := (0, 0)) h, List.all_append, h1]
  simpa [liA] using h2
theorem all_none {l : List Li} {k : Nat} (h : k < l.length) (h2 : lineB (liA l k) = false) : l.all lineB = false := by
  cases hb : l.all lineB with
  | false => rfl
  | true => rw [List.all_eq_true.1 hb _ (liA_mem h)] at h2; exact h2
def chkE (l : List Li) : Int := if 64 < l.length then 10 else if l.all lineB = true ∧ ¬ l.length = 0 ∧ tot l = 0 then 0 else 2
set_option maxHeartbeats 1000000 in
theorem may_any (p q : Int) (w : World) : Calls Try.prog 37 #[.agg #[.int .i64 p, .int .i64 q]] w fun e w' => e = .returned (.bool (lineB (p, q))) ∧ Below w.heap.size w w' := by
  have HA := hide (fun W => isacc_any p W)
  generalize hR : lineB (p, q) = R at *
  have HB := hide (below1 w (.cells #[.int .i64 p, .int .i64 q] 54))
  have HX := hide (Blk.new w #[.int .i64 p, .int .i64 q] 54)
  go_enter Try.func37, Try.ntmps37
  go_wp2_with fail
  generalize w.alloc (.cells #[.int .i64 p, .int .i64 q] 54) = w1 at *
  refine (unhide HA _).mono ?_
  rintro e w2 ⟨rfl, hb⟩
  replace HB := hide (below_via (unhide HB) hb)
  replace HX := hide ((unhide HX).keep hb)
  clear hb HA
  have m0 := (unhide HX).at 0 _ rfl
  have m1 := (unhide HX).at 1 _ rfl
  clear HX
  cases hB : accB p with
  | false =>
    obtain rfl : R = false := hR.symm.trans (line_acc hB)
    clear hB hR
    go_wp2_with fail
    go_ret
    exact ⟨rfl, unhide HB⟩
  | true =>
    by_cases h2 : q = 0
    · obtain rfl : R = false := hR.symm.trans (line_zero h2)
      subst h2
      clear hB hR
      go_wp2_with fail
      go_ret
      exact ⟨rfl, unhide HB⟩
    · have d2 : (q != 0) = true := by simpa using h2
      by_cases h3 : q < -1125899906842624
      · obtain rfl : R = false := hR.symm.trans (line_less h3)
        have d3 : decide (-1125899906842624 ≤ q) = false := decide_eq_false (by omega)
        clear hB hR
        go_wp2_with fail
        go_ret
        exact ⟨rfl, unhide HB⟩
      · have d3 : decide (-1125899906842624 ≤ q) = true := decide_eq_true (by omega)
        by_cases h4 : 1125899906842624 < q
        · obtain rfl : R = false := hR.symm.trans (line_more h4)
          have d4 : decide (q ≤ 1125899906842624) = false := decide_eq_false (by omega)
          clear hB hR
          go_wp2_with fail
          go_ret
          exact ⟨rfl, unhide HB⟩
        · obtain rfl : R = true := hR.symm.trans (line_yes hB h2 h3 h4)
          have d4 : decide (q ≤ 1125899906842624) = true := decide_eq_true (by omega)
          clear hB hR
          go_wp2_with fail
          go_ret
          exact ⟨rfl, unhide HB⟩
theorem chk_long (a : Option Addr) (n cap : Nat) (d1 : decide ((64 : Int) < (n : Int)) = true) (w : World) : Calls Try.prog 29 #[.slice a n cap] w fun e w' => e = .returned (.int .i64 10) ∧ w = w' := by
  go_enter Try.func29, Try.ntmps29
  go_wp2_with fail
  go_ret
  exact ⟨rfl, rfl⟩
theorem chk_empty (a : Option Addr) (cap : Nat) (w : World) : Calls Try.prog 29 #[.slice a 0 cap] w fun e w' => e = .returned (.int .i64 2) ∧ w = w' := by
  go_enter Try.func29, Try.ntmps29
  go_wp2_with fail
  refine wp_loop_rounds 1 ?_
  rw [rounds_succ]
  go_wp2_with fail
  go_ret
  exact ⟨rfl, rfl⟩
set_option maxHeartbeats 1000000 in
theorem chk_row (b off cap : Nat) (l : List Li) (w : World) (h0 : 0 < l.length) (hm : l.length ≤ 64) (hU : RowG 2 w (.slice (some ⟨b, off, none⟩) l.length cap) (l.map liL)) :
    Calls Try.prog 29 #[.slice (some ⟨b, off, none⟩) l.length cap] w fun e w' => e = .returned (.int .i64 (chkE l)) ∧ Below w.heap.size w w' := by
  have HU := hide hU
  have HT := hide (fun k => tot_take l (k := k))
  have HY := hide (fun k => all_take (l := l) (k := k))
  have HN := hide (fun k => all_none (l := l) (k := k))
  have HA : Hid (l.take l.length = l) := hide (by rw [List.take_length])
  have HB : Hid (∀ k, k ≤ l.length → (l.take k).all lineB = true → -1125899906842624 * 64 ≤ tot (l.take k) ∧ tot (l.take k) ≤ 1125899906842624 * 64) := hide (fun k hk h => by have := tot_bd h; rw [List.length_take] at this; omega)
  have HE : Hid (chkE l = if l.all lineB = true ∧ tot l = 0 then 0 else 2) := hide (by
    unfold chkE
    rw [if_neg (by omega)]
    by_cases h : l.all lineB = true ∧ tot l = 0
    · rw [if_pos h, if_pos ⟨h.1, by omega, h.2⟩]
    · rw [if_neg h, if_neg (fun c => h ⟨c.1, c.2.2⟩)])
  generalize chkE l = E at *
  clear hU
  have d1 : decide ((64 : Int) < (l.length : Int)) = false := decide_eq_false (by omega)
  have d2 : ((l.length : Int) == 0) = false := beq_eq_false_iff_ne.2 (by omega)
  generalize hl : l.length = len at *
  go_enter Try.func29, Try.ntmps29
  go_wp2_with fail
  go_loopw [3, 11] (fun s i wr => ∃ k : Nat, k ≤ len ∧ i = .int .i64 k ∧ s = .int .i64 (tot (l.take k)) ∧ Hid (Below w.heap.size w wr) ∧ Hid ((l.take k).all lineB = true)) (fun _ i _ => len - (intOf i).toNat)
  case atStart => exact ⟨0, by omega, rfl, rfl, hide (Below.refl _ _), hide rfl⟩
  case round =>
    obtain ⟨k, hk, rfl, rfl, HW, HS⟩ := hrel
    by_cases hlt : k < len
    · have hU2 := (unhide HU).keep (unhide HW)
      obtain ⟨m0, m1⟩ := hU2.li (k := k) (by rw [hl]; exact hlt)
      have ht := hide (unhide HT k hlt)
      have hy := hide (unhide HY k hlt (unhide HS))
      have hn := hide (unhide HN k hlt)
      have hb1 := unhide HB k hk (unhide HS)
      have hx := hide (fun h => line_bd (x := liA l k) h)
      have k1 : (k : Int) < (len : Int) := by omega
      clear HT HY HN
      generalize liA l k = x at *
      obtain ⟨p, q⟩ := x
      simp only [] at m0 m1
      have ht' : Hid (tot (l.take (k + 1)) = tot (l.take k) + q) := ht
      clear ht
      replace HW := hide (below_via (unhide HW) (below1 wr (.cells #[.int .i64 p, .int .i64 q] 54)))
      generalize hS : tot (l.take k) = S at *
      replace hS := hide hS
      clear hU2
      have HX := hide (Blk.new wr #[.int .i64 p, .int .i64 q] 54)
      have HM := hide (fun W => may_any p q W)
      go_wp2_with fail
      generalize wr.alloc (.cells #[.int .i64 p, .int .i64 q] 54) = w1 at *
      refine (unhide HM _).mono ?_
      rintro e w2 ⟨rfl, hb⟩
      replace HW := hide (below_via (unhide HW) hb)
      replace HX := hide ((unhide HX).keep hb)
      clear hb HM
      have c1 := (unhide HX).at 1 _ rfl
      clear HX
      generalize wr.heap.size = nb at *
      cases hB : lineB (p, q) with
      | false =>
        have hE := hide ((unhide HE).trans (if_neg (fun c => by rw [unhide hn hB] at c; cases c.1)))
        clear hB HE hn hy hx HB
        go_wp2_with fail
        go_ret
        exact ⟨by rw [unhide hE]; rfl, unhide HW⟩
      | true =>
        have hG := hide (unhide hy hB)
        have hb2 : -1125899906842624 ≤ q ∧ q ≤ 1125899906842624 := unhide hx hB
        have hw : IntKind.i64.wrap (S + q) = S + q := wrap_in' ⟨by omega, by omega⟩
        clear hB hn hy hx HB
        go_wp2_with fail
        go_roundw
        case rel => exact ⟨k + 1, by omega, by go_num, by rw [unhide ht'], HW, hG⟩
        case measure => simp [intOf]; omega
    · obtain rfl : k = len := by omega
      have hb1 := unhide HB k hk (unhide HS)
      rw [unhide HA] at HS hb1
      rw [unhide HA]
      have HSa := unhide HS
      by_cases hz : tot l = 0
      · have hE := hide ((unhide HE).trans (if_pos ⟨HSa, hz⟩))
        have d3 : (tot l != 0) = false := by simp [hz]
        clear HSa HE hz
        generalize tot l = S at *
        go_wp2_with fail
        go_ret
        exact ⟨by rw [unhide hE]; rfl, unhide HW⟩
      · have hE := hide ((unhide HE).trans (if_neg (fun c => hz c.2)))
        have d3 : (tot l != 0) = true := by simpa using hz
        clear HSa HE hz
        generalize tot l = S at *
        go_wp2_with fail
        go_ret
        exact ⟨by rw [unhide hE]; rfl, unhide HW⟩
theorem chk_any (v : Value) (l : List Li) (w : World) (h : RowG 2 w v (l.map liL)) : Calls Try.prog 29 #[v] w fun e w' => e = .returned (.int .i64 (chkE l)) ∧ Below w.heap.size w w' := by
  obtain ⟨a, cap, rfl⟩ := rowG_slice h
  rw [List.length_map] at h ⊢
  by_cases h1 : 64 < l.length
  · have e : chkE l = 10 := by unfold chkE; rw [if_pos h1]
    rw [e]
    refine (chk_long a _ cap (decide_eq_true (by omega)) w).mono ?_
    rintro e w' ⟨rfl, rfl⟩
    exact ⟨rfl, Below.refl _ _⟩
  · by_cases h0 : l.length = 0
    · have e : chkE l = 2 := by unfold chkE; rw [if_neg h1, if_neg (fun c => c.2.1 h0)]
      rw [e, h0]
      refine (chk_empty a cap w).mono ?_
      rintro e w' ⟨rfl, rfl⟩
      exact ⟨rfl, Below.refl _ _⟩
    · obtain ⟨b, off, cp, e, _, _⟩ := h.open (by rw [List.length_map]; omega)
      rw [List.length_map] at e
      cases e
      exact chk_row b off cap l w (by omega) (by omega) h
theorem rchk_long (a : Option Addr) (n cap : Nat) (d1 : decide ((64 : Int) < (n : Int)) = true) (w : World) : Calls Try.prog 30 #[.slice a n cap] w fun e w' => e = .returned (.int .i64 10) ∧ w = w' := by
  go_enter Try.func30, Try.ntmps30
  go_wp2_with fail
  go_ret
  exact ⟨rfl, rfl⟩
theorem rchk_empty (a : Option Addr) (cap : Nat) (w : World) : Calls Try.prog 30 #[.slice a 0 cap] w fun e w' => e = .returned (.int .i64 2) ∧ w = w' := by
  go_enter Try.func30, Try.ntmps30
  go_wp2_with fail
  refine wp_loop_rounds 1 ?_
  rw [rounds_succ]
  go_wp2_with fail
  go_ret
  exact ⟨rfl, rfl⟩
set_option maxHeartbeats 1000000 in
theorem rchk_row (b off cap : Nat) (l : List Li) (w : World) (h0 : 0 < l.length) (hm : l.length ≤ 64) (hU : RowG 2 w (.slice (some ⟨b, off, none⟩) l.length cap) (l.map liL)) :
    Calls Try.prog 30 #[.slice (some ⟨b, off, none⟩) l.length cap] w fun e w' => e = .returned (.int .i64 (chkE l)) ∧ Below w.heap.size w w' := by
  have HU := hide hU
  have HT := hide (fun k => tot_take l (k := k))
  have HY := hide (fun k => all_take (l := l) (k := k))
  have HN := hide (fun k => all_none (l := l) (k := k))
  have HA : Hid (l.take l.length = l) := hide (by rw [List.take_length])
  have HB : Hid (∀ k, k ≤ l.length → (l.take k).all lineB = true → -1125899906842624 * 64 ≤ tot (l.take k) ∧ tot (l.take k) ≤ 1125899906842624 * 64) := hide (fun k hk h => by have := tot_bd h; rw [List.length_take] at this; omega)
  have HE : Hid (chkE l = if l.all lineB = true ∧ tot l = 0 then 0 else 2) := hide (by
    unfold chkE
    rw [if_neg (by omega)]
    by_cases h : l.all lineB = true ∧ tot l = 0
    · rw [if_pos h, if_pos ⟨h.1, by omega, h.2⟩]
    · rw [if_neg h, if_neg (fun c => h ⟨c.1, c.2.2⟩)])
  generalize chkE l = E at *
  clear hU
  have d1 : decide ((64 : Int) < (l.length : Int)) = false := decide_eq_false (by omega)
  have d2 : ((l.length : Int) == 0) = false := beq_eq_false_iff_ne.2 (by omega)
  generalize hl : l.length = len at *
  go_enter Try.func30, Try.ntmps30
  go_wp2_with fail
  go_loopw [3, 11] (fun s i wr => ∃ k : Nat, k ≤ len ∧ i = .int .i64 k ∧ s = .int .i64 (tot (l.take k)) ∧ Hid (Below w.heap.size w wr) ∧ Hid ((l.take k).all lineB = true)) (fun _ i _ => len - (intOf i).toNat)
  case atStart => exact ⟨0, by omega, rfl, rfl, hide (Below.refl _ _), hide rfl⟩
  case round =>
    obtain ⟨k, hk, rfl, rfl, HW, HS⟩ := hrel
    by_cases hlt : k < len
    · have hU2 := (unhide HU).keep (unhide HW)
      obtain ⟨m0, m1⟩ := hU2.li (k := k) (by rw [hl]; exact hlt)
      have ht := hide (unhide HT k hlt)
      have hy := hide (unhide HY k hlt (unhide HS))
      have hn := hide (unhide HN k hlt)
      have hb1 := unhide HB k hk (unhide HS)
      have hx := hide (fun h => line_bd (x := liA l k) h)
      have k1 : (k : Int) < (len : Int) := by omega
      clear HT HY HN
      generalize liA l k = x at *
      obtain ⟨p, q⟩ := x
      simp only [] at m0 m1
      have ht' : Hid (tot (l.take (k + 1)) = tot (l.take k) + q) := ht
      clear ht
      replace HW := hide (below_via (unhide HW) (below1 wr (.cells #[.int .i64 p, .int .i64 q] 60)))
      generalize hS : tot (l.take k) = S at *
      replace hS := hide hS
      clear hU2
      by_cases h1 : p < 1
      · have f := line_acc (q := q) (show accB p = false by unfold accB; rw [decide_eq_false (by omega)]; rfl)
        have hE := hide ((unhide HE).trans (if_neg (fun c => by rw [unhide hn f] at c; cases c.1)))
        clear f HE hn hy hx HB
        go_wp2_with fail
        go_ret
        exact ⟨by rw [unhide hE]; rfl, unhide HW⟩
      by_cases h2 : 7 < p
      · have f := line_acc (q := q) (show accB p = false by unfold accB; rw [decide_eq_false (p := p ≤ 7) (by omega), Bool.and_false])
        have hE := hide ((unhide HE).trans (if_neg (fun c => by rw [unhide hn f] at c; cases c.1)))
        clear f HE hn hy hx HB
        go_wp2_with fail
        go_ret
        exact ⟨by rw [unhide hE]; rfl, unhide HW⟩
      by_cases h3 : q < -1125899906842624
      · have f := line_less (p := p) h3
        have hE := hide ((unhide HE).trans (if_neg (fun c => by rw [unhide hn f] at c; cases c.1)))
        clear f HE hn hy hx HB
        go_wp2_with fail
        go_ret
        exact ⟨by rw [unhide hE]; rfl, unhide HW⟩
      by_cases h4 : 1125899906842624 < q
      · have f := line_more (p := p) h4
        have hE := hide ((unhide HE).trans (if_neg (fun c => by rw [unhide hn f] at c; cases c.1)))
        clear f HE hn hy hx HB
        go_wp2_with fail
        go_ret
        exact ⟨by rw [unhide hE]; rfl, unhide HW⟩
      by_cases h5 : q = 0
      · have f := line_zero (p := p) h5
        subst h5
        have hE := hide ((unhide HE).trans (if_neg (fun c => by rw [unhide hn f] at c; cases c.1)))
        clear f HE hn hy hx HB
        go_wp2_with fail
        go_ret
        exact ⟨by rw [unhide hE]; rfl, unhide HW⟩
      have d5 : (q == 0) = false := by simpa using h5
      have f := line_yes (show accB p = true by unfold accB; rw [decide_eq_true (by omega), decide_eq_true (by omega)]; rfl) h5 h3 h4
      have hG := hide (unhide hy f)
      have hb2 : -1125899906842624 ≤ q ∧ q ≤ 1125899906842624 := unhide hx f
      have hw : IntKind.i64.wrap (S + q) = S + q := wrap_in' ⟨by omega, by omega⟩
      clear f hn hy hx HB
      go_wp2_with fail
      go_roundw
      case rel => exact ⟨k + 1, by omega, by go_num, by rw [unhide ht'], HW, hG⟩
      case measure => simp [intOf]; omega
    · obtain rfl : k = len := by omega
      have hb1 := unhide HB k hk (unhide HS)
      rw [unhide HA] at HS hb1
      rw [unhide HA]
      have HSa := unhide HS
      by_cases hz : tot l = 0
      · have hE := hide ((unhide HE).trans (if_pos ⟨HSa, hz⟩))
        have d3 : (tot l != 0) = false := by simp [hz]
        clear HSa HE hz
        generalize tot l = S at *
        go_wp2_with fail
        go_ret
        exact ⟨by rw [unhide hE]; rfl, unhide HW⟩
      · have hE := hide ((unhide HE).trans (if_neg (fun c => hz c.2)))
        have d3 : (tot l != 0) = true := by simpa using hz
        clear HSa HE hz
        generalize tot l = S at *
        go_wp2_with fail
        go_ret
        exact ⟨by rw [unhide hE]; rfl, unhide HW⟩
theorem rchk_any (v : Value) (l : List Li) (w : World) (h : RowG 2 w v (l.map liL)) : Calls Try.prog 30 #[v] w fun e w' => e = .returned (.int .i64 (chkE l)) ∧ Below w.heap.size w w' := by
  obtain ⟨a, cap, rfl⟩ := rowG_slice h
  rw [List.length_map] at h ⊢
  by_cases h1 : 64 < l.length
  · have e : chkE l = 10 := by unfold chkE; rw [if_pos h1]
    rw [e]
    refine (rchk_long a _ cap (decide_eq_true (by omega)) w).mono ?_
    rintro e w' ⟨rfl, rfl⟩
    exact ⟨rfl, Below.refl _ _⟩
  · by_cases h0 : l.length = 0
    · have e : chkE l = 2 := by unfold chkE; rw [if_neg h1, if_neg (fun c => c.2.1 h0)]
      rw [e, h0]
      refine (rchk_empty a cap w).mono ?_
      rintro e w' ⟨rfl, rfl⟩
      exact ⟨rfl, Below.refl _ _⟩
    · obtain ⟨b, off, cp, e, _, _⟩ := h.open (by rw [List.length_map]; omega)
      rw [List.length_map] at e
      cases e
      exact rchk_row b off cap l w (by omega) (by omega) h
end Go.Proofs.Ytfahgphkceilkaa
