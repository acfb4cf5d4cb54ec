/- May the stages' opens be, and all changes? -/
import Derived.Test.YtkccladbcehdbaaLf
namespace Go.Proofs.Ytkccladbcehdbaa
open Go.RowKit
set_option linter.unusedVariables false
set_option linter.unusedSimpArgs false
theorem info50 : (Try.prog.info? 50).map (fun i => (i.zero, i.size, i.bytes)) = some (some (.agg #[.int .i64 0, .int .i64 0, .int .i64 0, .int .i64 0, .int .i64 0]), 5, 40) := by kernel_rfl
theorem all_take {l : List Ch} {k : Nat} (h : k < l.length) : (l.take (k + 1)).all okC = ((l.take k).all okC && okC (chA l k)) := by
  rw [← take_getD (d := ⟨0, 0, 0, 0, 0⟩) h, List.all_append]
  simp
theorem all_no {l : List Ch} {k : Nat} (h : k < l.length) (hn : okC (chA l k) = false) : l.all okC = false := by
  rw [List.all_eq_false]
  refine ⟨chA l k, ?_, by rw [hn]; decide⟩
  have : chA l k = l[k] := by simp [List.getD, h]
  rw [this]
  exact List.getElem_mem h
/-- May the stages' opens be, and all changes? -/
def mayB (a b c : Int) (l : List Ch) : Bool := inB a 1152921504606846976 && inB b 1152921504606846976 && inB c 1152921504606846976 && l.all okC
theorem mr_0 (a b c : Int) (v : Value) (q0 : inB a 1152921504606846976 = false) (w : World) : Calls Try.prog 18 #[.agg #[.int .i64 a, .int .i64 b, .int .i64 c], v] w fun e w' => e = .returned (.bool false) ∧ Below w.heap.size w w' := by
  have HL := hide (below1 w (.cells #[.int .i64 a, .int .i64 b, .int .i64 c] 22))
  go_enter Try.func18, Try.ntmps18
  go_wp2_with fail
  refine wp_loop_rounds 1 ?_
  rw [rounds_succ]
  go_wp2_with (simp only [ix22_0, ix22_1, ix22_2])
  refine (wi_any a 1152921504606846976 _).mono ?_
  rintro e w0 ⟨rfl, rfl⟩
  rw [q0]
  go_wp2_with fail
  go_ret
  exact ⟨rfl, unhide HL⟩
theorem mr_1 (a b c : Int) (v : Value) (q0 : inB a 1152921504606846976 = true) (q1 : inB b 1152921504606846976 = false) (w : World) : Calls Try.prog 18 #[.agg #[.int .i64 a, .int .i64 b, .int .i64 c], v] w fun e w' => e = .returned (.bool false) ∧ Below w.heap.size w w' := by
  have HL := hide (below1 w (.cells #[.int .i64 a, .int .i64 b, .int .i64 c] 22))
  go_enter Try.func18, Try.ntmps18
  go_wp2_with fail
  refine wp_loop_rounds 2 ?_
  rw [rounds_succ]
  go_wp2_with (simp only [ix22_0, ix22_1, ix22_2])
  refine (wi_any a 1152921504606846976 _).mono ?_
  rintro e w0 ⟨rfl, rfl⟩
  rw [q0]
  go_wp2_with fail
  rw [rounds_succ]
  go_wp2_with (simp only [ix22_0, ix22_1, ix22_2])
  refine (wi_any b 1152921504606846976 _).mono ?_
  rintro e w1 ⟨rfl, rfl⟩
  rw [q1]
  go_wp2_with fail
  go_ret
  exact ⟨rfl, unhide HL⟩
theorem mr_2 (a b c : Int) (v : Value) (q0 : inB a 1152921504606846976 = true) (q1 : inB b 1152921504606846976 = true) (q2 : inB c 1152921504606846976 = false) (w : World) : Calls Try.prog 18 #[.agg #[.int .i64 a, .int .i64 b, .int .i64 c], v] w fun e w' => e = .returned (.bool false) ∧ Below w.heap.size w w' := by
  have HL := hide (below1 w (.cells #[.int .i64 a, .int .i64 b, .int .i64 c] 22))
  go_enter Try.func18, Try.ntmps18
  go_wp2_with fail
  refine wp_loop_rounds 3 ?_
  rw [rounds_succ]
  go_wp2_with (simp only [ix22_0, ix22_1, ix22_2])
  refine (wi_any a 1152921504606846976 _).mono ?_
  rintro e w0 ⟨rfl, rfl⟩
  rw [q0]
  go_wp2_with fail
  rw [rounds_succ]
  go_wp2_with (simp only [ix22_0, ix22_1, ix22_2])
  refine (wi_any b 1152921504606846976 _).mono ?_
  rintro e w1 ⟨rfl, rfl⟩
  rw [q1]
  go_wp2_with fail
  rw [rounds_succ]
  go_wp2_with (simp only [ix22_0, ix22_1, ix22_2])
  refine (wi_any c 1152921504606846976 _).mono ?_
  rintro e w2 ⟨rfl, rfl⟩
  rw [q2]
  go_wp2_with fail
  go_ret
  exact ⟨rfl, unhide HL⟩
set_option maxHeartbeats 1000000 in
theorem mr_row (a b c : Int) (v : Value) (q0 : inB a 1152921504606846976 = true) (q1 : inB b 1152921504606846976 = true) (q2 : inB c 1152921504606846976 = true) (bb off cap : Nat) (l : List Ch) (w : World) (hU : RowG 5 w (.slice (some ⟨bb, off, none⟩) l.length cap) (l.map chL)) (hm : l.length ≤ 4096) :
    Calls Try.prog 18 #[.agg #[.int .i64 a, .int .i64 b, .int .i64 c], .slice (some ⟨bb, off, none⟩) l.length cap] w fun e w' => e = .returned (.bool (l.all okC)) ∧ Below w.heap.size w w' := by
  have HL := hide (below1 w (.cells #[.int .i64 a, .int .i64 b, .int .i64 c] 22))
  have HU := hide hU
  have HT := hide (fun k => all_take (l := l) (k := k))
  have HN := hide (fun k => all_no (l := l) (k := k))
  have HA : Hid ((l.take l.length).all okC = l.all okC) := hide (by rw [List.take_length])
  clear hU
  generalize hl : l.length = len at *
  go_enter Try.func18, Try.ntmps18
  go_wp2_with fail
  refine wp_loop_rounds 4 ?_
  rw [rounds_succ]
  go_wp2_with (simp only [ix22_0, ix22_1, ix22_2])
  refine (wi_any a 1152921504606846976 _).mono ?_
  rintro e w0 ⟨rfl, rfl⟩
  rw [q0]
  go_wp2_with fail
  rw [rounds_succ]
  go_wp2_with (simp only [ix22_0, ix22_1, ix22_2])
  refine (wi_any b 1152921504606846976 _).mono ?_
  rintro e w0 ⟨rfl, rfl⟩
  rw [q1]
  go_wp2_with fail
  rw [rounds_succ]
  go_wp2_with (simp only [ix22_0, ix22_1, ix22_2])
  refine (wi_any c 1152921504606846976 _).mono ?_
  rintro e w0 ⟨rfl, rfl⟩
  rw [q2]
  go_wp2_with fail
  rw [rounds_succ]
  go_wp2_with fail
  go_loopw [19] (fun i wr => ∃ k : Nat, k ≤ len ∧ i = .int .i64 k ∧ Hid ((l.take k).all okC = true) ∧ Hid (Below w.heap.size w wr)) (fun i _ => len - (intOf i).toNat)
  case atStart => exact ⟨0, by omega, rfl, hide rfl, HL⟩
  case round =>
    obtain ⟨k, hk, rfl, HK, HB⟩ := hrel
    by_cases hlt : k < len
    · have hU2 := (unhide HU).keep (unhide HB)
      obtain ⟨m0, m1, m2, m3, m4⟩ := hU2.ch (k := k) (by rw [hl]; exact hlt)
      have ht := hide (unhide HT k hlt)
      have hn := hide (unhide HN k hlt)
      have k1 : (k : Int) < (len : Int) := by omega
      have HC := hide (mc_any (chA l k))
      have HQ : Hid (okC (chA l k) = okC (chA l k)) := hide rfl
      generalize hq : okC (chA l k) = q at *
      have hb1 := hide (below_via (unhide HB) (below1 wr (.cells #[.int .i64 (chA l k).fr, .int .i64 (chA l k).to, .int .i64 (chA l k).was, .int .i64 (chA l k).now, .int .i64 (chA l k).wr] 50)))
      generalize (chA l k).fr = f at *
      generalize (chA l k).to = t at *
      generalize (chA l k).was = x0 at *
      generalize (chA l k).now = x1 at *
      generalize (chA l k).wr = x2 at *
      clear hU2 hq HQ
      go_wp2_with fail
      refine (unhide HC _).mono ?_
      rintro e w2 ⟨rfl, hb⟩
      replace hb1 := hide (below_via (unhide hb1) hb)
      clear hb
      cases q
      · replace hn := hide (unhide hn rfl)
        go_wp2_with fail
        go_ret
        exact ⟨ret_bool (unhide hn).symm, unhide hb1⟩
      · clear hn
        go_wp2_with fail
        go_roundw
        case rel => exact ⟨k + 1, by omega, by go_num, hide (by rw [unhide ht, unhide HK]; rfl), hb1⟩
        case measure => simp [intOf]; omega
    · obtain rfl : k = len := by omega
      go_wp2_with fail
      go_ret
      exact ⟨ret_bool ((unhide HK).symm.trans (unhide HA)), unhide HB⟩
theorem mr_empty (a b c : Int) (q0 : inB a 1152921504606846976 = true) (q1 : inB b 1152921504606846976 = true) (q2 : inB c 1152921504606846976 = true) (x : Option Addr) (cap : Nat) (w : World) :
    Calls Try.prog 18 #[.agg #[.int .i64 a, .int .i64 b, .int .i64 c], .slice x 0 cap] w fun e w' => e = .returned (.bool true) ∧ Below w.heap.size w w' := by
  have HL := hide (below1 w (.cells #[.int .i64 a, .int .i64 b, .int .i64 c] 22))
  go_enter Try.func18, Try.ntmps18
  go_wp2_with fail
  refine wp_loop_rounds 4 ?_
  rw [rounds_succ]
  go_wp2_with (simp only [ix22_0, ix22_1, ix22_2])
  refine (wi_any a 1152921504606846976 _).mono ?_
  rintro e w0 ⟨rfl, rfl⟩
  rw [q0]
  go_wp2_with fail
  rw [rounds_succ]
  go_wp2_with (simp only [ix22_0, ix22_1, ix22_2])
  refine (wi_any b 1152921504606846976 _).mono ?_
  rintro e w0 ⟨rfl, rfl⟩
  rw [q1]
  go_wp2_with fail
  rw [rounds_succ]
  go_wp2_with (simp only [ix22_0, ix22_1, ix22_2])
  refine (wi_any c 1152921504606846976 _).mono ?_
  rintro e w0 ⟨rfl, rfl⟩
  rw [q2]
  go_wp2_with fail
  rw [rounds_succ]
  go_wp2_with fail
  refine wp_loop_rounds 1 ?_
  rw [rounds_succ]
  go_wp2_with fail
  go_ret
  exact ⟨rfl, unhide HL⟩
theorem mr_any (a b c : Int) (v : Value) (l : List Ch) (w : World) (h : RowG 5 w v (l.map chL)) (hm : l.length ≤ 4096) : Calls Try.prog 18 #[.agg #[.int .i64 a, .int .i64 b, .int .i64 c], v] w fun e w' => e = .returned (.bool (mayB a b c l)) ∧ Below w.heap.size w w' := by
  unfold mayB
  cases q0 : inB a 1152921504606846976
  · exact mr_0 a b c v q0 w
  cases q1 : inB b 1152921504606846976
  · exact mr_1 a b c v q0 q1 w
  cases q2 : inB c 1152921504606846976
  · exact mr_2 a b c v q0 q1 q2 w
  have h' := h
  rcases h with ⟨x, cap, rfl, h0, _⟩ | ⟨bb, off, cap, rfl, h0, _⟩
  · obtain rfl : l = [] := List.map_eq_nil_iff.1 h0
    exact mr_empty a b c q0 q1 q2 x cap w
  · rw [List.length_map] at h' ⊢
    exact mr_row a b c (.int .i64 0) q0 q1 q2 bb off cap l w h' hm
end Go.Proofs.Ytkccladbcehdbaa
