/- Run and to, whole; the document's example. -/
import Derived.Test.YtifdabmdacpmgaaRu
namespace Go.Proofs.Ytifdabmdacpmgaa
open Go.RowKit
set_option linter.unusedVariables false
set_option linter.unusedSimpArgs false
theorem run_empty (a : Option Addr) (cap : Nat) (w : World) : Calls Try.prog 13 #[.slice a 0 cap] w fun e w' => (∃ x c, e = .returned (.tuple #[.slice x 0 c, .int .i64 0])) ∧ Below w.heap.size w w' := by
  have hmk := run_make_row' (P := Try.prog) 38 3 (.int .i64 0) 8 Try.underlying38 Try.info3 rfl .i64 .i64 0 (by omega) (by omega)
  rw [show ((0 : Nat) : Int) = 0 from rfl] at hmk
  go_enter Try.func13, Try.ntmps13
  go_wp2_with fail
  refine wp_loop_rounds 1 ?_
  rw [rounds_succ]
  go_wp2_with fail
  go_ret2
  exact ⟨⟨_, _, rfl⟩, (below1 _ _).alloc (by simp) _⟩
theorem run_any : RunA 13 := by
  intro w v ms h
  have h' := h
  rcases h with ⟨a, cap, rfl, h0, _⟩ | ⟨b, off, cap, rfl, h0, _⟩
  · have hm : ms = [] := List.map_eq_nil_iff.1 h0
    subst hm
    refine (run_empty a cap w).mono ?_
    rintro e w' ⟨⟨x, c, rfl⟩, hb⟩
    exact ⟨_, [], 0, rfl, hb, Or.inl ⟨_, _, rfl, rfl⟩, .inr (.inl ⟨by simp, fun j hj => absurd hj (Nat.not_lt_zero j), rfl, rfl⟩)⟩
  · rw [List.length_map] at h' ⊢
    by_cases hm : ms.length ≤ 600
    · exact run_row b off cap ms w hm h'
    · refine (run_long _ ms.length cap (decide_eq_true (by omega)) w).mono ?_
      rintro e w' ⟨rfl, hb⟩
      exact ⟨_, [], 10, rfl, hb, Or.inl ⟨_, _, rfl, rfl⟩, .inl ⟨by omega, rfl, rfl⟩⟩
theorem rrun_empty (a : Option Addr) (cap : Nat) (w : World) : Calls Try.prog 15 #[.slice a 0 cap] w fun e w' => (∃ x c, e = .returned (.tuple #[.slice x 0 c, .int .i64 0])) ∧ Below w.heap.size w w' := by
  go_enter Try.func15, Try.ntmps15
  go_wp2_with fail
  refine wp_loop_rounds 1 ?_
  rw [rounds_succ]
  go_wp2_with fail
  go_ret2
  exact ⟨⟨_, _, rfl⟩, below1 _ _⟩
theorem rrun_any : RunA 15 := by
  intro w v ms h
  have h' := h
  rcases h with ⟨a, cap, rfl, h0, _⟩ | ⟨b, off, cap, rfl, h0, _⟩
  · have hm : ms = [] := List.map_eq_nil_iff.1 h0
    subst hm
    refine (rrun_empty a cap w).mono ?_
    rintro e w' ⟨⟨x, c, rfl⟩, hb⟩
    exact ⟨_, [], 0, rfl, hb, Or.inl ⟨_, _, rfl, rfl⟩, .inr (.inl ⟨by simp, fun j hj => absurd hj (Nat.not_lt_zero j), rfl, rfl⟩)⟩
  · rw [List.length_map] at h' ⊢
    by_cases hm : ms.length ≤ 600
    · exact rrun_row b off cap ms w hm h'
    · refine (rrun_long _ ms.length cap (decide_eq_true (by omega)) w).mono ?_
      rintro e w' ⟨rfl, hb⟩
      exact ⟨_, [], 10, rfl, hb, Or.inl ⟨_, _, rfl, rfl⟩, .inl ⟨by omega, rfl, rfl⟩⟩
theorem info31 : (Try.prog.info? 31).map (fun i => (i.zero, i.size, i.bytes)) = some (some (.agg #[.int .i64 0, .int .i64 0, .bool false]), 3, 24) := by kernel_rfl
theorem mapM_take (ms : List Mk) {k : Nat} (h : k < ms.length) : (ms.take k).map mkL ++ [mkL (mkA ms k)] = (ms.take (k + 1)).map mkL := by
  rw [← take_getD (d := (0, 0, false)) h, List.map_append]
  rfl
set_option maxHeartbeats 1000000 in
theorem to_row (b off cap : Nat) (ms : List Mk) (w : World) (hm : ms.length ≤ 1000) (hU : RowG 3 w (.slice (some ⟨b, off, none⟩) ms.length cap) (ms.map mkL)) :
    Calls Try.prog 14 #[.slice (some ⟨b, off, none⟩) ms.length cap] w fun e w' => ∃ u, e = .returned u ∧ GrowG 31 3 w w' u (ms.map mkL) := by
  have HU := hide hU
  have HL : Hid (∀ k, ((ms.take k).map mkL).length + 1 ≤ 1000000) := hide (fun k => by rw [List.length_map, List.length_take]; omega)
  have HT := hide (fun k => mapM_take ms (k := k))
  have HA : Hid ((ms.take ms.length).map mkL = ms.map mkL) := hide (by rw [List.take_length])
  clear hU
  generalize hl : ms.length = len at *
  go_enter Try.func14, Try.ntmps14
  go_wp2_with fail
  go_loopw [3, 8] (fun o i wr => ∃ k : Nat, k ≤ len ∧ i = .int .i64 k ∧ Hid (GrowG 31 3 w wr o ((ms.take k).map mkL))) (fun _ i _ => len - (intOf i).toNat)
  case atStart => exact ⟨0, by omega, rfl, hide (GrowG.nil _ _ _ _ (Below.refl _ _))⟩
  case round =>
    obtain ⟨k, hk, rfl, HG⟩ := hrel
    by_cases hlt : k < len
    · have hU2 := (unhide HU).keep (unhide HG).below
      obtain ⟨m0, m1, m2⟩ := hU2.mark (k := k) (by rw [hl]; exact hlt)
      have ht := hide (unhide HT k hlt)
      have hl2 := hide (unhide HL k)
      have HFt := hide (fit_marks [mkA ms k])
      rw [List.map_cons, List.map_nil] at HFt
      have k1 : (k : Int) < (len : Int) := by omega
      unfold mkL at ht HFt
      generalize (mkA ms k).1 = p at *
      generalize (mkA ms k).2.1 = d at *
      generalize (mkA ms k).2.2 = b0 at *
      replace HG := hide (((unhide HG).alloc (.cells #[.int .i64 p, .int .i64 d, .bool b0] 25)).alloc (.cells #[.int .i64 p, .int .i64 d, .bool b0] 31))
      have HB : Hid (∀ j u, [[Value.int .i64 p, .int .i64 d, .bool b0]].flatten[j]? = some u → ((wr.alloc (.cells #[.int .i64 p, .int .i64 d, .bool b0] 25)).alloc (.cells #[.int .i64 p, .int .i64 d, .bool b0] 31)).cell? ((⟨wr.heap.size + 1, 0, none⟩ : Addr).add j) = some u) := hide (by
        have e : (wr.alloc (.cells #[.int .i64 p, .int .i64 d, .bool b0] 25)).heap.size = wr.heap.size + 1 := by simp
        rw [← e]
        exact one_cells (Blk.new (wr.alloc (.cells #[.int .i64 p, .int .i64 d, .bool b0] 25)) #[.int .i64 p, .int .i64 d, .bool b0] 31))
      generalize (ms.take k).map mkL = zs at *
      clear hU2
      go_wp2_with (at_builtin; refine pushG_law (ad := ⟨wr.heap.size + 1, 0, none⟩) (c := 1) (n := 1) 31 41 3 24 (.agg #[.int .i64 0, .int .i64 0, .bool false]) (by decide) (by decide) rfl Try.underlying41 info31 rfl _ _ rfl w _ _ zs [[.int .i64 p, .int .i64 d, .bool b0]] (unhide HG) rfl rfl (by simp) (by simp [Act.eval, Act.put]) (unhide HB) (unhide HFt) (unhide hl2) ?_)
      intro v' w2 hG2 _
      replace hG2 := hide hG2
      go_wp2_with fail
      go_roundw
      case rel => exact ⟨k + 1, by omega, by go_num, by rw [← unhide ht]; exact hG2⟩
      case measure => simp [intOf]; omega
    · obtain rfl : k = len := by omega
      rw [unhide HA] at HG
      go_wp2_with fail
      go_ret
      exact ⟨_, rfl, unhide HG⟩
theorem to_empty (x : Option Addr) (cap : Nat) (w : World) : Calls Try.prog 14 #[.slice x 0 cap] w fun e w' => e = .returned (.slice none 0 0) ∧ w = w' := by
  go_enter Try.func14, Try.ntmps14
  go_wp2_with fail
  refine wp_loop_rounds 1 ?_
  rw [rounds_succ]
  go_wp2_with fail
  go_ret
  exact ⟨rfl, rfl⟩
theorem to_any (v : Value) (ms : List Mk) (w : World) (h : RowG 3 w v (ms.map mkL)) (hm : ms.length ≤ 1000) : Calls Try.prog 14 #[v] w fun e w' => ∃ u, e = .returned u ∧ GrowG 31 3 w w' u (ms.map mkL) := by
  have h' := h
  rcases h with ⟨a, cap, rfl, h0, _⟩ | ⟨b, off, cap, rfl, h0, _⟩
  · rw [h0]
    refine (to_empty a cap w).mono ?_
    rintro e w' ⟨rfl, rfl⟩
    exact ⟨_, rfl, GrowG.nil _ _ _ _ (Below.refl _ _)⟩
  · rw [List.length_map] at h' ⊢
    exact to_row b off cap ms w hm h'
def Alive : Prop := ∀ w : World, Calls Try.prog 8 #[] w fun e w' => e = .returned (.bool true) ∧ Below w.heap.size w w'
abbrev eg14 : List Mk := [(30, 0, false), (0, 0, false), (0, 0, false), (0, 0, false)]
theorem eg14_run : RunR eg14 [2, 2, 2, 1] 0 := .inr (.inl ⟨by decide, by unfold fine; decide, by decide, rfl⟩)
abbrev eg14C : Array Value := #[.int .i64 30, .int .i64 0, .bool false, .int .i64 0, .int .i64 0, .bool false, .int .i64 0, .int .i64 0, .bool false, .int .i64 0, .int .i64 0, .bool false]
theorem eg14_row {w : World} {b : Nat} (h : Blk w b eg14C 31) : RowG 3 w (.slice (some ⟨b, 0, none⟩) 4 4) (eg14.map mkL) := by
  refine Or.inr ⟨b, 0, 4, rfl, by decide, by decide, by decide, fun j hj t ht => ?_, fit_marks _⟩
  rw [Nat.zero_add]
  have hj' : j < 4 := hj
  match j, hj', t, ht with
  | 0, _, 0, _ => exact h.at 0 _ rfl
  | 0, _, 1, _ => exact h.at 1 _ rfl
  | 0, _, 2, _ => exact h.at 2 _ rfl
  | 1, _, 0, _ => exact h.at 3 _ rfl
  | 1, _, 1, _ => exact h.at 4 _ rfl
  | 1, _, 2, _ => exact h.at 5 _ rfl
  | 2, _, 0, _ => exact h.at 6 _ rfl
  | 2, _, 1, _ => exact h.at 7 _ rfl
  | 2, _, 2, _ => exact h.at 8 _ rfl
  | 3, _, 0, _ => exact h.at 9 _ rfl
  | 3, _, 1, _ => exact h.at 10 _ rfl
  | 3, _, 2, _ => exact h.at 11 _ rfl
theorem row4 {w : World} {b : Nat} {p q r s : Int} (h : Blk w b #[.int .i64 p, .int .i64 q, .int .i64 r, .int .i64 s] 3) (hi : ∀ z ∈ [p, q, r, s], In64 z) : Row w (.slice (some ⟨b, 0, none⟩) 4 4) [p, q, r, s] := by
  refine Or.inr ⟨b, 0, 4, rfl, by simp, by simp [maxLen], fun j hj => ?_, hi⟩
  rw [Nat.zero_add]
  have hj' : j < 4 := hj
  match j, hj' with
  | 0, _ => exact h.at 0 _ rfl
  | 1, _ => exact h.at 1 _ rfl
  | 2, _ => exact h.at 2 _ rfl
  | 3, _ => exact h.at 3 _ rfl
theorem below_drewN {B : Nat} {w wr : World} (h : Below B w wr) (n : Nat) : Below B w (wr.drewN n) := h.trans ⟨rfl, rfl, rfl, Nat.le_refl _, fun _ _ => rfl⟩
theorem alive_any : Alive := by
  intro w
  have HB := hide (Blk.new w eg14C 31)
  have HR := hide (run_any (w.alloc (.cells eg14C 31)) _ _ (eg14_row (unhide HB)))
  have HO := hide eg14_run
  go_enter Try.func8, Try.ntmps8
  go_wp2_with fail
  refine (unhide HR).mono ?_
  rintro e w1 ⟨u, zs, e1, rfl, hb, hr, ho⟩
  obtain ⟨rfl, rfl⟩ := ho.only (unhide HO)
  have HBel := hide (below_via (below1 w _) hb)
  have HRow := hide hr
  clear hb hr ho HR HB HO
  go_wp2_with fail
  have HS := hide (same_any _ _ _ _ _ ((unhide HRow).alloc _) (row4 (Blk.new w1 #[.int .i64 2, .int .i64 2, .int .i64 2, .int .i64 1] 3) (fun z hz => by simp at hz; rcases hz with rfl | rfl <;> exact ⟨by decide, by decide⟩)))
  refine (unhide HS).mono ?_
  rintro e w2 ⟨rfl, n, rfl⟩
  have HBel2 := hide (below_drewN (below_via (unhide HBel) (below1 w1 (.cells #[.int .i64 2, .int .i64 2, .int .i64 2, .int .i64 1] 3))) n)
  clear HS HRow HBel
  rw [sameB_refl]
  go_wp2_with fail
  refine (worst_any 90 0 false _).mono ?_
  rintro e w3 ⟨rfl, hb⟩
  have HBel := hide (below_via (unhide HBel2) hb)
  have e3 : wst 90 0 false = 3 := rfl
  rw [e3]
  clear hb HBel2
  go_wp2_with fail
  go_ret
  exact ⟨rfl, unhide HBel⟩
end Go.Proofs.Ytifdabmdacpmgaa
