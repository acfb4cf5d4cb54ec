/- Run, the program's and the document's. -/
import Derived.Test.YtifdabmdacpmgaaRp
namespace Go.Proofs.Ytifdabmdacpmgaa
open Go.RowKit
set_option linter.unusedVariables false
set_option linter.unusedSimpArgs false
def Cap (u : Value) : Prop := ∃ a n c, u = .slice a n c ∧ n ≤ c
theorem run_long (a : Option Addr) (len cap : Nat) (d : decide ((600 : Int) < (len : Int)) = true) (w : World) : Calls Try.prog 13 #[.slice a len cap] w fun e w' => e = .returned (.tuple #[.slice none 0 0, .int .i64 10]) ∧ Below w.heap.size w w' := by
  go_enter Try.func13, Try.ntmps13
  go_wp2_with fail
  go_ret2
  exact ⟨rfl, Below.refl _ _⟩
theorem rrun_long (a : Option Addr) (len cap : Nat) (d : decide ((600 : Int) < (len : Int)) = true) (w : World) : Calls Try.prog 15 #[.slice a len cap] w fun e w' => e = .returned (.tuple #[.slice none 0 0, .int .i64 10]) ∧ Below w.heap.size w w' := by
  go_enter Try.func15, Try.ntmps15
  go_wp2_with fail
  go_ret2
  exact ⟨rfl, Below.refl _ _⟩
theorem row23a : isRowB Try.prog 23 = true := by kernel_rfl
theorem row27a : isRowB Try.prog 27 = true := by kernel_rfl
theorem size27a : (Try.prog.info? 27).map (·.size) = some 2 := by kernel_rfl
set_option maxRecDepth 20000 in
set_option maxHeartbeats 2000000 in
theorem rrun_row (b off cap : Nat) (ms : List Mk) (w : World) (hm : ms.length ≤ 600) (hU : RowG 3 w (.slice (some ⟨b, off, none⟩) ms.length cap) (ms.map mkL)) :
    Calls Try.prog 15 #[.slice (some ⟨b, off, none⟩) ms.length cap] w fun r w' => ∃ u zs e, r = .returned (.tuple #[u, .int .i64 e]) ∧ Below w.heap.size w w' ∧ Row w' u zs ∧ RunR ms zs e := by
  have HU := hide hU
  have d1 : decide ((600 : Int) < (ms.length : Int)) = false := decide_eq_false (by omega)
  have HR1 : Hid (fine ms ms.length → RunR ms (stg ms ms.length) 0) := hide (fun h => .inr (.inl ⟨hm, h, rfl, rfl⟩))
  have HR2 : Hid (¬ fine ms ms.length → RunR ms [] 2) := hide (fun h => .inr (.inr ⟨hm, h, rfl, rfl⟩))
  clear hU
  generalize hl : ms.length = len at *
  go_enter Try.func15, Try.ntmps15
  go_wp2_with fail
  go_loopw [4, 16] (fun o i wr => ∃ k : Nat, k ≤ len ∧ i = .int .i64 k ∧ Hid (fine ms k) ∧ Hid (RR w wr o (stg ms k) (stt ms k).1 (stt ms k).2)) (fun _ i _ => len - (intOf i).toNat)
  case atStart => exact ⟨0, by omega, rfl, hide (fun j hj => absurd hj (Nat.not_lt_zero j)), hide ⟨below1 _ _, World.ownsRow_nil _ _ _ _, Blk.new _ _ _, fun z hz => by cases hz⟩⟩
  case round =>
    obtain ⟨k, hk, rfl, HF, A⟩ := hrel
    by_cases hlt : k < len
    · have hU2 := (unhide HU).keep (unhide A).bel
      obtain ⟨m0, m1, m2⟩ := hU2.mark (k := k) (by rw [hl]; exact hlt)
      have HX := hide (rfl : nxt (stt ms k).1 (stt ms k).2 (mkA ms k).1 (mkA ms k).2.1 (mkA ms k).2.2 = nxt (stt ms k).1 (stt ms k).2 (mkA ms k).1 (mkA ms k).2.1 (mkA ms k).2.2)
      have HE : Hid (ert ms k = (nxt (stt ms k).1 (stt ms k).2 (mkA ms k).1 (mkA ms k).2.1 (mkA ms k).2.2).2.2) := hide rfl
      have HS : Hid (stt ms (k + 1) = ((nxt (stt ms k).1 (stt ms k).2 (mkA ms k).1 (mkA ms k).2.1 (mkA ms k).2.2).1, (nxt (stt ms k).1 (stt ms k).2 (mkA ms k).1 (mkA ms k).2.1 (mkA ms k).2.2).2.1)) := hide rfl
      have HD := hide (nxt_bd (stt ms k).1 (stt ms k).2 (mkA ms k).1 (mkA ms k).2.1 (mkA ms k).2.2).2.2
      have HI := hide (stt_in ms (k + 1))
      have HG := hide (stg_succ ms k)
      have HL := hide (stg_len ms k)
      have HN := hide (rnext_any (stt ms k).1 (stt ms k).2 (mkA ms k).1 (mkA ms k).2.1 (mkA ms k).2.2)
      clear hU2 HX
      have k1 : (k : Int) < (len : Int) := by omega
      generalize nxt (stt ms k).1 (stt ms k).2 (mkA ms k).1 (mkA ms k).2.1 (mkA ms k).2.2 = r at *
      generalize (mkA ms k).1 = p at *
      generalize (mkA ms k).2.1 = d at *
      generalize (mkA ms k).2.2 = b0 at *
      generalize (stt ms k).1 = s at *
      generalize (stt ms k).2 = g at *
      obtain ⟨x, y, z⟩ := r
      dsimp only at HE HS HD
      rw [unhide HS] at HI HG
      dsimp only at HI HG
      have A1 := hide ((unhide A).keep (below1 wr (.cells #[.int .i64 p, .int .i64 d, .bool b0] 25)))
      have s0 := (unhide A1).st.at 0 (.int .i64 s) rfl
      have s1 := (unhide A1).st.at 1 (.int .i64 g) rfl
      generalize stg ms k = zs at *
      go_wp2_with fail
      refine (unhide HN _).mono ?_
      rintro e w1 ⟨rfl, hb⟩
      replace A := hide ((unhide A1).keep hb)
      clear hb m0 m1 m2 s0 s1 A1
      rcases unhide HD with hz | hz
      · subst hz
        have HK := hide ((unhide A).keep (below1 w1 (.cells #[.int .i64 x, .int .i64 y] 23)))
        have HB := hide (Blk.new w1 #[.int .i64 x, .int .i64 y] 23)
        go_wp2_with (refine store_blk rfl 23 _ _ rfl (unhide HK).st rfl rfl size23 rfl rfl rfl ?_)
        intro W2 hB2 hp2
        replace A := hide ((unhide HK).put hB2 hp2)
        clear HK HB hB2 hp2 HN
        have s0 := (unhide A).st.at 0 (.int .i64 x) rfl
        go_wp2_with (at_builtin; refine pushR rfl _ _ rfl w W2 _ zs x x y (unhide A) rfl rfl (by have := unhide HL; omega) (unhide HI) ?_)
        intro v' w3 hG3
        replace hG3 := hide hG3
        have HF2 := hide (fine_more (unhide HF) (unhide HE))
        clear s0 A
        go_wp2_with fail
        go_roundw
        case rel => exact ⟨k + 1, by omega, by go_num, HF2, by rw [unhide HS, ← unhide HG]; exact hG3⟩
        case measure => simp [intOf]; omega
      · subst hz
        have HW := hide (unhide HR2 (fun c => by have := (unhide HE).symm.trans (c k hlt); exact absurd this (by decide)))
        clear HN
        go_wp2_with fail
        go_ret2
        exact ⟨_, _, _, rfl, ((unhide A).keep (below1 _ _)).bel, Or.inl ⟨_, _, rfl, rfl⟩, unhide HW⟩
    · obtain rfl : k = len := by omega
      have HW := hide (unhide HR1 (unhide HF))
      have HL := hide (stg_len ms k)
      go_wp2_with fail
      go_ret2
      exact ⟨_, _, _, rfl, (unhide A).bel, (unhide A).row (by have := unhide HL; unfold maxLen; omega), unhide HW⟩
set_option maxRecDepth 20000 in
set_option maxHeartbeats 2000000 in
theorem run_rowC (b off cap : Nat) (ms : List Mk) (w : World) (hm : ms.length ≤ 600) (hU : RowG 3 w (.slice (some ⟨b, off, none⟩) ms.length cap) (ms.map mkL)) :
    Calls Try.prog 13 #[.slice (some ⟨b, off, none⟩) ms.length cap] w fun r w' => ∃ u zs e, r = .returned (.tuple #[u, .int .i64 e]) ∧ Below w.heap.size w w' ∧ Row w' u zs ∧ RunR ms zs e ∧ Cap u := by
  have HU := hide hU
  have d1 : decide ((600 : Int) < (ms.length : Int)) = false := decide_eq_false (by omega)
  have HR1 : Hid (fine ms ms.length → RunR ms (stg ms ms.length) 0) := hide (fun h => .inr (.inl ⟨hm, h, rfl, rfl⟩))
  have HR2 : Hid (¬ fine ms ms.length → RunR ms [] 2) := hide (fun h => .inr (.inr ⟨hm, h, rfl, rfl⟩))
  clear hU
  generalize hl : ms.length = len at *
  have hmk := run_make_row' (P := Try.prog) 38 3 (.int .i64 0) 8 Try.underlying38 Try.info3 rfl .i64 .i64 len (by omega) (by omega)
  go_enter Try.func13, Try.ntmps13
  go_wp2_with fail
  clear hmk
  go_loopw [19] (fun i wr => ∃ k : Nat, k ≤ len ∧ i = .int .i64 k ∧ Hid (fine ms k) ∧ Hid (RO w wr len (fun j => if j < k then (stt ms (j + 1)).1 else 0) (stt ms k).1 (stt ms k).2)) (fun i _ => len - (intOf i).toNat)
  case atStart => exact ⟨0, by omega, rfl, hide (fun j hj => absurd hj (Nat.not_lt_zero j)), hide ⟨((below1 _ _).alloc (by simp) _), rowIs_keep ((World.rowIs_made w _ len 3).congr (fun j _ => by simp)) (fun _ _ hB => hB.alloc _), by simpa [stt] using Blk.new (w.alloc _) #[.int .i64 1, .int .i64 0] 27⟩⟩
  case round =>
    obtain ⟨k, hk, rfl, HF, A⟩ := hrel
    by_cases hlt : k < len
    · have Hput : Hid (∀ j, (if j = k then (stt ms (k + 1)).1 else if j < k then (stt ms (j + 1)).1 else 0) = if j < k + 1 then (stt ms (j + 1)).1 else 0) := hide (fun j => by
        by_cases e : j = k
        · subst e; rw [if_pos rfl, if_pos (by omega)]
        · rw [if_neg e]
          by_cases c : j < k
          · rw [if_pos c, if_pos (by omega)]
          · rw [if_neg c, if_neg (by omega)])
      have hU2 := (unhide HU).keep (unhide A).bel
      obtain ⟨m0, m1, m2⟩ := hU2.mark (k := k) (by rw [hl]; exact hlt)
      have HX := hide (rfl : nxt (stt ms k).1 (stt ms k).2 (mkA ms k).1 (mkA ms k).2.1 (mkA ms k).2.2 = nxt (stt ms k).1 (stt ms k).2 (mkA ms k).1 (mkA ms k).2.1 (mkA ms k).2.2)
      have HE : Hid (ert ms k = (nxt (stt ms k).1 (stt ms k).2 (mkA ms k).1 (mkA ms k).2.1 (mkA ms k).2.2).2.2) := hide rfl
      have HS : Hid (stt ms (k + 1) = ((nxt (stt ms k).1 (stt ms k).2 (mkA ms k).1 (mkA ms k).2.1 (mkA ms k).2.2).1, (nxt (stt ms k).1 (stt ms k).2 (mkA ms k).1 (mkA ms k).2.1 (mkA ms k).2.2).2.1)) := hide rfl
      have HD := hide (nxt_bd (stt ms k).1 (stt ms k).2 (mkA ms k).1 (mkA ms k).2.1 (mkA ms k).2.2).2.2
      have HI := hide (stt_in ms (k + 1))
      have HG := hide (stg_succ ms k)
      have HL := hide (stg_len ms k)
      have HN := hide (next_any (stt ms k).1 (stt ms k).2 (mkA ms k).1 (mkA ms k).2.1 (mkA ms k).2.2)
      clear hU2 HX
      have k1 : (k : Int) < (len : Int) := by omega
      generalize nxt (stt ms k).1 (stt ms k).2 (mkA ms k).1 (mkA ms k).2.1 (mkA ms k).2.2 = r at *
      generalize (mkA ms k).1 = p at *
      generalize (mkA ms k).2.1 = d at *
      generalize (mkA ms k).2.2 = b0 at *
      generalize (stt ms k).1 = s at *
      generalize (stt ms k).2 = g at *
      obtain ⟨x, y, z⟩ := r
      dsimp only at HE HS HD
      rw [unhide HS] at HI HG
      dsimp only at HI HG
      have A1 := hide ((unhide A).keep (below1 wr (.cells #[.int .i64 p, .int .i64 d, .bool b0] 31)))
      have s0 := (unhide A1).st.at 0 (.int .i64 s) rfl
      have s1 := (unhide A1).st.at 1 (.int .i64 g) rfl
      go_wp2_with fail
      refine (unhide HN _).mono ?_
      rintro e w1 ⟨rfl, hb⟩
      replace A := hide ((unhide A1).keep hb)
      clear hb m0 m1 m2 s0 s1 A1
      rcases unhide HD with hz | hz
      · subst hz
        have HK := hide ((unhide A).keep (below1 w1 (.cells #[.int .i64 x, .int .i64 y] 27)))
        have HB := hide (Blk.new w1 #[.int .i64 x, .int .i64 y] 27)
        clear HN
        go_wp2_with fail
        generalize w1.alloc (.cells #[.int .i64 x, .int .i64 y] 27) = V at HK HB ⊢
        have ne1 : ¬ w1.heap.size = w.heap.size := by have := (unhide A).st.lt; omega
        have ne2 : ¬ w1.heap.size = w.heap.size + 1 := by have := (unhide A).st.lt; omega
        clear A
        have t0 := (show Blk _ _ _ _ from unhide HB).at 0 (.int .i64 x) rfl
        have t1 := (show Blk _ _ _ _ from unhide HB).at 1 (.int .i64 y) rfl
        have r0 := (unhide HK).row.cell (show k < len by omega)
        have r1 := (unhide HK).row.frozen k
        rw [if_neg (Nat.lt_irrefl k)] at r0
        have s0 := (unhide HK).st.at 0 (.int .i64 s) rfl
        have s1 := (unhide HK).st.at 1 (.int .i64 g) rfl
        have f0 := (unhide HK).st.fz 0
        have f1 := (unhide HK).st.fz 1
        rw [unhide HS] at Hput
        dsimp only at Hput
        have HF2 := hide (fine_more (unhide HF) (unhide HE))
        have HR : Hid (RO w (((V.setCell ⟨w.heap.size, k, none⟩ (.int .i64 x)).setCell ⟨w.heap.size + 1, 0, none⟩ (.int .i64 x)).setCell ⟨w.heap.size + 1, 1, none⟩ (.int .i64 y)) len (fun j => if j < k + 1 then (stt ms (j + 1)).1 else 0) x y) := hide (((unhide HK).set k x (unhide Hput)).put2 x y)
        clear HB HK
        go_region
        all_goals (try go_wp2_with fail)
        all_goals go_roundw
        case rel => exact ⟨k + 1, by omega, by go_num, HF2, by rw [unhide HS]; exact hide ((unhide HR).drew1)⟩
        case measure => simp [intOf]; omega
      · subst hz
        have HW := hide (unhide HR2 (fun c => by have := (unhide HE).symm.trans (c k hlt); exact absurd this (by decide)))
        clear HN
        go_wp2_with fail
        go_ret2
        exact ⟨_, _, _, rfl, ((unhide A).keep (below1 _ _)).bel, Or.inl ⟨_, _, rfl, rfl⟩, unhide HW, ⟨_, _, _, rfl, Nat.le_refl _⟩⟩
    · obtain rfl : k = len := by omega
      have HW := hide (unhide HR1 (unhide HF))
      go_wp2_with fail
      go_ret2
      refine ⟨_, _, _, rfl, (unhide A).bel, ?_, unhide HW, ⟨_, _, _, rfl, Nat.le_refl _⟩⟩
      have h := (unhide A).asRow (cap := k) (by unfold maxLen; omega) (fun j => by split; exact stt_in _ _; exact ⟨by omega, by omega⟩)
      have e : (List.range k).map (fun j => if j < k then (stt ms (j + 1)).1 else 0) = stg ms k := List.map_congr_left (fun j hj => if_pos (List.mem_range.1 hj))
      rw [e] at h
      exact h
theorem run_row (b off cap : Nat) (ms : List Mk) (w : World) (hm : ms.length ≤ 600) (hU : RowG 3 w (.slice (some ⟨b, off, none⟩) ms.length cap) (ms.map mkL)) :
    Calls Try.prog 13 #[.slice (some ⟨b, off, none⟩) ms.length cap] w fun r w' => ∃ u zs e, r = .returned (.tuple #[u, .int .i64 e]) ∧ Below w.heap.size w w' ∧ Row w' u zs ∧ RunR ms zs e :=
  (run_rowC b off cap ms w hm hU).mono (fun _ _ ⟨u, zs, e, h1, h2, h3, h4, _⟩ => ⟨u, zs, e, h1, h2, h3, h4⟩)
end Go.Proofs.Ytifdabmdacpmgaa
