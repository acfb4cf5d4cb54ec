/- Changes for the program, rows for the document. -/
import Derived.Test.YtkccladbcehdbaaRo
import Derived.Test.YtkccladbcehdbaaRa
namespace Go.Proofs.Ytkccladbcehdbaa
open Go.RowKit
set_option linter.unusedVariables false
set_option linter.unusedSimpArgs false
theorem mapC_take (l : List Ch) {k : Nat} (h : k < l.length) : (l.take k).map chL ++ [chL (chA l k)] = (l.take (k + 1)).map chL := by
  rw [← take_getD (d := ⟨0, 0, 0, 0, 0⟩) h, List.map_append]
  rfl
set_option maxHeartbeats 1000000 in
theorem to_row (b off cap : Nat) (l : List Ch) (w : World) (hm : l.length ≤ 10000) (hU : RowG 5 w (.slice (some ⟨b, off, none⟩) l.length cap) (l.map chL)) :
    Calls Try.prog 11 #[.slice (some ⟨b, off, none⟩) l.length cap] w fun e w' => ∃ u, e = .returned u ∧ GrowG 50 5 w w' u (l.map chL) := by
  have HU := hide hU
  have HL : Hid (∀ k, ((l.take k).map chL).length + 1 ≤ 1000000) := hide (fun k => by rw [List.length_map, List.length_take]; omega)
  have HT := hide (fun k => mapC_take l (k := k))
  have HA : Hid ((l.take l.length).map chL = l.map chL) := hide (by rw [List.take_length])
  clear hU
  generalize hl : l.length = len at *
  go_enter Try.func11, Try.ntmps11
  go_wp2_with fail
  go_loopw [3, 8] (fun o i wr => ∃ k : Nat, k ≤ len ∧ i = .int .i64 k ∧ Hid (GrowG 50 5 w wr o ((l.take k).map chL))) (fun _ i _ => len - (intOf i).toNat)
  case atStart => exact ⟨0, by omega, rfl, hide (GrowG.nil _ _ _ _ (Below.refl _ _))⟩
  case round =>
    obtain ⟨k, hk, rfl, HG⟩ := hrel
    by_cases hlt : k < len
    · have hU2 := (unhide HU).keep (unhide HG).below
      obtain ⟨m0, m1, m2, m3, m4⟩ := hU2.ch (k := k) (by rw [hl]; exact hlt)
      have ht := hide (unhide HT k hlt)
      have hl2 := hide (unhide HL k)
      have HFt := hide (fit_chs [chA l k])
      rw [List.map_cons, List.map_nil] at HFt
      have k1 : (k : Int) < (len : Int) := by omega
      unfold chL at ht HFt
      generalize (chA l k).fr = f at *
      generalize (chA l k).to = t at *
      generalize (chA l k).was = y0 at *
      generalize (chA l k).now = y1 at *
      generalize (chA l k).wr = y2 at *
      replace HG := hide (((unhide HG).alloc (.cells #[.int .i64 f, .int .i64 t, .int .i64 y0, .int .i64 y1, .int .i64 y2] 47)).alloc (.cells #[.int .i64 f, .int .i64 t, .int .i64 y0, .int .i64 y1, .int .i64 y2] 50))
      have HB : Hid (∀ j u, [[Value.int .i64 f, .int .i64 t, .int .i64 y0, .int .i64 y1, .int .i64 y2]].flatten[j]? = some u → ((wr.alloc (.cells #[.int .i64 f, .int .i64 t, .int .i64 y0, .int .i64 y1, .int .i64 y2] 47)).alloc (.cells #[.int .i64 f, .int .i64 t, .int .i64 y0, .int .i64 y1, .int .i64 y2] 50)).cell? ((⟨wr.heap.size + 1, 0, none⟩ : Addr).add j) = some u) := hide (by
        have e : (wr.alloc (.cells #[.int .i64 f, .int .i64 t, .int .i64 y0, .int .i64 y1, .int .i64 y2] 47)).heap.size = wr.heap.size + 1 := by simp
        rw [← e]
        exact one_cells (Blk.new (wr.alloc (.cells #[.int .i64 f, .int .i64 t, .int .i64 y0, .int .i64 y1, .int .i64 y2] 47)) #[.int .i64 f, .int .i64 t, .int .i64 y0, .int .i64 y1, .int .i64 y2] 50))
      generalize (l.take k).map chL = zs at *
      clear hU2
      go_wp2_with (at_builtin; refine pushG_law (ad := ⟨wr.heap.size + 1, 0, none⟩) (c := 1) (n := 1) 50 31 5 40 (.agg #[.int .i64 0, .int .i64 0, .int .i64 0, .int .i64 0, .int .i64 0]) (by decide) (by decide) rfl Try.underlying31 info50 rfl _ _ rfl w _ _ zs [[Value.int .i64 f, .int .i64 t, .int .i64 y0, .int .i64 y1, .int .i64 y2]] (unhide HG) rfl rfl (by simp) (by simp [Act.eval, Act.put]) (unhide HB) (unhide HFt) (unhide hl2) ?_)
      intro v' w2 hG2 _
      replace hG2 := hide hG2
      go_wp2_with fail
      go_roundw
      case rel => exact ⟨k + 1, by omega, by go_num, by rw [← unhide ht]; exact hG2⟩
      case measure => simp [intOf]; omega
    · obtain rfl : k = len := by omega
      rw [unhide HA] at HG
      go_wp2_with fail
      go_ret
      exact ⟨_, rfl, unhide HG⟩
theorem to_empty (x : Option Addr) (cap : Nat) (w : World) : Calls Try.prog 11 #[.slice x 0 cap] w fun e w' => e = .returned (.slice none 0 0) ∧ w = w' := by
  go_enter Try.func11, Try.ntmps11
  go_wp2_with fail
  refine wp_loop_rounds 1 ?_
  rw [rounds_succ]
  go_wp2_with fail
  go_ret
  exact ⟨rfl, rfl⟩
theorem to_any (v : Value) (l : List Ch) (w : World) (h : RowG 5 w v (l.map chL)) (hm : l.length ≤ 10000) : Calls Try.prog 11 #[v] w fun e w' => ∃ u, e = .returned u ∧ GrowG 50 5 w w' u (l.map chL) := by
  have h' := h
  rcases h with ⟨a, cap, rfl, h0, _⟩ | ⟨b, off, cap, rfl, h0, _⟩
  · rw [h0]
    refine (to_empty a cap w).mono ?_
    rintro e w' ⟨rfl, rfl⟩
    exact ⟨_, rfl, GrowG.nil _ _ _ _ (Below.refl _ _)⟩
  · rw [List.length_map] at h' ⊢
    exact to_row b off cap l w hm h'
theorem size33 : (Try.prog.info? 33).map (·.size) = some 6 := by kernel_rfl
theorem row33 : isRowB Try.prog 33 = true := by kernel_rfl
set_option maxHeartbeats 2000000 in
theorem rows_any (r s t : Rw) (w : World) : Calls Try.prog 13 #[.agg (cells18 r s t)] w fun e w' => e = .returned (.agg (cells18 r s t)) ∧ Below w.heap.size w w' := by
  have HR : Hid (Blk (((w.alloc (.cells (cells18 r s t) 27)).alloc (.cells #[.int .i64 0, .int .i64 0, .int .i64 0, .int .i64 0, .int .i64 0, .int .i64 0, .int .i64 0, .int .i64 0, .int .i64 0, .int .i64 0, .int .i64 0, .int .i64 0, .int .i64 0, .int .i64 0, .int .i64 0, .int .i64 0, .int .i64 0, .int .i64 0] 34)).alloc (.cells #[.int .i64 0, .int .i64 0, .int .i64 0, .int .i64 0, .int .i64 0, .int .i64 0, .int .i64 0, .int .i64 0, .int .i64 0, .int .i64 0, .int .i64 0, .int .i64 0, .int .i64 0, .int .i64 0, .int .i64 0, .int .i64 0, .int .i64 0, .int .i64 0] 34)) (w.heap.size + 1) #[.int .i64 0, .int .i64 0, .int .i64 0, .int .i64 0, .int .i64 0, .int .i64 0, .int .i64 0, .int .i64 0, .int .i64 0, .int .i64 0, .int .i64 0, .int .i64 0, .int .i64 0, .int .i64 0, .int .i64 0, .int .i64 0, .int .i64 0, .int .i64 0] 34) := hide (Blk.alloc (by have := Blk.new (w.alloc (.cells (cells18 r s t) 27)) #[.int .i64 0, .int .i64 0, .int .i64 0, .int .i64 0, .int .i64 0, .int .i64 0, .int .i64 0, .int .i64 0, .int .i64 0, .int .i64 0, .int .i64 0, .int .i64 0, .int .i64 0, .int .i64 0, .int .i64 0, .int .i64 0, .int .i64 0, .int .i64 0] 34; simpa using this) _)
  have HX : Hid (Blk (((w.alloc (.cells (cells18 r s t) 27)).alloc (.cells #[.int .i64 0, .int .i64 0, .int .i64 0, .int .i64 0, .int .i64 0, .int .i64 0, .int .i64 0, .int .i64 0, .int .i64 0, .int .i64 0, .int .i64 0, .int .i64 0, .int .i64 0, .int .i64 0, .int .i64 0, .int .i64 0, .int .i64 0, .int .i64 0] 34)).alloc (.cells #[.int .i64 0, .int .i64 0, .int .i64 0, .int .i64 0, .int .i64 0, .int .i64 0, .int .i64 0, .int .i64 0, .int .i64 0, .int .i64 0, .int .i64 0, .int .i64 0, .int .i64 0, .int .i64 0, .int .i64 0, .int .i64 0, .int .i64 0, .int .i64 0] 34)) (w.heap.size + 1 + 1) #[.int .i64 0, .int .i64 0, .int .i64 0, .int .i64 0, .int .i64 0, .int .i64 0, .int .i64 0, .int .i64 0, .int .i64 0, .int .i64 0, .int .i64 0, .int .i64 0, .int .i64 0, .int .i64 0, .int .i64 0, .int .i64 0, .int .i64 0, .int .i64 0] 34) := hide (by have := Blk.new ((w.alloc (.cells (cells18 r s t) 27)).alloc (.cells #[.int .i64 0, .int .i64 0, .int .i64 0, .int .i64 0, .int .i64 0, .int .i64 0, .int .i64 0, .int .i64 0, .int .i64 0, .int .i64 0, .int .i64 0, .int .i64 0, .int .i64 0, .int .i64 0, .int .i64 0, .int .i64 0, .int .i64 0, .int .i64 0] 34)) #[.int .i64 0, .int .i64 0, .int .i64 0, .int .i64 0, .int .i64 0, .int .i64 0, .int .i64 0, .int .i64 0, .int .i64 0, .int .i64 0, .int .i64 0, .int .i64 0, .int .i64 0, .int .i64 0, .int .i64 0, .int .i64 0, .int .i64 0, .int .i64 0] 34; simpa using this)
  have HL : Hid (Below w.heap.size w (((w.alloc (.cells (cells18 r s t) 27)).alloc (.cells #[.int .i64 0, .int .i64 0, .int .i64 0, .int .i64 0, .int .i64 0, .int .i64 0, .int .i64 0, .int .i64 0, .int .i64 0, .int .i64 0, .int .i64 0, .int .i64 0, .int .i64 0, .int .i64 0, .int .i64 0, .int .i64 0, .int .i64 0, .int .i64 0] 34)).alloc (.cells #[.int .i64 0, .int .i64 0, .int .i64 0, .int .i64 0, .int .i64 0, .int .i64 0, .int .i64 0, .int .i64 0, .int .i64 0, .int .i64 0, .int .i64 0, .int .i64 0, .int .i64 0, .int .i64 0, .int .i64 0, .int .i64 0, .int .i64 0, .int .i64 0] 34))) := hide (below_via (below1 w _) (below_via (below1 _ _) (below1 _ _)))
  have HT := hide (Blk.new w (cells18 r s t) 27)
  go_enter Try.func13, Try.ntmps13
  go_wp2_with fail
  generalize ((w.alloc (.cells (cells18 r s t) 27)).alloc (.cells #[.int .i64 0, .int .i64 0, .int .i64 0, .int .i64 0, .int .i64 0, .int .i64 0, .int .i64 0, .int .i64 0, .int .i64 0, .int .i64 0, .int .i64 0, .int .i64 0, .int .i64 0, .int .i64 0, .int .i64 0, .int .i64 0, .int .i64 0, .int .i64 0] 34)).alloc (.cells #[.int .i64 0, .int .i64 0, .int .i64 0, .int .i64 0, .int .i64 0, .int .i64 0, .int .i64 0, .int .i64 0, .int .i64 0, .int .i64 0, .int .i64 0, .int .i64 0, .int .i64 0, .int .i64 0, .int .i64 0, .int .i64 0, .int .i64 0, .int .i64 0] 34) = V0 at *
  refine wp_loop_rounds 4 ?_
  rw [rounds_succ]
  have H6 := hide (Blk.new V0 #[.int .i64 r.o, .int .i64 r.i, .int .i64 r.u, .int .i64 r.n, .int .i64 r.x, .int .i64 r.z] 26)
  replace HX := hide ((show Blk _ _ _ _ from unhide HX).alloc (.cells #[.int .i64 r.o, .int .i64 r.i, .int .i64 r.u, .int .i64 r.n, .int .i64 r.x, .int .i64 r.z] 26))
  replace HR := hide ((show Blk _ _ _ _ from unhide HR).alloc (.cells #[.int .i64 r.o, .int .i64 r.i, .int .i64 r.u, .int .i64 r.n, .int .i64 r.x, .int .i64 r.z] 26))
  replace HL := hide (below_via (unhide HL) (below1 V0 (.cells #[.int .i64 r.o, .int .i64 r.i, .int .i64 r.u, .int .i64 r.n, .int .i64 r.x, .int .i64 r.z] 26)))
  go_wp2_with (first | simp only [ix27_0] | refine store_at (new := #[.int .i64 r.o, .int .i64 r.i, .int .i64 r.u, .int .i64 r.n, .int .i64 r.x, .int .i64 r.z, .int .i64 0, .int .i64 0, .int .i64 0, .int .i64 0, .int .i64 0, .int .i64 0, .int .i64 0, .int .i64 0, .int .i64 0, .int .i64 0, .int .i64 0, .int .i64 0]) rfl 33 _ _ rfl (show Blk _ _ _ _ from unhide HX) rfl rfl size33 rfl (Nat.le_of_ble_eq_true rfl) rfl rfl ?_)
  intro V1 k1 kp
  replace HR := hide (kp.blk (show w.heap.size + 1 ≠ w.heap.size + 1 + 1 by omega) (show Blk _ _ _ _ from unhide HR))
  replace HL := hide (kp.bel (show w.heap.size ≤ w.heap.size + 1 + 1 by omega) (unhide HL))
  have HX := hide k1
  clear k1 kp H6
  go_wp2_with fail
  rw [rounds_succ]
  have H6 := hide (Blk.new V1 #[.int .i64 s.o, .int .i64 s.i, .int .i64 s.u, .int .i64 s.n, .int .i64 s.x, .int .i64 s.z] 26)
  replace HX := hide ((show Blk _ _ _ _ from unhide HX).alloc (.cells #[.int .i64 s.o, .int .i64 s.i, .int .i64 s.u, .int .i64 s.n, .int .i64 s.x, .int .i64 s.z] 26))
  replace HR := hide ((show Blk _ _ _ _ from unhide HR).alloc (.cells #[.int .i64 s.o, .int .i64 s.i, .int .i64 s.u, .int .i64 s.n, .int .i64 s.x, .int .i64 s.z] 26))
  replace HL := hide (below_via (unhide HL) (below1 V1 (.cells #[.int .i64 s.o, .int .i64 s.i, .int .i64 s.u, .int .i64 s.n, .int .i64 s.x, .int .i64 s.z] 26)))
  go_wp2_with (first | simp only [ix27_1] | refine store_at (new := #[.int .i64 r.o, .int .i64 r.i, .int .i64 r.u, .int .i64 r.n, .int .i64 r.x, .int .i64 r.z, .int .i64 s.o, .int .i64 s.i, .int .i64 s.u, .int .i64 s.n, .int .i64 s.x, .int .i64 s.z, .int .i64 0, .int .i64 0, .int .i64 0, .int .i64 0, .int .i64 0, .int .i64 0]) rfl 33 _ _ rfl (show Blk _ _ _ _ from unhide HX) rfl rfl size33 rfl (Nat.le_of_ble_eq_true rfl) rfl rfl ?_)
  intro V2 k1 kp
  replace HR := hide (kp.blk (show w.heap.size + 1 ≠ w.heap.size + 1 + 1 by omega) (show Blk _ _ _ _ from unhide HR))
  replace HL := hide (kp.bel (show w.heap.size ≤ w.heap.size + 1 + 1 by omega) (unhide HL))
  have HX := hide k1
  clear k1 kp H6
  go_wp2_with fail
  rw [rounds_succ]
  have H6 := hide (Blk.new V2 #[.int .i64 t.o, .int .i64 t.i, .int .i64 t.u, .int .i64 t.n, .int .i64 t.x, .int .i64 t.z] 26)
  replace HX := hide ((show Blk _ _ _ _ from unhide HX).alloc (.cells #[.int .i64 t.o, .int .i64 t.i, .int .i64 t.u, .int .i64 t.n, .int .i64 t.x, .int .i64 t.z] 26))
  replace HR := hide ((show Blk _ _ _ _ from unhide HR).alloc (.cells #[.int .i64 t.o, .int .i64 t.i, .int .i64 t.u, .int .i64 t.n, .int .i64 t.x, .int .i64 t.z] 26))
  replace HL := hide (below_via (unhide HL) (below1 V2 (.cells #[.int .i64 t.o, .int .i64 t.i, .int .i64 t.u, .int .i64 t.n, .int .i64 t.x, .int .i64 t.z] 26)))
  go_wp2_with (first | simp only [ix27_2] | refine store_at (new := #[.int .i64 r.o, .int .i64 r.i, .int .i64 r.u, .int .i64 r.n, .int .i64 r.x, .int .i64 r.z, .int .i64 s.o, .int .i64 s.i, .int .i64 s.u, .int .i64 s.n, .int .i64 s.x, .int .i64 s.z, .int .i64 t.o, .int .i64 t.i, .int .i64 t.u, .int .i64 t.n, .int .i64 t.x, .int .i64 t.z]) rfl 33 _ _ rfl (show Blk _ _ _ _ from unhide HX) rfl rfl size33 rfl (Nat.le_of_ble_eq_true rfl) rfl rfl ?_)
  intro V3 k1 kp
  replace HR := hide (kp.blk (show w.heap.size + 1 ≠ w.heap.size + 1 + 1 by omega) (show Blk _ _ _ _ from unhide HR))
  replace HL := hide (kp.bel (show w.heap.size ≤ w.heap.size + 1 + 1 by omega) (unhide HL))
  have HX := hide k1
  clear k1 kp H6
  go_wp2_with fail
  rw [rounds_succ]
  go_wp2_with (first | refine load_blk rfl 34 _ rfl (show Blk _ _ _ _ from unhide HX) rfl row34 size34 rfl ?_ | refine store_blk rfl 34 _ _ rfl (show Blk _ _ _ _ from unhide HR) rfl rfl size34 rfl rfl rfl ?_)
  intro V5 k5 kp
  have k6 := kp.bel (show w.heap.size ≤ w.heap.size + 1 by omega) (unhide HL)
  clear kp HX HR HL
  go_wp2_with fail
  exact bodyPost_ret (v := .agg (cells18 r s t)) (res_c (cs0 := cells18 r s t) rfl k5 row34 size34 rfl rfl) rfl ⟨rfl, k6⟩
end Go.Proofs.Ytkccladbcehdbaa
