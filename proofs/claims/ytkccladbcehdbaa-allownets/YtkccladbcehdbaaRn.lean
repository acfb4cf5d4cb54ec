/- What Net answers, by the document. -/
import Derived.Test.YtkccladbcehdbaaNn
namespace Go.Proofs.Ytkccladbcehdbaa
open Go.RowKit
set_option linter.unusedVariables false
set_option linter.unusedSimpArgs false
theorem ix60c (r : Rw) {k : Nat} (hk : k < 6) (w : World) : (Instr.index 60 (.agg (cells6 r)) (.int .i64 (k : Int))).run Try.prog w = .ok (.int .i64 (colR r k)) w := by
  match k, hk with
  | 0, _ => exact ix60_0 _ _ _ _ _ _ w
  | 1, _ => exact ix60_1 _ _ _ _ _ _ w
  | 2, _ => exact ix60_2 _ _ _ _ _ _ w
  | 3, _ => exact ix60_3 _ _ _ _ _ _ w
  | 4, _ => exact ix60_4 _ _ _ _ _ _ w
  | 5, _ => exact ix60_5 _ _ _ _ _ _ w
theorem Mn.Grow.fine {E : TypeId} {w wr : World} {v : Value} {zs : List Int} (h : Mn.Grow E w wr v zs) : Mn.Fine v := fun a l c e => by
  obtain ⟨_, h2⟩ := h.owns
  rcases h2 with ⟨rfl, _⟩ | ⟨g, cap, cur, rfl, _, _, h5, _⟩
  · cases e; exact ⟨Nat.le_refl _, fun _ => rfl⟩
  · cases e; exact ⟨h5, fun c => by cases c⟩
theorem past_one' (w : World) (b k : Nat) (v : Value) : Past w (w.setCell ⟨b, k, none⟩ v) b := past_setCells [v] k w
set_option maxHeartbeats 16000000 in
theorem rnet15 (r s t : Rw) (hr : RwI6 r) (hs : RwI6 s) (ht : RwI6 t) (w : World) : Calls Try.prog 15 #[.agg (cells18 r s t)] w fun e w' => e = .returned (.tuple #[.agg (cells6 (netV r s t)), .int .i64 (netE r s t)]) ∧ Below w.heap.size w w' := by
  have HX := hide (((Blk.new w (cells18 r s t) 34).alloc (.cells #[.int .i64 0, .int .i64 0, .int .i64 0, .int .i64 0, .int .i64 0, .int .i64 0] 33)).alloc (.cells #[.int .i64 0, .int .i64 0, .int .i64 0, .int .i64 0, .int .i64 0, .int .i64 0] 60))
  have HR : Hid (Blk (((w.alloc (.cells (cells18 r s t) 34)).alloc (.cells #[.int .i64 0, .int .i64 0, .int .i64 0, .int .i64 0, .int .i64 0, .int .i64 0] 33)).alloc (.cells #[.int .i64 0, .int .i64 0, .int .i64 0, .int .i64 0, .int .i64 0, .int .i64 0] 60)) (w.heap.size + 1) #[.int .i64 0, .int .i64 0, .int .i64 0, .int .i64 0, .int .i64 0, .int .i64 0] 33) := hide (Blk.alloc (by have := Blk.new (w.alloc (.cells (cells18 r s t) 34)) #[.int .i64 0, .int .i64 0, .int .i64 0, .int .i64 0, .int .i64 0, .int .i64 0] 33; simpa using this) _)
  have H7 : Hid (Blk (((w.alloc (.cells (cells18 r s t) 34)).alloc (.cells #[.int .i64 0, .int .i64 0, .int .i64 0, .int .i64 0, .int .i64 0, .int .i64 0] 33)).alloc (.cells #[.int .i64 0, .int .i64 0, .int .i64 0, .int .i64 0, .int .i64 0, .int .i64 0] 60)) (w.heap.size + 1 + 1) (cells6 (upto r s t 0)) 60) := hide (show Blk _ _ #[.int .i64 0, .int .i64 0, .int .i64 0, .int .i64 0, .int .i64 0, .int .i64 0] 60 by have := Blk.new ((w.alloc (.cells (cells18 r s t) 34)).alloc (.cells #[.int .i64 0, .int .i64 0, .int .i64 0, .int .i64 0, .int .i64 0, .int .i64 0] 33)) #[.int .i64 0, .int .i64 0, .int .i64 0, .int .i64 0, .int .i64 0, .int .i64 0] 60; simpa using this)
  have HB := hide (below_via (below1 w (.cells (cells18 r s t) 34)) (below_via (below1 _ (.cells #[.int .i64 0, .int .i64 0, .int .i64 0, .int .i64 0, .int .i64 0, .int .i64 0] 33)) (below1 _ (.cells #[.int .i64 0, .int .i64 0, .int .i64 0, .int .i64 0, .int .i64 0, .int .i64 0] 60))))
  have HV : Hid (netV r s t = if okC3 r s t 6 = true then netR r s t else rw0) := hide rfl
  have HE : Hid (netE r s t = if okC3 r s t 6 = true then 0 else 3) := hide rfl
  generalize netV r s t = NV at *
  generalize netE r s t = NE at *
  replace hr := hide hr
  replace hs := hide hs
  replace ht := hide ht
  go_enter Try.func15, Try.ntmps15
  go_wp2_with fail
  generalize ((w.alloc (.cells (cells18 r s t) 34)).alloc (.cells #[.int .i64 0, .int .i64 0, .int .i64 0, .int .i64 0, .int .i64 0, .int .i64 0] 33)).alloc (.cells #[.int .i64 0, .int .i64 0, .int .i64 0, .int .i64 0, .int .i64 0, .int .i64 0] 60) = w1 at *
  go_loopw [11] (fun i wr => ∃ k : Nat, k ≤ 6 ∧ i = .int .i64 k ∧ Hid (Blk wr w.heap.size (cells18 r s t) 34) ∧ Hid (Blk wr (w.heap.size + 1 + 1) (cells6 (upto r s t k)) 60) ∧ Hid (Blk wr (w.heap.size + 1) #[.int .i64 0, .int .i64 0, .int .i64 0, .int .i64 0, .int .i64 0, .int .i64 0] 33) ∧ Hid (Below w.heap.size w wr) ∧ Hid (okC3 r s t k = true)) (fun i _ => 6 - (intOf i).toNat)
  case atStart => exact ⟨0, by omega, rfl, HX, H7, HR, HB, hide rfl⟩
  case round =>
    clear HX H7 HR HB
    obtain ⟨k, hk, rfl, HX, H7, HR, HB, HK⟩ := hrel
    by_cases hlt : k < 6
    · have k1 : (k : Int) < 6 := by omega
      have Hk := hide hlt
      have hq := hide (fun h => okC3_next (r := r) (s := s) (t := t) (k := k) (unhide HK) h)
      have hz := hide (fun h => okC3_bad (r := r) (s := s) (t := t) (k := k) hlt h)
      have HG := hide (Mn.Grow.nil 2 wr wr (Below.refl _ _))
      generalize hwj : wr = wj at *
      clear hwj hlt HK
      go_wp2_with (first | refine load_blk rfl 34 _ rfl (show Blk _ _ _ _ from unhide HX) rfl row34 size34 rfl ?_)
      refine wp_loop_rounds 4 ?_
      rw [rounds_succ]
      have hi0 := ix60c r (unhide Hk)
      have hc0 := hide ((unhide hr).c k)
      generalize hcc : colR r k = cr at *
      replace hcc := hide hcc
      have hcolr := hcc
      clear hcc
      replace HG := hide ((unhide HG).keep (below1 wj (.cells (cells6 r) 33)))
      go_wp2_with (first | simp only [ix34_0] | simp only [hi0] | (at_builtin; refine Mn.push_law 2 64 Try.underlying64 Mn.info2 rfl _ _ rfl wj _ _ [] _ (unhide HG) rfl (by simp [Act.eval, Act.put]) (by simp) (unhide hc0) ?_))
      intro v0 W1 hG2
      replace HG := hide hG2
      clear hG2 hi0
      go_wp2_with fail
      rw [rounds_succ]
      have hi1 := ix60c s (unhide Hk)
      have hc1 := hide ((unhide hs).c k)
      generalize hcc : colR s k = cs at *
      replace hcc := hide hcc
      have hcols := hcc
      clear hcc
      replace HG := hide ((unhide HG).keep (below1 W1 (.cells (cells6 s) 33)))
      go_wp2_with (first | simp only [ix34_1] | simp only [hi1] | (at_builtin; refine Mn.push_law 2 64 Try.underlying64 Mn.info2 rfl _ _ rfl wj _ _ [cr] _ (unhide HG) rfl (by simp [Act.eval, Act.put]) (by simp) (unhide hc1) ?_))
      intro v1 W2 hG2
      replace HG := hide hG2
      clear hG2 hi1
      go_wp2_with fail
      rw [rounds_succ]
      have hi2 := ix60c t (unhide Hk)
      have hc2 := hide ((unhide ht).c k)
      generalize hcc : colR t k = ct at *
      replace hcc := hide hcc
      have hcolt := hcc
      clear hcc
      replace HG := hide ((unhide HG).keep (below1 W2 (.cells (cells6 t) 33)))
      go_wp2_with (first | simp only [ix34_2] | simp only [hi2] | (at_builtin; refine Mn.push_law 2 64 Try.underlying64 Mn.info2 rfl _ _ rfl wj _ _ [cr, cs] _ (unhide HG) rfl (by simp [Act.eval, Act.put]) (by simp) (unhide hc2) ?_))
      intro v2 W3 hG2
      replace HG := hide hG2
      clear hG2 hi2
      go_wp2_with fail
      rw [rounds_succ]
      replace HG : Hid (Mn.Grow 2 wj W3 v2 [cr, cs, ct]) := HG
      have hsum : Hid (Mn.total [cr, cs, ct] = sumC r s t k) := hide (by rw [total3, ← unhide hcolr, ← unhide hcols, ← unhide hcolt]; rfl)
      have hb := (unhide HG).below
      replace HX := hide ((unhide HX).keep hb)
      replace H7 := hide ((unhide H7).keep hb)
      replace HR := hide ((unhide HR).keep hb)
      replace HB := hide (below_via (unhide HB) hb)
      clear hb
      have HQ := hide (Mn.rsum_any _ _ _ ((unhide HG).row (by simp [maxLen])) (unhide HG).fine (by simp))
      rw [unhide hsum] at HQ
      clear HG hsum
      go_wp2_with fail
      refine (unhide HQ).mono ?_
      rintro e w5 ⟨rfl, hb⟩
      replace HX := hide ((unhide HX).keep hb)
      replace H7 := hide ((unhide H7).keep hb)
      replace HR := hide ((unhide HR).keep hb)
      replace HB := hide (below_via (unhide HB) hb)
      clear hb HQ
      by_cases hT : turn (sumC r s t k) = 0
      · rw [okN_in hT, okE_in hT]
        have hc := (unhide H7).at k ((cells6 (upto r s t k))[k]'(unhide Hk)) (Array.getElem?_eq_getElem _)
        have hf := (unhide H7).fz k
        have HP := hide (past_one' w5 (w.heap.size + 1 + 1) k (.int .i64 (sumC r s t k)))
        have H7b := hide (blk_put (unhide H7) (unhide Hk))
        have hK := hide (unhide hq hT)
        replace HX := hide ((unhide HP).blk (show w.heap.size ≠ w.heap.size + 1 + 1 by omega) (unhide HX))
        replace HR := hide ((unhide HP).blk (show w.heap.size + 1 ≠ w.heap.size + 1 + 1 by omega) (unhide HR))
        replace HB := hide ((unhide HP).bel (show w.heap.size ≤ w.heap.size + 1 + 1 by omega) (unhide HB))
        clear hT hq hz HP H7
        generalize (cells6 (upto r s t k))[k]'(unhide Hk) = old at *
        generalize sumC r s t k = S at *
        go_wp2_with fail
        go_roundw
        case rel => exact ⟨k + 1, by have := unhide Hk; omega, by go_num, HX, H7b, HR, HB, hK⟩
        case measure => simp [intOf]; have := unhide Hk; omega
      · rw [okN_out hT, okE_out hT]
        obtain rfl : NV = rw0 := (unhide HV).trans (if_neg (fun c => by rw [unhide hz hT] at c; cases c))
        obtain rfl : NE = 3 := (unhide HE).trans (if_neg (fun c => by rw [unhide hz hT] at c; cases c))
        clear hT hq hz HV HE HX H7
        go_wp2_with (first | refine store_blk rfl 33 _ _ rfl (show Blk _ _ _ _ from unhide HR) rfl rfl size33 rfl rfl rfl ?_)
        intro V1 q1 kp
        have q6 := kp.bel (show w.heap.size ≤ w.heap.size + 1 by omega) (unhide HB)
        clear kp HR HB
        go_wp2_with fail
        exact bodyPost_ret (v := .tuple #[.agg (cells6 rw0), .int .i64 3]) (res_ct (cs0 := cells6 rw0) rfl q1 row33 size33 rfl rfl rfl) rfl ⟨rfl, q6⟩
    · obtain rfl : k = 6 := by omega
      obtain rfl : NV = netR r s t := (unhide HV).trans (if_pos (unhide HK))
      obtain rfl : NE = 0 := (unhide HE).trans (if_pos (unhide HK))
      rw [upto_all] at H7
      clear HV HE HK HX
      generalize hN : netR r s t = N at *
      have HN := hide hN
      clear hN
      have c0 := (unhide H7).at 0 (.int .i64 N.o) rfl
      have c1 := (unhide H7).at 1 (.int .i64 N.i) rfl
      have c2 := (unhide H7).at 2 (.int .i64 N.u) rfl
      have c3 := (unhide H7).at 3 (.int .i64 N.n) rfl
      have c4 := (unhide H7).at 4 (.int .i64 N.x) rfl
      have c5 := (unhide H7).at 5 (.int .i64 N.z) rfl
      go_wp2_with (first | refine store_blk rfl 33 _ _ rfl (show Blk _ _ _ _ from unhide HR) rfl rfl size33 rfl rfl rfl ?_)
      intro V1 q1 kp
      have q6 := kp.bel (show w.heap.size ≤ w.heap.size + 1 by omega) (unhide HB)
      clear kp HR HB H7 c0 c1 c2 c3 c4 c5
      go_wp2_with fail
      exact bodyPost_ret (v := .tuple #[.agg (cells6 N), .int .i64 0]) (res_ct (cs0 := cells6 N) rfl q1 row33 size33 rfl rfl rfl) rfl ⟨by rw [unhide HN], q6⟩
end Go.Proofs.Ytkccladbcehdbaa
