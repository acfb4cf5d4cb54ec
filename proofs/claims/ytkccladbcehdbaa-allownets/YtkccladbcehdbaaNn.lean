/- What Net answers. -/
import Derived.Test.YtkccladbcehdbaaNs
namespace Go.Proofs.Ytkccladbcehdbaa
open Go.RowKit
set_option linter.unusedVariables false
set_option linter.unusedSimpArgs false
theorem past_one (w : World) (b k : Nat) (v : Value) : Past w (w.setCell ⟨b, k, none⟩ v) b := past_setCells [v] k w
theorem blk_put {w : World} {b : Nat} {r s t : Rw} {k : Nat} (h : Blk w b (cells6 (upto r s t k)) 60) (hk : k < 6) : Blk (w.setCell ⟨b, k, none⟩ (.int .i64 (sumC r s t k))) b (cells6 (upto r s t (k + 1))) 60 := by
  have q := h.set k (.int .i64 (sumC r s t k))
  rw [← upto_put r s t hk]
  exact q
set_option maxHeartbeats 8000000 in
theorem net14 (r s t : Rw) (hr : RwI6 r) (hs : RwI6 s) (ht : RwI6 t) (w : World) : Calls Try.prog 14 #[.agg (cells18 r s t)] w fun e w' => e = .returned (.tuple #[.agg (cells6 (netV r s t)), .int .i64 (netE r s t)]) ∧ Below w.heap.size w w' := by
  have HX := hide ((Blk.new w (cells18 r s t) 27).alloc (.cells #[.int .i64 0, .int .i64 0, .int .i64 0, .int .i64 0, .int .i64 0, .int .i64 0] 26))
  have HR : Hid (Blk ((w.alloc (.cells (cells18 r s t) 27)).alloc (.cells #[.int .i64 0, .int .i64 0, .int .i64 0, .int .i64 0, .int .i64 0, .int .i64 0] 26)) (w.heap.size + 1) #[.int .i64 0, .int .i64 0, .int .i64 0, .int .i64 0, .int .i64 0, .int .i64 0] 26) := hide (by have := Blk.new (w.alloc (.cells (cells18 r s t) 27)) #[.int .i64 0, .int .i64 0, .int .i64 0, .int .i64 0, .int .i64 0, .int .i64 0] 26; simpa using this)
  have HB := hide (below_via (below1 w (.cells (cells18 r s t) 27)) (below1 _ (.cells #[.int .i64 0, .int .i64 0, .int .i64 0, .int .i64 0, .int .i64 0, .int .i64 0] 26)))
  have HV : Hid (netV r s t = if okC3 r s t 6 = true then netR r s t else rw0) := hide rfl
  have HE : Hid (netE r s t = if okC3 r s t 6 = true then 0 else 3) := hide rfl
  generalize netV r s t = NV at *
  generalize netE r s t = NE at *
  replace hr := hide hr
  replace hs := hide hs
  replace ht := hide ht
  go_enter Try.func14, Try.ntmps14
  go_wp2_with fail
  generalize (w.alloc (.cells (cells18 r s t) 27)).alloc (.cells #[.int .i64 0, .int .i64 0, .int .i64 0, .int .i64 0, .int .i64 0, .int .i64 0] 26) = w1 at *
  refine nreg1 HX (hide (fun b4 b5 b6 W k4 k5 k6 g4 g5 g6 hb => ?_))
  have hlr := hide (show Blk _ _ _ _ from unhide HR).lt
  replace HR := hide (((show Blk _ _ _ _ from unhide HR).keep hb).alloc (.cells #[.int .i64 0, .int .i64 0, .int .i64 0, .int .i64 0, .int .i64 0, .int .i64 0] 60))
  have H4 := hide (k4.alloc (.cells #[.int .i64 0, .int .i64 0, .int .i64 0, .int .i64 0, .int .i64 0, .int .i64 0] 60))
  have H5 := hide (k5.alloc (.cells #[.int .i64 0, .int .i64 0, .int .i64 0, .int .i64 0, .int .i64 0, .int .i64 0] 60))
  have H6 := hide (k6.alloc (.cells #[.int .i64 0, .int .i64 0, .int .i64 0, .int .i64 0, .int .i64 0, .int .i64 0] 60))
  have H7 : Hid (Blk (W.alloc (.cells #[.int .i64 0, .int .i64 0, .int .i64 0, .int .i64 0, .int .i64 0, .int .i64 0] 60)) W.heap.size (cells6 (upto r s t 0)) 60) := hide (Blk.new W _ 60)
  have n4 := hide (Nat.ne_of_lt k4.lt)
  have n5 := hide (Nat.ne_of_lt k5.lt)
  have n6 := hide (Nat.ne_of_lt k6.lt)
  have nr := hide (show w.heap.size + 1 ≠ W.heap.size by have := unhide hlr; have := hb.size; omega)
  have n0 := hide (show w.heap.size ≤ W.heap.size by have := (unhide HB).size; have := hb.size; omega)
  replace HB := hide (below_via (unhide HB) (below_via hb (below1 W (.cells #[.int .i64 0, .int .i64 0, .int .i64 0, .int .i64 0, .int .i64 0, .int .i64 0] 60))))
  clear k4 k5 k6 g4 g5 g6 hb HX hlr
  go_wp2_with fail
  generalize W.alloc (.cells #[.int .i64 0, .int .i64 0, .int .i64 0, .int .i64 0, .int .i64 0, .int .i64 0] 60) = W2 at *
  generalize W.heap.size = b7 at *
  go_loopw [20] (fun i wr => ∃ k : Nat, k ≤ 6 ∧ i = .int .i64 k ∧ Hid (Blk wr b4 (cells6 r) 60) ∧ Hid (Blk wr b5 (cells6 s) 60) ∧ Hid (Blk wr b6 (cells6 t) 60) ∧ Hid (Blk wr b7 (cells6 (upto r s t k)) 60) ∧ Hid (Blk wr (w.heap.size + 1) #[.int .i64 0, .int .i64 0, .int .i64 0, .int .i64 0, .int .i64 0, .int .i64 0] 26) ∧ Hid (Below w.heap.size w wr) ∧ Hid (okC3 r s t k = true)) (fun i _ => 6 - (intOf i).toNat)
  case atStart => exact ⟨0, by omega, rfl, H4, H5, H6, H7, HR, HB, hide rfl⟩
  case round =>
    clear H4 H5 H6 H7 HR HB
    obtain ⟨k, hk, rfl, H4, H5, H6, H7, HR, HB, HK⟩ := hrel
    by_cases hlt : k < 6
    · have k1 : (k : Int) < 6 := by omega
      have Hk := hide hlt
      have hq := hide (fun h => okC3_next (r := r) (s := s) (t := t) (k := k) (unhide HK) h)
      have hz := hide (fun h => okC3_bad (r := r) (s := s) (t := t) (k := k) hlt h)
      have m4 := hide (col_cell (unhide H4) hlt)
      have m5 := hide (col_cell (unhide H5) hlt)
      have m6 := hide (col_cell (unhide H6) hlt)
      clear hlt HK
      go_wp2_with fail
      refine nreg6 k1 m4 m5 m6 (hide ((unhide hr).c k)) (hide ((unhide hs).c k)) (hide ((unhide ht).c k)) (fun nb W3 hb => ?_)
      clear m4 m5 m6
      replace H4 := hide ((unhide H4).keep hb)
      replace H5 := hide ((unhide H5).keep hb)
      replace H6 := hide ((unhide H6).keep hb)
      replace H7 := hide ((unhide H7).keep hb)
      replace HR := hide ((unhide HR).keep hb)
      replace HB := hide (below_via (unhide HB) hb)
      clear hb
      by_cases hT : turn (sumC r s t k) = 0
      · rw [okN_in hT, okE_in hT]
        have hc := (unhide H7).at k ((cells6 (upto r s t k))[k]'(unhide Hk)) (Array.getElem?_eq_getElem _)
        have hf := (unhide H7).fz k
        have HP := hide (past_one W3 b7 k (.int .i64 (sumC r s t k)))
        have H7b := hide (blk_put (unhide H7) (unhide Hk))
        have hK := hide (unhide hq hT)
        replace H4 := hide ((unhide HP).blk (unhide n4) (unhide H4))
        replace H5 := hide ((unhide HP).blk (unhide n5) (unhide H5))
        replace H6 := hide ((unhide HP).blk (unhide n6) (unhide H6))
        replace HR := hide ((unhide HP).blk (unhide nr) (unhide HR))
        replace HB := hide ((unhide HP).bel (unhide n0) (unhide HB))
        clear hT hq hz HP H7
        generalize (cells6 (upto r s t k))[k]'(unhide Hk) = old at *
        generalize sumC r s t k = S at *
        go_wp2_with fail
        go_roundw
        case rel => exact ⟨k + 1, by have := unhide Hk; omega, by go_num, H4, H5, H6, H7b, HR, HB, hK⟩
        case measure => simp [intOf]; have := unhide Hk; omega
      · rw [okN_out hT, okE_out hT]
        obtain rfl : NV = rw0 := (unhide HV).trans (if_neg (fun c => by rw [unhide hz hT] at c; cases c))
        obtain rfl : NE = 3 := (unhide HE).trans (if_neg (fun c => by rw [unhide hz hT] at c; cases c))
        clear hT hq hz HV HE H4 H5 H6 H7
        go_wp2_with (first | refine store_blk rfl 26 _ _ rfl (show Blk _ _ _ _ from unhide HR) rfl rfl size26 rfl rfl rfl ?_)
        intro V1 q1 kp
        have q6 := kp.bel (show w.heap.size ≤ w.heap.size + 1 by omega) (unhide HB)
        clear kp HR HB
        go_wp2_with fail
        exact bodyPost_ret (v := .tuple #[.agg (cells6 rw0), .int .i64 3]) (res_ct (cs0 := cells6 rw0) rfl q1 row26 size26 rfl rfl rfl) rfl ⟨rfl, q6⟩
    · obtain rfl : k = 6 := by omega
      obtain rfl : NV = netR r s t := (unhide HV).trans (if_pos (unhide HK))
      obtain rfl : NE = 0 := (unhide HE).trans (if_pos (unhide HK))
      rw [upto_all] at H7
      clear HV HE HK H4 H5 H6
      generalize hN : netR r s t = N at *
      have HN := hide hN
      clear hN
      go_wp2_with (first | refine load_blk rfl 60 _ rfl (show Blk _ _ _ _ from unhide H7) rfl row60 size60 rfl ?_)
      refine (rowof_any N _).mono ?_
      rintro e w9 ⟨rfl, hb⟩
      replace HR := hide ((show Blk _ _ _ _ from unhide HR).keep hb)
      replace HB := hide (below_via (unhide HB) hb)
      clear hb H7
      go_wp2_with (first | refine store_blk rfl 26 _ _ rfl (show Blk _ _ _ _ from unhide HR) rfl rfl size26 rfl rfl rfl ?_)
      intro V1 q1 kp
      have q6 := kp.bel (show w.heap.size ≤ w.heap.size + 1 by omega) (unhide HB)
      clear kp HR HB
      go_wp2_with fail
      exact bodyPost_ret (v := .tuple #[.agg (cells6 N), .int .i64 0]) (res_ct (cs0 := cells6 N) rfl q1 row26 size26 rfl rfl rfl) rfl ⟨by rw [unhide HN], q6⟩
end Go.Proofs.Ytkccladbcehdbaa
