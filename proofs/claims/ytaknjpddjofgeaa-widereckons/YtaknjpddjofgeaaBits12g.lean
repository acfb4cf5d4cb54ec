/- The reference's div, downwards: diff. -/
import Derived.Test.YtaknjpddjofgeaaBits12f
namespace Go.Proofs.Ytaknjpddjofgeaa
open Go.RowKit
set_option linter.unusedSimpArgs false
set_option maxRecDepth 20000 in
set_option maxHeartbeats 40000000 in
theorem rdiv_diff (l : Bool) (f : Nat → Nat) (hf : Bit f) (b : Int) (hb : In64 b) (h0 : b ≠ 0) (hl : l ≠ decide (b < 0)) (hV : val f 260 + 1 < P2 260) (w : World) : Calls Try.prog 40 #[.agg (gv l f), .int .i64 b, .int .i64 0] w fun e w' => e = .returned (.tuple #[.int .i64 (okN (Floor true (val f 260) b.natAbs)), .int .i64 (okE (Floor true (val f 260) b.natAbs))]) ∧ Below w.heap.size w w' := by
  replace hl := hide hl
  have hz := zero56
  have hz4 := zero54
  have HF := hide hf
  have HB := hide hb
  have H0 := hide h0
  have t0 : (b == 0) = false := by rw [beq_eq_false_iff_ne]; exact h0
  have HVV := hide hV
  clear hf hb h0 hV
  have ga := hide (GRow.new w l f)
  have B := hide ((Below.refl w.heap.size w).alloc (Nat.le_refl _) (.cells (gv l f) 60))
  go_enter Try.func40, Try.ntmps40
  go_wp2_with fail
  refine (rof_any b (unhide HB) _).mono ?_
  rintro e w1 ⟨rfl, hb1⟩
  replace ga := hide ((unhide ga).keep hb1 (unhide ga).lt)
  replace B := hide (below_via (unhide B) hb1)
  clear hb1
  go_wp2_with fail
  refine (big_any b (in128_of (unhide HB)) _).mono ?_
  rintro e w2 ⟨⟨lb, fb, hD, rfl⟩, hb2⟩
  replace ga := hide ((unhide ga).keep hb2 (unhide ga).lt)
  replace B := hide (below_via (unhide B) hb2)
  have lq : (l == lb) = false := by rw [beq_eq_false_iff_ne, hD.2.1]; exact unhide hl
  replace hD := hide hD
  clear hb2
  have L8 := hide (unhide ga).lt
  obtain ⟨W3, s3, gb, bb, hs3⟩ := g_start w2 lb fb
  replace ga := hide ((unhide ga).keep bb (unhide ga).lt)
  replace B := hide (below_via (unhide B) bb)
  replace gb := hide gb
  clear bb
  go_wp2_with fail
  refine wp_loadB (unhide ga) rfl rfl ?_
  go_wp2_with fail
  refine wp_loadB (unhide gb) rfl rfl ?_
  go_wp2_with fail
  refine (quo_any f fb (unhide HF) (unhide hD).1 (by rw [(unhide hD).2.2]; have := unhide H0; omega) (by rw [(unhide hD).2.2]; have := (unhide HB).lo; have := (unhide HB).hi; omega) _).mono ?_
  rintro e w4 ⟨⟨q, r, hQ, rfl⟩, hb4⟩
  have L9 : w2.heap.size < w4.heap.size := Nat.lt_of_lt_of_le (by rw [hs3]; omega) hb4.size
  replace ga := hide ((unhide ga).keep hb4 (unhide ga).lt)
  replace gb := hide ((unhide gb).keep hb4 (unhide gb).lt)
  replace B := hide (below_via (unhide B) hb4)
  replace hQ := hide hQ
  clear hb4 s3 hs3
  obtain ⟨W6, W7, s6, s7, rq, rr, b7, hs7⟩ := two_bits w4 q r
  replace ga := hide ((unhide ga).keep b7 (unhide ga).lt)
  replace gb := hide ((unhide gb).keep b7 (unhide gb).lt)
  replace B := hide (below_via (unhide B) b7)
  clear b7
  obtain ⟨W8, s8, r1, b8, hs8⟩ := bits_start W7 (upd zb 0 1)
  rw [← bv_tl1, hs7] at s8
  rw [hs7] at r1
  have ca := (unhide ga).less
  have cb := (unhide gb).less
  have HD := hide (show DR w w2.heap.size w4.heap.size W8 l f lb fb q r from ⟨(unhide ga).keep b8 (unhide ga).lt, (unhide gb).keep b8 (unhide gb).lt, rq.keep b8 rq.lt, rr.keep b8 rr.lt, r1, unhide L8, L9, below_via (unhide B) b8⟩)
  clear ga gb B b8 rq rr r1 L8 L9 hs8
  have gs := bv_size zb
  go_wp2_with fail
  clear s6 s7 s8 ca cb gs hs7
  have hDv := (unhide hD).2.2
  have hb0 : 0 < b.natAbs := by have := unhide H0; omega
  have eq := (unhide hQ).2.2.1
  have er := (unhide hQ).2.2.2
  rw [hDv] at eq er
  have HQ1 := hide (show val q 260 + 1 < P2 260 by have := unhide HVV; have := Nat.div_le_self (val f 260) b.natAbs; omega)
  have HN := hide (fun (u : Nat) (hu : (if true = true ∧ 0 < val r 260 then 1 else 0) = u) (k : Nat → Nat) (hk : val k 260 = val q 260 + u) => show sgn true (val k 260) = Floor true (val f 260) b.natAbs by
    unfold Floor
    rw [hk, ← eq, ← er, hu])
  generalize hVr : val r 260 = R at *
  generalize hVq : val q 260 = Qn at *
  have HVq := hide hVq
  have HVr := hide hVr
  clear eq er hDv hVr hVq hb0
  refine wp_load54 (unhide HD).rr rfl rfl ?_
  go_wp2_with fail
  refine (size_any r zb (unhide hQ).2.1 (fun _ => by simp [zb]) _).mono ?_
  rintro e w10 ⟨rfl, hb10⟩
  have hS4 := hide ((unhide HD).keep hb10)
  clear hb10 HD
  rw [val_zb, unhide HVr]
  by_cases hc : 0 < R
  · rw [ord_gt (by omega)]
    replace HN := hide (unhide HN 1 (by rw [if_pos (by first | exact ⟨rfl, hc⟩ | exact ⟨trivial, hc⟩)]))
    clear hc
    go_wp2_with fail
    refine wp_load54 (unhide hS4).rq rfl rfl ?_
    go_wp2_with fail
    refine wp_load54 (unhide hS4).r1 rfl rfl ?_
    go_wp2_with fail
    refine (plus_any q (upd zb 0 1) (unhide hQ).1 (lim_bit 0) _).mono ?_
    rintro e w11 ⟨⟨q2, hP2, rfl⟩, hb11⟩
    have hS5 := (unhide hS4).keep hb11
    have hst := store54c q2 hS5.rq
    have hS6 := hide (hS5.putq q2)
    replace hP2 := hide hP2
    clear hb11 hS5 hS4
    generalize w11.setRow w4.heap.size (bv q2) = W12 at *
    go_wp2_with fail
    refine wp_load54 (unhide hS6).rq rfl rfl ?_
    go_wp2_with fail
    rw [gv_fold]
    refine (small_any true q2 (unhide hP2).1 _).mono ?_
    rintro e w13 ⟨rfl, hb13⟩
    have B13 := hide (below_via (unhide hS6).below hb13)
    clear hb13
    rw [show sgn true (val q2 260) = Floor true (val f 260) b.natAbs from unhide HN q2 (by have h1 := one_more (unhide hP2) (by rw [unhide HVq]; exact unhide HQ1); have h2 := unhide HVq; omega)]
    obtain ⟨z, hz⟩ : ∃ z, z = Floor true (val f 260) b.natAbs := ⟨_, rfl⟩
    rw [← hz]
    replace hz := hide hz
    by_cases tz : turn z = 0
    · rw [okN_in tz, decide_eq_true tz]
      have e1 := hide (okN_in tz)
      have e2 := hide (okE_in tz)
      clear tz
      go_wp2_with fail
      go_ret2
      exact ⟨by rw [← unhide hz, unhide e1, unhide e2]; rfl, unhide B13⟩
    · rw [okN_out tz, decide_eq_false tz]
      have e1 := hide (okN_out tz)
      have e2 := hide (okE_out tz)
      clear tz
      go_wp2_with fail
      go_ret2
      exact ⟨by rw [← unhide hz, unhide e1, unhide e2]; rfl, unhide B13⟩
  · obtain rfl : R = 0 := by omega
    rw [show ord ((0 : Nat) : Int) ((0 : Nat) : Int) = 0 from rfl]
    replace HN := hide (unhide HN 0 (by rw [if_neg (by simp)]))
    go_wp2_with fail
    refine wp_load54 (unhide hS4).rq rfl rfl ?_
    go_wp2_with fail
    rw [gv_fold]
    refine (small_any true q (unhide hQ).1 _).mono ?_
    rintro e w13 ⟨rfl, hb13⟩
    have B13 := hide (below_via (unhide hS4).below hb13)
    clear hb13
    rw [show sgn true (val q 260) = Floor true (val f 260) b.natAbs from unhide HN q ((unhide HVq).trans (Nat.add_zero _).symm)]
    obtain ⟨z, hz⟩ : ∃ z, z = Floor true (val f 260) b.natAbs := ⟨_, rfl⟩
    rw [← hz]
    replace hz := hide hz
    by_cases tz : turn z = 0
    · rw [okN_in tz, decide_eq_true tz]
      have e1 := hide (okN_in tz)
      have e2 := hide (okE_in tz)
      clear tz
      go_wp2_with fail
      go_ret2
      exact ⟨by rw [← unhide hz, unhide e1, unhide e2]; rfl, unhide B13⟩
    · rw [okN_out tz, decide_eq_false tz]
      have e1 := hide (okN_out tz)
      have e2 := hide (okE_out tz)
      clear tz
      go_wp2_with fail
      go_ret2
      exact ⟨by rw [← unhide hz, unhide e1, unhide e2]; rfl, unhide B13⟩
end Go.Proofs.Ytaknjpddjofgeaa
