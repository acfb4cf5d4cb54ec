/- The reference's div, to the nearer one. -/
import Derived.Test.YtpeoabopeihadaaSBits11
import Derived.Test.YtpeoabopeihadaaSTri
set_option linter.unusedVariables false
set_option linter.unusedSimpArgs false
set_option linter.unusedSectionVars false
namespace Go.Proofs.Ytpeoabopeihadaa
open Go.RowKit
attribute [local simp] Tri.typeInfo Tri.sizeOf Tri.underlying Tri.runUnderlying Tri.isAgg Tri.zeroValue Tri.depth Tri.stoodInHeld Tri.eqGuardType Tri.call15 Tri.call14 Tri.call16 Tri.call17 Tri.call18 Tri.call19 Tri.call20 Tri.call46 Tri.call49 Tri.call50 Tri.call51 Tri.call52 Tri.call53 Tri.call54 Tri.call55 Tri.call65 Tri.call95 Tri.call106 Tri.call107 Tri.call108 Tri.call109 Tri.call116 Tri.call117 Tri.call118 Tri.call119 Tri.call120 Tri.call122 Tri.call135 Tri.call136 Tri.call137 Tri.call143 Tri.call144 Tri.call145 Tri.call146 Tri.call147 Tri.call149 Tri.call150 Tri.call151 Tri.call152 Tri.call156 Tri.call157 Tri.call159 Tri.call160 Tri.call161 Tri.call162 Tri.call163 Tri.call164 Tri.call165 Tri.call166 Tri.call167 Tri.call175 Tri.call176 Tri.call178 Tri.call179 Tri.call180 Tri.call181 Tri.call182 Tri.call183 Tri.call186 Tri.call187 Tri.call188 Tri.call204 Tri.call205
def Near (l : Bool) (V : Nat) (b : Int) : Int := sgn (!(l == decide (b < 0))) (V / b.natAbs + upN (V / b.natAbs) (V % b.natAbs) b.natAbs)
set_option maxRecDepth 20000 in
set_option maxHeartbeats 40000000 in
theorem rdiv_near (l : Bool) (f : Nat → Nat) (hf : Bit f) (b : Int) (hb : In64 b) (h0 : b ≠ 0) (hV : val f 260 + 1 < P2 260) (w : World) : Calls (Tri Try.prog) 166 #[.agg (gv l f), .int .i64 b, .int .i64 1] w fun e w' => e = .returned (.tuple #[.int .i64 (okN (Near l (val f 260) b)), .int .i64 (okE (Near l (val f 260) b))]) ∧ Below w.heap.size w w' := by
  have hz := zero56
  have hz4 := zero54
  have HF := hide hf
  have HB := hide hb
  have H0 := hide h0
  have t0 : (b == 0) = false := by rw [beq_eq_false_iff_ne]; exact h0
  have HVV := hide hV
  clear hf hb h0 hV
  have ga := hide (GRow.new w l f)
  have B := hide ((Below.refl w.heap.size w).alloc (Nat.le_refl _) (.cells (gv l f) 201))
  go_enter (Tri.at (by decide) Try.func166), Try.ntmps166
  go_wp2_with fail
  refine (rof_any b (unhide HB) _).mono ?_
  rintro e w1 ⟨rfl, hb1⟩
  replace ga := hide ((unhide ga).keep hb1 (unhide ga).lt)
  replace B := hide (below_via (unhide B) hb1)
  clear hb1
  go_wp2_with fail
  refine (big_any b (in128_of (unhide HB)) _).mono ?_
  rintro e w2 ⟨⟨lb, fb, hD, rfl⟩, hb2⟩
  replace ga := hide ((unhide ga).keep hb2 (unhide ga).lt)
  replace B := hide (below_via (unhide B) hb2)
  replace hD := hide hD
  clear hb2
  have L8 := hide (unhide ga).lt
  obtain ⟨W3, s3, gb, bb, hs3⟩ := g_start w2 lb fb
  replace ga := hide ((unhide ga).keep bb (unhide ga).lt)
  replace B := hide (below_via (unhide B) bb)
  replace gb := hide gb
  clear bb
  go_wp2_with fail
  refine wp_loadB (unhide ga) rfl rfl ?_
  go_wp2_with fail
  refine wp_loadB (unhide gb) rfl rfl ?_
  go_wp2_with fail
  refine (quo_any f fb (unhide HF) (unhide hD).1 (by rw [(unhide hD).2.2]; have := unhide H0; omega) (by rw [(unhide hD).2.2]; have := (unhide HB).lo; have := (unhide HB).hi; omega) _).mono ?_
  rintro e w4 ⟨⟨q, r, hQ, rfl⟩, hb4⟩
  have L9 : w2.heap.size < w4.heap.size := Nat.lt_of_lt_of_le (by rw [hs3]; omega) hb4.size
  replace ga := hide ((unhide ga).keep hb4 (unhide ga).lt)
  replace gb := hide ((unhide gb).keep hb4 (unhide gb).lt)
  replace B := hide (below_via (unhide B) hb4)
  replace hQ := hide hQ
  clear hb4 s3 hs3
  obtain ⟨W6, W7, s6, s7, rq, rr, b7, hs7⟩ := two_bits w4 q r
  replace ga := hide ((unhide ga).keep b7 (unhide ga).lt)
  replace gb := hide ((unhide gb).keep b7 (unhide gb).lt)
  replace B := hide (below_via (unhide B) b7)
  clear b7
  obtain ⟨W8, s8, r1, b8, hs8⟩ := bits_start W7 (upd zb 0 1)
  rw [← bv_tl1, hs7] at s8
  rw [hs7] at r1
  have ca := (unhide ga).less
  have cb := (unhide gb).less
  have HD := hide (show DR w w2.heap.size w4.heap.size W8 l f lb fb q r from ⟨(unhide ga).keep b8 (unhide ga).lt, (unhide gb).keep b8 (unhide gb).lt, rq.keep b8 rq.lt, rr.keep b8 rr.lt, r1, unhide L8, L9, below_via (unhide B) b8⟩)
  clear ga gb B b8 rq rr r1 L8 L9 hs8
  have gs := bv_size zb
  go_wp2_with fail
  clear s6 s7 s8 ca cb gs hs7
  refine wp_region_held_drew (S := fun W => DR w w2.heap.size w4.heap.size W l f lb fb q r) (by kernel_rfl) ((unhide HD).keep (below_drew (Below.refl _ _))) (fun hS => ?_)
  refine wpAnyH_take (i := 0) (v := .agg (bv r)) rfl (by kernel_rfl) (by kernel_rfl) (by kernel_rfl) (fun _ _ _ h => h) (yields54 (fun _ h => h.rr) (by rfl) rfl rfl) hS ?_
  refine wpAnyH_take (i := 1) (v := .agg (bv r)) rfl (by kernel_rfl) (by kernel_rfl) (by kernel_rfl) (fun _ _ _ h => h) (yields54 (fun _ h => h.rr) (by rfl) rfl rfl) hS ?_
  refine wpAnyH_take (i := 3) (v := .pointer (some ⟨w2.heap.size, 1, none⟩)) rfl (by kernel_rfl) (by kernel_rfl) (by kernel_rfl) (fun _ _ _ h => h) (Or.inl ⟨by rfl, fun W _ => by go_simp⟩) hS ?_
  refine wpAnyH_take (i := 4) (v := .agg (bv fb)) rfl (by kernel_rfl) (by kernel_rfl) (by kernel_rfl) (fun _ _ _ h => h) (yieldsB (fun _ h => h.rb) (by rfl) rfl rfl) hS ?_
  refine wpAnyH_all (rs := [2]) (by kernel_rfl) (by simp) (AllReadyH.cons (i := 2) rfl (fun K' hK => ?_) AllReadyH.nil)
  rw [if_pos (by rfl)]
  go_wp2_with fail
  refine (plus_any r r (unhide hQ).2.1 (unhide hQ).2.1 _).mono ?_
  rintro e w9 ⟨⟨h, hP, rfl⟩, hb9⟩
  have hS9 := hide (hS.keep hb9)
  replace hP := hide hP
  clear hb9 hS
  go_wp2_with fail
  refine hK.out _ _ (unhide hS9) (fun hS2 => ?_)
  clear hK hS9
  refine wpAnyH_all (rs := [5]) (by kernel_rfl) (by simp) (AllReadyH.cons (i := 5) rfl (fun K2 hK2 => ?_) AllReadyH.nil)
  rw [if_pos (by rfl)]
  replace hS2 := hide hS2
  go_wp2_with fail
  refine (size_any h fb (unhide hP).1 (unhide hD).1 _).mono ?_
  rintro e w10 ⟨rfl, hb10⟩
  have hS10 := hide ((unhide hS2).keep hb10)
  clear hb10 hS2
  go_wp2_with fail
  refine hK2.out _ _ (unhide hS10) (fun hS3 => ?_)
  clear hK2 hS10
  refine wpAnyH_all (rs := [6]) (by kernel_rfl) (by simp) (AllReadyH.cons (i := 6) rfl (fun K3 hK3 => ?_) AllReadyH.nil)
  rw [if_pos (by rfl)]
  replace hS3 := hide hS3
  go_wp2_with fail
  refine hK3.out _ _ (unhide hS3) (fun hS4 => ?_)
  clear hK3 hS3
  refine wpAnyH_done (by kernel_rfl) ?_ _
  replace hS4 := hide hS4
  have cq := (unhide hS4).rq.cell (i := 0) (by omega)
  have hDv := (unhide hD).2.2
  have hb64 : b.natAbs ≤ 9223372036854775808 := by have := (unhide HB).lo; have := (unhide HB).hi; omega
  have hb0 : 0 < b.natAbs := by have := unhide H0; omega
  have eq := (unhide hQ).2.2.1
  have er := (unhide hQ).2.2.2
  rw [hDv] at eq er
  have hrl : val r 260 < b.natAbs := by rw [er]; exact Nat.mod_lt _ hb0
  have hh := twice (unhide hP) (by omega)
  have hlb := last_bit (unhide hQ).1
  have HQ1 := hide (show val q 260 + 1 < P2 260 by have := unhide HVV; have := Nat.div_le_self (val f 260) b.natAbs; omega)
  have HN := hide (fun (u : Nat) (hu : upN (val q 260) (val r 260) b.natAbs = u) (k : Nat → Nat) (hk : val k 260 = val q 260 + u) => show sgn (!(l == lb)) (val k 260) = Near l (val f 260) b by
    unfold Near
    rw [hk, (unhide hD).2.1, ← eq, ← er, hu])
  rw [hDv, hh]
  generalize hVr : val r 260 = R at *
  generalize hVb : b.natAbs = Bn at *
  generalize hVq : val q 260 = Qn at *
  have HVq := hide hVq
  clear eq er hDv hh hVr hVq hVb hP
  replace hb64 := hide hb64
  by_cases hc : Bn < 2 * R
  · rw [ord_gt (by omega)]
    have hu : upN Qn R Bn = 1 := by unfold upN; rw [if_pos (Or.inl hc)]
    replace HN := hide (unhide HN 1 hu)
    clear hc hu
    go_wp2_with fail
    refine wp_load54 (unhide hS4).rq rfl rfl ?_
    go_wp2_with fail
    refine wp_load54 (unhide hS4).r1 rfl rfl ?_
    go_wp2_with fail
    refine (plus_any q (upd zb 0 1) (unhide hQ).1 (lim_bit 0) _).mono ?_
    rintro e w11 ⟨⟨q2, hP2, rfl⟩, hb11⟩
    have hS5 := (unhide hS4).keep hb11
    have hst := store54c q2 hS5.rq
    have hS6 := hide (hS5.putq q2)
    replace hP2 := hide hP2
    clear hb11 hS5 hS4 cq
    generalize w11.setRow w4.heap.size (bv q2) = W12 at *
    go_wp2_with fail
    refine wp_load54 (unhide hS6).rq rfl rfl ?_
    go_wp2_with fail
    rw [gv_fold]
    refine (small_any (!(l == lb)) q2 (unhide hP2).1 _).mono ?_
    rintro e w13 ⟨rfl, hb13⟩
    have B13 := hide (below_via (unhide hS6).below hb13)
    clear hb13
    rw [show sgn (!(l == lb)) (val q2 260) = Near l (val f 260) b from unhide HN q2 (by have h1 := one_more (unhide hP2) (by rw [unhide HVq]; exact unhide HQ1); have h2 := unhide HVq; omega)]
    obtain ⟨z, hz⟩ : ∃ z, z = Near l (val f 260) b := ⟨_, rfl⟩
    rw [← hz]
    replace hz := hide hz
    by_cases tz : turn z = 0
    · rw [okN_in tz, decide_eq_true tz]
      have e1 := hide (okN_in tz)
      have e2 := hide (okE_in tz)
      clear tz
      go_wp2_with fail
      go_ret2
      exact ⟨by rw [← unhide hz, unhide e1, unhide e2]; rfl, unhide B13⟩
    · rw [okN_out tz, decide_eq_false tz]
      have e1 := hide (okN_out tz)
      have e2 := hide (okE_out tz)
      clear tz
      go_wp2_with fail
      go_ret2
      exact ⟨by rw [← unhide hz, unhide e1, unhide e2]; rfl, unhide B13⟩
  · by_cases hc2 : 2 * R = Bn
    · rw [show ((2 * R : Nat) : Int) = (Bn : Int) by omega, ord_same]
      have hq0 := (unhide hQ).1 0
      rcases (show q 0 = 0 ∨ q 0 = 1 by omega) with e0 | e0
      · have hu : upN Qn R Bn = 0 := by unfold upN; rw [if_neg (by omega)]
        replace HN := hide (unhide HN 0 hu)
        rw [e0] at cq
        clear hc hc2 hu hq0 e0 hlb hrl
        go_wp2_with fail
        refine wp_load54 (unhide hS4).rq rfl rfl ?_
        go_wp2_with fail
        rw [gv_fold]
        refine (small_any (!(l == lb)) q (unhide hQ).1 _).mono ?_
        rintro e w13 ⟨rfl, hb13⟩
        have B13 := hide (below_via (unhide hS4).below hb13)
        clear hb13
        rw [show sgn (!(l == lb)) (val q 260) = Near l (val f 260) b from unhide HN q ((unhide HVq).trans (Nat.add_zero _).symm)]
        obtain ⟨z, hz⟩ : ∃ z, z = Near l (val f 260) b := ⟨_, rfl⟩
        rw [← hz]
        replace hz := hide hz
        by_cases tz : turn z = 0
        · rw [okN_in tz, decide_eq_true tz]
          have e1 := hide (okN_in tz)
          have e2 := hide (okE_in tz)
          clear tz
          go_wp2_with fail
          go_ret2
          exact ⟨by rw [← unhide hz, unhide e1, unhide e2]; rfl, unhide B13⟩
        · rw [okN_out tz, decide_eq_false tz]
          have e1 := hide (okN_out tz)
          have e2 := hide (okE_out tz)
          clear tz
          go_wp2_with fail
          go_ret2
          exact ⟨by rw [← unhide hz, unhide e1, unhide e2]; rfl, unhide B13⟩
      · have hu : upN Qn R Bn = 1 := by unfold upN; rw [if_pos (Or.inr ⟨hc2, by omega⟩)]
        replace HN := hide (unhide HN 1 hu)
        rw [e0] at cq
        clear hc hc2 hu hq0 e0 hlb hrl
        go_wp2_with fail
        refine wp_load54 (unhide hS4).rq rfl rfl ?_
        go_wp2_with fail
        refine wp_load54 (unhide hS4).r1 rfl rfl ?_
        go_wp2_with fail
        refine (plus_any q (upd zb 0 1) (unhide hQ).1 (lim_bit 0) _).mono ?_
        rintro e w11 ⟨⟨q2, hP2, rfl⟩, hb11⟩
        have hS5 := (unhide hS4).keep hb11
        have hst := store54c q2 hS5.rq
        have hS6 := hide (hS5.putq q2)
        replace hP2 := hide hP2
        clear hb11 hS5 hS4 cq
        generalize w11.setRow w4.heap.size (bv q2) = W12 at *
        go_wp2_with fail
        refine wp_load54 (unhide hS6).rq rfl rfl ?_
        go_wp2_with fail
        rw [gv_fold]
        refine (small_any (!(l == lb)) q2 (unhide hP2).1 _).mono ?_
        rintro e w13 ⟨rfl, hb13⟩
        have B13 := hide (below_via (unhide hS6).below hb13)
        clear hb13
        rw [show sgn (!(l == lb)) (val q2 260) = Near l (val f 260) b from unhide HN q2 (by have h1 := one_more (unhide hP2) (by rw [unhide HVq]; exact unhide HQ1); have h2 := unhide HVq; omega)]
        obtain ⟨z, hz⟩ : ∃ z, z = Near l (val f 260) b := ⟨_, rfl⟩
        rw [← hz]
        replace hz := hide hz
        by_cases tz : turn z = 0
        · rw [okN_in tz, decide_eq_true tz]
          have e1 := hide (okN_in tz)
          have e2 := hide (okE_in tz)
          clear tz
          go_wp2_with fail
          go_ret2
          exact ⟨by rw [← unhide hz, unhide e1, unhide e2]; rfl, unhide B13⟩
        · rw [okN_out tz, decide_eq_false tz]
          have e1 := hide (okN_out tz)
          have e2 := hide (okE_out tz)
          clear tz
          go_wp2_with fail
          go_ret2
          exact ⟨by rw [← unhide hz, unhide e1, unhide e2]; rfl, unhide B13⟩
    · rw [ord_lt (by omega)]
      have hu : upN Qn R Bn = 0 := by unfold upN; rw [if_neg (by omega)]
      replace HN := hide (unhide HN 0 hu)
      clear hc hc2 hu hlb hrl
      go_wp2_with fail
      refine wp_load54 (unhide hS4).rq rfl rfl ?_
      go_wp2_with fail
      rw [gv_fold]
      refine (small_any (!(l == lb)) q (unhide hQ).1 _).mono ?_
      rintro e w13 ⟨rfl, hb13⟩
      have B13 := hide (below_via (unhide hS4).below hb13)
      clear hb13
      rw [show sgn (!(l == lb)) (val q 260) = Near l (val f 260) b from unhide HN q ((unhide HVq).trans (Nat.add_zero _).symm)]
      obtain ⟨z, hz⟩ : ∃ z, z = Near l (val f 260) b := ⟨_, rfl⟩
      rw [← hz]
      replace hz := hide hz
      by_cases tz : turn z = 0
      · rw [okN_in tz, decide_eq_true tz]
        have e1 := hide (okN_in tz)
        have e2 := hide (okE_in tz)
        clear tz
        go_wp2_with fail
        go_ret2
        exact ⟨by rw [← unhide hz, unhide e1, unhide e2]; rfl, unhide B13⟩
      · rw [okN_out tz, decide_eq_false tz]
        have e1 := hide (okN_out tz)
        have e2 := hide (okE_out tz)
        clear tz
        go_wp2_with fail
        go_ret2
        exact ⟨by rw [← unhide hz, unhide e1, unhide e2]; rfl, unhide B13⟩
end Go.Proofs.Ytpeoabopeihadaa
