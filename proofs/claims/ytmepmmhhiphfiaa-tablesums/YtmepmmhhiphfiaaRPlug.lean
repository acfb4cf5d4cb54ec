/- The document's Plug. -/
import Derived.Test.YtmepmmhhiphfiaaTPlug
import Derived.Test.YtmepmmhhiphfiaaBits14
namespace Go.Proofs.Ytmepmmhhiphfiaa.Mn
open Go.RowKit
set_option linter.unusedSimpArgs false
theorem rp_none (x : Option Addr) (cap : Nat) (r : Int) (w : World) : PlugA 16 w (.slice x 0 cap) r 0 8 := by
  unfold PlugA
  go_enter Try.func16, Try.ntmps16
  go_wp2_with fail
  go_ret2
  exact ⟨rfl, Below.refl _ _⟩
set_option maxHeartbeats 800000 in
theorem rp_rate {b off cap m : Nat} {l : List (List Int)} {r : Int} {w : World} (h : RowN 4 w (.slice (some ⟨b, off, none⟩) (m + 1) cap) l) (hl : l.length = m + 1) (hm : m ≤ 1000) (hr : ¬ May r) : PlugA 16 w (.slice (some ⟨b, off, none⟩) (m + 1) cap) r 0 2 := by
  unfold PlugA
  have d0 := row_last h hl (t := 0) (by decide)
  have d1 := row_last h hl (t := 1) (by decide)
  have d2 := row_last h hl (t := 2) (by decide)
  have d3 := row_last h hl (t := 3) (by decide)
  rw [Nat.add_zero] at d0
  have HI := hide (rint_no (x := lastN l 0) hr)
  unfold Ans at HI
  have HM := hide (rmay_no hr)
  have t : ((2 : Int) != 0) = true := rfl
  clear hr
  generalize lastN l 0 = X at *
  generalize lastN l 1 = I at *
  generalize lastN l 2 = J at *
  generalize lastN l 3 = K at *
  clear h hl
  have e0 : (((m : Int) + 1) == 0) = false := by rw [beq_eq_false_iff_ne]; omega
  go_enter Try.func16, Try.ntmps16
  go_wp2_with fail
  refine (unhide HM _).mono ?_
  rintro e w1 ⟨rfl, rfl⟩
  go_wp2_with fail
  go_ret2
  exact ⟨rfl, Below.refl _ _⟩
set_option maxHeartbeats 800000 in
theorem rp_over {b off cap m : Nat} {l : List (List Int)} {r : Int} {w : World} (h : RowN 4 w (.slice (some ⟨b, off, none⟩) (m + 1) cap) l) (hl : l.length = m + 1) (hm : m ≤ 1000) (hr : May r) (hx : In64 (lastN l 0)) (hq : ¬ In64 (qI (lastN l 0) r)) : PlugA 16 w (.slice (some ⟨b, off, none⟩) (m + 1) cap) r 0 3 := by
  unfold PlugA
  have d0 := row_last h hl (t := 0) (by decide)
  have d1 := row_last h hl (t := 1) (by decide)
  have d2 := row_last h hl (t := 2) (by decide)
  have d3 := row_last h hl (t := 3) (by decide)
  rw [Nat.add_zero] at d0
  have HI := hide (rint_ok hx hr)
  have ht : ¬ turn (qI (lastN l 0) r) = 0 := fun c => hq (in_of_turn c)
  rw [okN_out ht, okE_out ht] at HI
  unfold Ans at HI
  have HM := hide (rmay_yes hr)
  have t : ((3 : Int) != 0) = true := rfl
  clear hr hx hq ht
  generalize lastN l 0 = X at *
  generalize lastN l 1 = I at *
  generalize lastN l 2 = J at *
  generalize lastN l 3 = K at *
  clear h hl
  have e0 : (((m : Int) + 1) == 0) = false := by rw [beq_eq_false_iff_ne]; omega
  go_enter Try.func16, Try.ntmps16
  go_wp2_with fail
  refine (unhide HM _).mono ?_
  rintro e w1 ⟨rfl, rfl⟩
  go_wp2_with fail
  refine (unhide HI _).mono ?_
  rintro e w1 ⟨rfl, hb⟩
  have HB := hide hb
  have g1 := (hb.cell (p := ⟨b, off + m * 4 + 1, none⟩) (lt_of_cell d1)).trans d1
  clear hb
  go_wp2_with fail
  go_ret2
  exact ⟨rfl, unhide HB⟩
set_option maxHeartbeats 800000 in
theorem rp_ok {b off cap m : Nat} {l : List (List Int)} {r : Int} {w : World} (h : RowN 4 w (.slice (some ⟨b, off, none⟩) (m + 1) cap) l) (hl : l.length = m + 1) (hm : m ≤ 1000) (hr : May r) (hx : In64 (lastN l 0)) (hi : In64 (lastN l 1)) (hq : In64 (qI (lastN l 0) r)) : PlugA 16 w (.slice (some ⟨b, off, none⟩) (m + 1) cap) r (okN (lastN l 1 - qI (lastN l 0) r)) (okE (lastN l 1 - qI (lastN l 0) r)) := by
  unfold PlugA
  have d0 := row_last h hl (t := 0) (by decide)
  have d1 := row_last h hl (t := 1) (by decide)
  have d2 := row_last h hl (t := 2) (by decide)
  have d3 := row_last h hl (t := 3) (by decide)
  rw [Nat.add_zero] at d0
  have HI := hide (rint_ok hx hr)
  rw [okN_in (turn_in hq), okE_in (turn_in hq)] at HI
  have HS := hide (fun w => rsub_any (lastN l 1) (qI (lastN l 0) r) hi hq w)
  unfold Ans at HI
  have HM := hide (rmay_yes hr)
  have t : ((0 : Int) != 0) = false := rfl
  clear hr hx hi hq
  generalize lastN l 0 = X at *
  generalize lastN l 1 = I at *
  generalize lastN l 2 = J at *
  generalize lastN l 3 = K at *
  generalize qI X r = Q at *
  clear h hl
  have e0 : (((m : Int) + 1) == 0) = false := by rw [beq_eq_false_iff_ne]; omega
  go_enter Try.func16, Try.ntmps16
  go_wp2_with fail
  refine (unhide HM _).mono ?_
  rintro e w1 ⟨rfl, rfl⟩
  go_wp2_with fail
  refine (unhide HI _).mono ?_
  rintro e w1 ⟨rfl, hb⟩
  have HB := hide hb
  have g1 := (hb.cell (p := ⟨b, off + m * 4 + 1, none⟩) (lt_of_cell d1)).trans d1
  clear hb
  go_wp2_with fail
  refine (unhide HS _).mono ?_
  rintro e w2 ⟨rfl, rfl⟩
  go_wp2_with fail
  go_ret2
  exact ⟨rfl, unhide HB⟩
theorem rplug_any {w : World} {v : Value} {l : List (List Int)} (r : Int) (h : RowN 4 w v l) (hm : l.length ≤ 1000) : PlugA 16 w v r (plugN l r) (plugE l r) := by
  have hs := h.small
  unfold plugN plugE
  by_cases h0 : l.length = 0
  · rw [if_pos h0, if_pos h0]
    obtain ⟨a, cap, rfl⟩ := rowN_slice h
    rw [h0]
    exact rp_none _ _ _ _
  · rw [if_neg h0, if_neg h0]
    obtain ⟨b, off, cap, rfl, _⟩ := h.open (by omega)
    obtain ⟨m, hl⟩ : ∃ m, l.length = m + 1 := ⟨l.length - 1, by omega⟩
    rw [hl] at h ⊢
    by_cases hr : May r
    · have hmr : ¬ mayB r = false := by rw [mayB_yes hr]; decide
      rw [if_neg hmr, if_neg hmr]
      have hx : In64 (lastN l 0) := hs.at _ _
      have hi : In64 (lastN l 1) := hs.at _ _
      by_cases hq : turn (qI (lastN l 0) r) = 0
      · rw [if_pos hq, if_pos hq]
        exact rp_ok h hl (by omega) hr hx hi (in_of_turn hq)
      · rw [if_neg hq, if_neg hq]
        exact rp_over h hl (by omega) hr hx (fun c => hq (turn_in c))
    · rw [if_pos (mayB_no hr), if_pos (mayB_no hr)]
      exact rp_rate h hl (by omega) hr
end Go.Proofs.Ytmepmmhhiphfiaa.Mn
