/- How far the last interest is from the rate's: Plug. -/
import Derived.Test.YtpeoabopeihadaaWTConv
set_option linter.unusedVariables false
set_option linter.unusedSimpArgs false
set_option linter.unusedSectionVars false
namespace Go.Proofs.Ytpeoabopeihadaa.Mn
open Go.RowKit
attribute [local simp] Tri.typeInfo Tri.sizeOf Tri.underlying Tri.runUnderlying Tri.isAgg Tri.zeroValue Tri.depth Tri.stoodInHeld Tri.eqGuardType Tri.call15 Tri.call22 Tri.call23 Tri.call24 Tri.call25 Tri.call46 Tri.call49 Tri.call52 Tri.call54 Tri.call58 Tri.call59 Tri.call60 Tri.call61 Tri.call62 Tri.call63 Tri.call64 Tri.call65 Tri.call66 Tri.call67 Tri.call95 Tri.call106 Tri.call115 Tri.call116 Tri.call117 Tri.call118 Tri.call119 Tri.call120 Tri.call121 Tri.call122 Tri.call142 Tri.call143 Tri.call144 Tri.call145 Tri.call146 Tri.call147 Tri.call156 Tri.call157 Tri.call159 Tri.call160 Tri.call161 Tri.call162 Tri.call163 Tri.call164 Tri.call165 Tri.call175 Tri.call176 Tri.call186 Tri.call188 Tri.call205
def lastN (l : List (List Int)) (t : Nat) : Int := getN l (l.length - 1) t
def PlugA (f : Nat) (w : World) (v : Value) (r n e : Int) : Prop := Calls (Tri Try.prog) f #[v, .int .i64 r] w fun z w' => z = .returned (.tuple #[.int .i64 n, .int .i64 e]) ∧ Below w.heap.size w w'
def plugE (l : List (List Int)) (r : Int) : Int := if l.length = 0 then 8 else if mayB r = false then 2 else if turn (qI (lastN l 0) r) = 0 then okE (lastN l 1 - qI (lastN l 0) r) else 3
def plugN (l : List (List Int)) (r : Int) : Int := if l.length = 0 then 0 else if mayB r = false then 0 else if turn (qI (lastN l 0) r) = 0 then okN (lastN l 1 - qI (lastN l 0) r) else 0
theorem row_last {w : World} {b off n cap : Nat} {l : List (List Int)} (h : RowN 4 w (.slice (some ⟨b, off, none⟩) n cap) l) {m : Nat} (hl : l.length = m + 1) {t : Nat} (ht : t < 4) : w.cell? ⟨b, off + m * 4 + t, none⟩ = some (.int .i64 (lastN l t)) := by
  have := h.cells (j := m) (t := t) (by omega) ht
  rw [this]
  unfold lastN
  rw [hl, Nat.add_sub_cancel]
theorem p_none (x : Option Addr) (cap : Nat) (r : Int) (w : World) : PlugA 25 w (.slice x 0 cap) r 0 8 := by
  unfold PlugA
  go_enter (Tri.at (by decide) Try.func25), Try.ntmps25
  go_wp2_with fail
  go_ret2
  exact ⟨rfl, Below.refl _ _⟩
set_option maxHeartbeats 800000 in
theorem p_rate {b off cap m : Nat} {l : List (List Int)} {r : Int} {w : World} (h : RowN 4 w (.slice (some ⟨b, off, none⟩) (m + 1) cap) l) (hl : l.length = m + 1) (hm : m ≤ 1000) (hr : ¬ May r) : PlugA 25 w (.slice (some ⟨b, off, none⟩) (m + 1) cap) r 0 2 := by
  unfold PlugA
  have d0 := row_last h hl (t := 0) (by decide)
  have d1 := row_last h hl (t := 1) (by decide)
  have d2 := row_last h hl (t := 2) (by decide)
  have d3 := row_last h hl (t := 3) (by decide)
  rw [Nat.add_zero] at d0
  have HI := hide (interest_no (lastN l 0) r hr)
  unfold Ans at HI
  have t : ((2 : Int) != 0) = true := rfl
  clear hr
  generalize lastN l 0 = X at *
  generalize lastN l 1 = I at *
  generalize lastN l 2 = J at *
  generalize lastN l 3 = K at *
  clear h hl
  have e0 : (((m : Int) + 1) == 0) = false := by rw [beq_eq_false_iff_ne]; omega
  obtain ⟨W, hW⟩ : ∃ W, W = w.alloc (.cells #[.int .i64 X, .int .i64 I, .int .i64 J, .int .i64 K] 49) := ⟨_, rfl⟩
  have HR : Hid (R4 W w.heap.size 49 X I J K) := hide (by rw [hW]; exact R4.new _ _ _ _ _ _)
  have HB : Hid (Below w.heap.size w W) := hide (by rw [hW]; exact below1 _ _)
  have HW := hide hW
  clear hW
  go_enter (Tri.at (by decide) Try.func25), Try.ntmps25
  go_wp2_with fail
  rw [← unhide HW]
  refine (unhide HI _).mono ?_
  rintro e w1 ⟨rfl, hb⟩
  replace HB := hide (below_via (unhide HB) hb)
  replace HR := hide ((unhide HR).keep hb)
  have g1 := (unhide HR).c1
  clear hb
  go_wp2_with fail
  go_ret2
  exact ⟨rfl, unhide HB⟩
set_option maxHeartbeats 800000 in
theorem p_over {b off cap m : Nat} {l : List (List Int)} {r : Int} {w : World} (h : RowN 4 w (.slice (some ⟨b, off, none⟩) (m + 1) cap) l) (hl : l.length = m + 1) (hm : m ≤ 1000) (hr : May r) (hx : In64 (lastN l 0)) (hq : ¬ In64 (qI (lastN l 0) r)) : PlugA 25 w (.slice (some ⟨b, off, none⟩) (m + 1) cap) r 0 3 := by
  unfold PlugA
  have d0 := row_last h hl (t := 0) (by decide)
  have d1 := row_last h hl (t := 1) (by decide)
  have d2 := row_last h hl (t := 2) (by decide)
  have d3 := row_last h hl (t := 3) (by decide)
  rw [Nat.add_zero] at d0
  have HI := hide (interest_ok hx hr)
  have ht : ¬ turn (qI (lastN l 0) r) = 0 := fun c => hq (in_of_turn c)
  rw [okN_out ht, okE_out ht] at HI
  unfold Ans at HI
  have t : ((3 : Int) != 0) = true := rfl
  clear hr hx hq ht
  generalize lastN l 0 = X at *
  generalize lastN l 1 = I at *
  generalize lastN l 2 = J at *
  generalize lastN l 3 = K at *
  clear h hl
  have e0 : (((m : Int) + 1) == 0) = false := by rw [beq_eq_false_iff_ne]; omega
  obtain ⟨W, hW⟩ : ∃ W, W = w.alloc (.cells #[.int .i64 X, .int .i64 I, .int .i64 J, .int .i64 K] 49) := ⟨_, rfl⟩
  have HR : Hid (R4 W w.heap.size 49 X I J K) := hide (by rw [hW]; exact R4.new _ _ _ _ _ _)
  have HB : Hid (Below w.heap.size w W) := hide (by rw [hW]; exact below1 _ _)
  have HW := hide hW
  clear hW
  go_enter (Tri.at (by decide) Try.func25), Try.ntmps25
  go_wp2_with fail
  rw [← unhide HW]
  refine (unhide HI _).mono ?_
  rintro e w1 ⟨rfl, hb⟩
  replace HB := hide (below_via (unhide HB) hb)
  replace HR := hide ((unhide HR).keep hb)
  have g1 := (unhide HR).c1
  clear hb
  go_wp2_with fail
  go_ret2
  exact ⟨rfl, unhide HB⟩
set_option maxHeartbeats 800000 in
theorem p_ok {b off cap m : Nat} {l : List (List Int)} {r : Int} {w : World} (h : RowN 4 w (.slice (some ⟨b, off, none⟩) (m + 1) cap) l) (hl : l.length = m + 1) (hm : m ≤ 1000) (hr : May r) (hx : In64 (lastN l 0)) (hi : In64 (lastN l 1)) (hq : In64 (qI (lastN l 0) r)) : PlugA 25 w (.slice (some ⟨b, off, none⟩) (m + 1) cap) r (okN (lastN l 1 - qI (lastN l 0) r)) (okE (lastN l 1 - qI (lastN l 0) r)) := by
  unfold PlugA
  have d0 := row_last h hl (t := 0) (by decide)
  have d1 := row_last h hl (t := 1) (by decide)
  have d2 := row_last h hl (t := 2) (by decide)
  have d3 := row_last h hl (t := 3) (by decide)
  rw [Nat.add_zero] at d0
  have HI := hide (interest_ok hx hr)
  rw [okN_in (turn_in hq), okE_in (turn_in hq)] at HI
  have HS := hide (fun w => sub_any (lastN l 1) (qI (lastN l 0) r) hi hq w)
  unfold Ans at HI
  have t : ((0 : Int) != 0) = false := rfl
  clear hr hx hi hq
  generalize lastN l 0 = X at *
  generalize lastN l 1 = I at *
  generalize lastN l 2 = J at *
  generalize lastN l 3 = K at *
  generalize qI X r = Q at *
  clear h hl
  have e0 : (((m : Int) + 1) == 0) = false := by rw [beq_eq_false_iff_ne]; omega
  obtain ⟨W, hW⟩ : ∃ W, W = w.alloc (.cells #[.int .i64 X, .int .i64 I, .int .i64 J, .int .i64 K] 49) := ⟨_, rfl⟩
  have HR : Hid (R4 W w.heap.size 49 X I J K) := hide (by rw [hW]; exact R4.new _ _ _ _ _ _)
  have HB : Hid (Below w.heap.size w W) := hide (by rw [hW]; exact below1 _ _)
  have HW := hide hW
  clear hW
  go_enter (Tri.at (by decide) Try.func25), Try.ntmps25
  go_wp2_with fail
  rw [← unhide HW]
  refine (unhide HI _).mono ?_
  rintro e w1 ⟨rfl, hb⟩
  replace HB := hide (below_via (unhide HB) hb)
  replace HR := hide ((unhide HR).keep hb)
  have g1 := (unhide HR).c1
  clear hb
  go_wp2_with fail
  refine (unhide HS _).mono ?_
  rintro e w2 ⟨rfl, rfl⟩
  go_wp2_with fail
  go_ret2
  exact ⟨rfl, unhide HB⟩
theorem plug_any {w : World} {v : Value} {l : List (List Int)} (r : Int) (h : RowN 4 w v l) (hm : l.length ≤ 1000) : PlugA 25 w v r (plugN l r) (plugE l r) := by
  have hs := h.small
  unfold plugN plugE
  by_cases h0 : l.length = 0
  · rw [if_pos h0, if_pos h0]
    obtain ⟨a, cap, rfl⟩ := rowN_slice h
    rw [h0]
    exact p_none _ _ _ _
  · rw [if_neg h0, if_neg h0]
    obtain ⟨b, off, cap, rfl, _⟩ := h.open (by omega)
    obtain ⟨m, hl⟩ : ∃ m, l.length = m + 1 := ⟨l.length - 1, by omega⟩
    rw [hl] at h ⊢
    by_cases hr : May r
    · have hmr : ¬ mayB r = false := by rw [mayB_yes hr]; decide
      rw [if_neg hmr, if_neg hmr]
      have hx : In64 (lastN l 0) := hs.at _ _
      have hi : In64 (lastN l 1) := hs.at _ _
      by_cases hq : turn (qI (lastN l 0) r) = 0
      · rw [if_pos hq, if_pos hq]
        exact p_ok h hl (by omega) hr hx hi (in_of_turn hq)
      · rw [if_neg hq, if_neg hq]
        exact p_over h hl (by omega) hr hx (fun c => hq (turn_in c))
    · rw [if_pos (mayB_no hr), if_pos (mayB_no hr)]
      exact p_rate h hl (by omega) hr
end Go.Proofs.Ytpeoabopeihadaa.Mn
