/- The document's Solve. -/
import Derived.Test.YtpeoabopeihadaaSRMa
import Derived.Test.YtpeoabopeihadaaSVRef
set_option linter.unusedVariables false
set_option linter.unusedSimpArgs false
set_option linter.unusedSectionVars false
namespace Go.Proofs.Ytpeoabopeihadaa.Mn
open Go.RowKit
attribute [local simp] Tri.typeInfo Tri.sizeOf Tri.underlying Tri.runUnderlying Tri.isAgg Tri.zeroValue Tri.depth Tri.stoodInHeld Tri.eqGuardType Tri.call15 Tri.call14 Tri.call16 Tri.call17 Tri.call18 Tri.call19 Tri.call20 Tri.call46 Tri.call49 Tri.call50 Tri.call51 Tri.call52 Tri.call53 Tri.call54 Tri.call55 Tri.call65 Tri.call95 Tri.call106 Tri.call107 Tri.call108 Tri.call109 Tri.call116 Tri.call117 Tri.call118 Tri.call119 Tri.call120 Tri.call122 Tri.call135 Tri.call136 Tri.call137 Tri.call143 Tri.call144 Tri.call145 Tri.call146 Tri.call147 Tri.call149 Tri.call150 Tri.call151 Tri.call152 Tri.call156 Tri.call157 Tri.call159 Tri.call160 Tri.call161 Tri.call162 Tri.call163 Tri.call164 Tri.call165 Tri.call166 Tri.call167 Tri.call175 Tri.call176 Tri.call178 Tri.call179 Tri.call180 Tri.call181 Tri.call182 Tri.call183 Tri.call186 Tri.call187 Tri.call188 Tri.call204 Tri.call205
theorem rcov_any {w : World} {v : Value} {l : List Int} {out : Int} (r : Int) (ho : 1 ≤ out ∧ out ≤ 10000000000000) (hR : Row w v l) : CovA 51 w #[.int .i64 out, v, .int .i64 r] (covB out l r) := by
  have H := hide (rfine_any r hR)
  unfold CovA covB
  unfold NowA at H
  generalize valN 1000 l r = n at *
  generalize valE 1000 l r = E at *
  have i1 : In64 (1000 * out) := ⟨by omega, by omega⟩
  obtain ⟨j1, j2⟩ := i1
  by_cases h3 : E = 3
  · subst h3
    go_enter (Tri.at (by decide) Try.func51), Try.ntmps51
    go_wp2_with fail
    refine (unhide H).mono ?_
    rintro e w1 ⟨rfl, hb⟩
    go_wp2_with fail
    go_ret
    exact ⟨rfl, hb⟩
  · have b3 : (E == 3) = false := by simpa using h3
    by_cases h0 : E = 0
    · subst h0
      by_cases hc : 1000 * out ≤ n
      · have bc : decide (1000 * out ≤ n) = true := by simpa using hc
        rw [bc]
        go_enter (Tri.at (by decide) Try.func51), Try.ntmps51
        go_wp2_with fail
        refine (unhide H).mono ?_
        rintro e w1 ⟨rfl, hb⟩
        go_wp2_with fail
        go_ret
        exact ⟨rfl, hb⟩
      · have bc : decide (1000 * out ≤ n) = false := by simpa using hc
        rw [bc]
        go_enter (Tri.at (by decide) Try.func51), Try.ntmps51
        go_wp2_with fail
        refine (unhide H).mono ?_
        rintro e w1 ⟨rfl, hb⟩
        go_wp2_with fail
        go_ret
        exact ⟨rfl, hb⟩
    · have b0 : (E == 0) = false := by simpa using h0
      have d3 : decide (E = 3) = false := by simpa using h3
      have d0 : decide (E = 0) = false := by simpa using h0
      rw [d3, d0]
      go_enter (Tri.at (by decide) Try.func51), Try.ntmps51
      go_wp2_with fail
      refine (unhide H).mono ?_
      rintro e w1 ⟨rfl, hb⟩
      go_wp2_with fail
      go_ret
      exact ⟨rfl, hb⟩
def RSolA (w : World) (out : Int) (v : Value) (l : List Int) : Prop := Calls (Tri Try.prog) 16 #[.int .i64 out, v] w fun z w' => ∃ r e, Eir out l r e ∧ z = .returned (.tuple #[.int .i64 r, .int .i64 e]) ∧ Below w.heap.size w w'
theorem rs_no {w : World} {v : Value} {l : List Int} {out : Int} (hR : Row w v l) (h : maySo out l = false) : RSolA w out v l := by
  unfold RSolA
  have HM := hide (rmaySo_any out hR)
  unfold RMayA at HM
  rw [h] at HM
  have HE : Hid (Eir out l 0 2) := hide (.inl ⟨h, rfl, rfl⟩)
  clear hR h
  go_enter (Tri.at (by decide) Try.func16), Try.ntmps16
  go_wp2_with fail
  refine (unhide HM).mono ?_
  rintro z w1 ⟨rfl, rfl⟩
  go_wp2_with fail
  go_ret2
  exact ⟨0, 2, unhide HE, rfl, Below.refl _ _⟩
set_option maxHeartbeats 2000000 in
theorem rs_go {w : World} {v : Value} {l : List Int} {out : Int} (hR : Row w v l) (h : maySo out l = true) (ho : 1 ≤ out ∧ out ≤ 10000000000000) : RSolA w out v l := by
  unfold RSolA
  have HM := hide (rmaySo_any out hR)
  unfold RMayA at HM
  rw [h] at HM
  have HC : Hid (∀ W r, Below w.heap.size w W → CovA 51 W #[.int .i64 out, v, .int .i64 r] (covB out l r)) := hide (fun W r hb => rcov_any r ho (hR.below hb (Nat.le_refl _)))
  unfold CovA at HC
  have HMs := hide h
  clear hR h ho
  by_cases c1 : covB out l (-990000000000) = true
  case neg =>
    have c1 := Bool.eq_false_iff.2 c1
    have HE : Hid (Eir out l 0 13) := hide (.inr ⟨unhide HMs, .inl ⟨.inl (by rw [← covB_cov (maySo_yes (unhide HMs)) ⟨by omega, by omega⟩]; exact c1), rfl, rfl⟩⟩)
    go_enter (Tri.at (by decide) Try.func16), Try.ntmps16
    go_wp2_with fail
    refine (unhide HM).mono ?_
    rintro z w1 ⟨rfl, rfl⟩
    have HC1 := hide (unhide HC _ (-990000000000) (Below.refl _ _))
    rw [c1] at HC1
    go_wp2_with fail
    refine (unhide HC1).mono ?_
    rintro z w2 ⟨rfl, hb⟩
    have HB := hide hb
    clear hb
    go_wp2_with fail
    go_ret2
    exact ⟨0, 13, unhide HE, rfl, unhide HB⟩
  by_cases c2 : covB out l 10000000000000 = true
  · have HE : Hid (Eir out l 0 13) := hide (.inr ⟨unhide HMs, .inl ⟨.inr (by rw [← covB_cov (maySo_yes (unhide HMs)) ⟨by omega, by omega⟩]; exact c2), rfl, rfl⟩⟩)
    go_enter (Tri.at (by decide) Try.func16), Try.ntmps16
    go_wp2_with fail
    refine (unhide HM).mono ?_
    rintro z w1 ⟨rfl, rfl⟩
    have HC1 := hide (unhide HC _ (-990000000000) (Below.refl _ _))
    rw [c1] at HC1
    go_wp2_with fail
    refine (unhide HC1).mono ?_
    rintro z w2 ⟨rfl, hb⟩
    have HB := hide hb
    have HC2 := hide (unhide HC _ 10000000000000 hb)
    rw [c2] at HC2
    clear hb HC1
    go_wp2_with fail
    refine (unhide HC2).mono ?_
    rintro z w3 ⟨rfl, hb⟩
    replace HB := hide (below_via (unhide HB) hb)
    clear hb
    go_wp2_with fail
    go_ret2
    exact ⟨0, 13, unhide HE, rfl, unhide HB⟩
  replace c2 := Bool.eq_false_iff.2 c2
  have HCa := hide c1
  have HCb := hide c2
  go_enter (Tri.at (by decide) Try.func16), Try.ntmps16
  go_wp2_with fail
  refine (unhide HM).mono ?_
  rintro z w1 ⟨rfl, rfl⟩
  have HC1 := hide (unhide HC _ (-990000000000) (Below.refl _ _))
  rw [c1] at HC1
  go_wp2_with fail
  refine (unhide HC1).mono ?_
  rintro z w2 ⟨rfl, hb⟩
  have HB := hide hb
  have HC2 := hide (unhide HC _ 10000000000000 hb)
  rw [c2] at HC2
  clear hb HC1 c1 c2
  go_wp2_with fail
  refine (unhide HC2).mono ?_
  rintro z w3 ⟨rfl, hb⟩
  replace HB := hide (below_via (unhide HB) hb)
  clear hb HC2
  go_wp2_with fail
  go_loopw [6, 7] (fun x y wr => ∃ lo hi : Int, (-990000000000 ≤ lo ∧ lo < hi ∧ hi ≤ 10000000000000) ∧ x = .int .i64 lo ∧ y = .int .i64 hi ∧ Hid (covB out l lo = true) ∧ Hid (covB out l hi = false) ∧ Hid (Below w1.heap.size w1 wr)) (fun x y _ => (intOf y - intOf x).toNat)
  case atStart => exact ⟨-990000000000, 10000000000000, ⟨by omega, by omega, by omega⟩, rfl, rfl, HCa, HCb, HB⟩
  case round =>
    clear HB HCa HCb
    obtain ⟨lo, hi, hlh, rfl, rfl, HCa, HCb, HB⟩ := hrel
    by_cases hg : 1 < hi - lo
    · have d1 : decide (1 < hi - lo) = true := decide_eq_true hg
      have q1 : (hi - lo).tdiv 2 = (hi - lo) / 2 := Int.tdiv_eq_ediv_of_nonneg (by omega)
      have q2 : lo < lo + (hi - lo) / 2 ∧ lo + (hi - lo) / 2 < hi := by omega
      have HCm := hide (unhide HC wr (lo + (hi - lo) / 2) (unhide HB))
      go_wp2_with fail
      refine (unhide HCm).mono ?_
      rintro z w4 ⟨rfl, hb⟩
      replace HB := hide (below_via (unhide HB) hb)
      clear hb HCm
      generalize hm : lo + (hi - lo) / 2 = m at *
      clear hm
      by_cases cm : covB out l m = true
      · have HCm := hide cm
        rw [cm]
        clear cm
        go_wp2_with fail
        go_roundw
        case rel => exact ⟨m, hi, by omega, rfl, rfl, HCm, HCb, HB⟩
        case measure => simp [intOf]; omega
      · replace cm := Bool.eq_false_iff.2 cm
        have HCm := hide cm
        rw [cm]
        clear cm
        go_wp2_with fail
        go_roundw
        case rel => exact ⟨lo, m, by omega, rfl, rfl, HCa, HCm, HB⟩
        case measure => simp [intOf]; omega
    · have d1 : decide (1 < hi - lo) = false := decide_eq_false hg
      have e1 : hi = lo + 1 := by omega
      have HE : Hid (Eir out l lo 0) := hide (eir_found (z := lo) (unhide HMs) (by omega) (by omega) (.inr (unhide HCa)) (.inr (by rw [← e1]; exact unhide HCb)) (.inr (.inr ⟨by omega, by omega, rfl, rfl⟩)))
      clear e1
      go_wp2_with fail
      go_ret2
      exact ⟨lo, 0, unhide HE, rfl, unhide HB⟩
theorem rsolve_any {w : World} {v : Value} {l : List Int} {out : Int} (hR : Row w v l) : RSolA w out v l := by
  cases h : maySo out l with
  | false => exact rs_no hR h
  | true => exact rs_go hR h ⟨(maySo_yes h).lo, (maySo_yes h).hi⟩
end Go.Proofs.Ytpeoabopeihadaa.Mn
