/- The document's Fits. -/
import Derived.Test.YtpeoabopeihadaaSRSo
set_option linter.unusedVariables false
set_option linter.unusedSimpArgs false
set_option linter.unusedSectionVars false
namespace Go.Proofs.Ytpeoabopeihadaa.Mn
open Go.RowKit
attribute [local simp] Tri.typeInfo Tri.sizeOf Tri.underlying Tri.runUnderlying Tri.isAgg Tri.zeroValue Tri.depth Tri.stoodInHeld Tri.eqGuardType Tri.call15 Tri.call14 Tri.call16 Tri.call17 Tri.call18 Tri.call19 Tri.call20 Tri.call46 Tri.call49 Tri.call50 Tri.call51 Tri.call52 Tri.call53 Tri.call54 Tri.call55 Tri.call65 Tri.call95 Tri.call106 Tri.call107 Tri.call108 Tri.call109 Tri.call116 Tri.call117 Tri.call118 Tri.call119 Tri.call120 Tri.call122 Tri.call135 Tri.call136 Tri.call137 Tri.call143 Tri.call144 Tri.call145 Tri.call146 Tri.call147 Tri.call149 Tri.call150 Tri.call151 Tri.call152 Tri.call156 Tri.call157 Tri.call159 Tri.call160 Tri.call161 Tri.call162 Tri.call163 Tri.call164 Tri.call165 Tri.call166 Tri.call167 Tri.call175 Tri.call176 Tri.call178 Tri.call179 Tri.call180 Tri.call181 Tri.call182 Tri.call183 Tri.call186 Tri.call187 Tri.call188 Tri.call204 Tri.call205
theorem rfit_no {w : World} {v : Value} {l : List Int} {out : Int} (r : Int) (hR : Row w v l) (h : maySo out l = false) : CovA 18 w #[.int .i64 out, v, .int .i64 r] false := by
  have HM := hide (rmaySo_any out hR)
  rw [h] at HM
  unfold CovA
  unfold RMayA at HM
  go_enter (Tri.at (by decide) Try.func18), Try.ntmps18
  go_wp2_with fail
  refine (unhide HM).mono ?_
  rintro e w1 ⟨rfl, rfl⟩
  go_wp2_with fail
  go_ret
  exact ⟨rfl, Below.refl _ _⟩
theorem rfit_rate {w : World} {v : Value} {l : List Int} {out : Int} (r : Int) (hR : Row w v l) (h : maySo out l = true) (hr : mayB r = false) : CovA 18 w #[.int .i64 out, v, .int .i64 r] false := by
  have HM := hide (rmaySo_any out hR)
  rw [h] at HM
  have HR := hide (rrate_no hr)
  unfold CovA
  unfold RMayA at HM
  go_enter (Tri.at (by decide) Try.func18), Try.ntmps18
  go_wp2_with fail
  refine (unhide HM).mono ?_
  rintro e w1 ⟨rfl, rfl⟩
  go_wp2_with fail
  refine (unhide HR _).mono ?_
  rintro e w1 ⟨rfl, rfl⟩
  go_wp2_with fail
  go_ret
  exact ⟨rfl, Below.refl _ _⟩
theorem rfit_max {w : World} {v : Value} {l : List Int} {out : Int} (hR : Row w v l) (h : maySo out l = true) (hr : mayB 10000000000000 = true) : CovA 18 w #[.int .i64 out, v, .int .i64 10000000000000] false := by
  have HM := hide (rmaySo_any out hR)
  rw [h] at HM
  have HR := hide (rrate_yes hr)
  unfold CovA
  unfold RMayA at HM
  go_enter (Tri.at (by decide) Try.func18), Try.ntmps18
  go_wp2_with fail
  refine (unhide HM).mono ?_
  rintro e w1 ⟨rfl, rfl⟩
  go_wp2_with fail
  refine (unhide HR _).mono ?_
  rintro e w1 ⟨rfl, rfl⟩
  go_wp2_with fail
  go_ret
  exact ⟨rfl, Below.refl _ _⟩
theorem rfit_low {w : World} {v : Value} {l : List Int} {out : Int} (r : Int) (hR : Row w v l) (h : maySo out l = true) (ho : 1 ≤ out ∧ out ≤ 10000000000000) (hr : mayB r = true) (hne : r ≠ 10000000000000) (hc : covB out l r = false) : CovA 18 w #[.int .i64 out, v, .int .i64 r] false := by
  have HM := hide (rmaySo_any out hR)
  rw [h] at HM
  have HR := hide (rrate_yes hr)
  have HC := hide (rcov_any r ho hR)
  rw [hc] at HC
  have hn : decide (r < 10000000000000) = true := decide_eq_true (by have := (show -990000000000 ≤ r ∧ r ≤ 10000000000000 by simpa [mayB] using hr); omega)
  clear hr hc h hne
  unfold CovA at *
  unfold RMayA at HM
  go_enter (Tri.at (by decide) Try.func18), Try.ntmps18
  go_wp2_with fail
  refine (unhide HM).mono ?_
  rintro e w1 ⟨rfl, rfl⟩
  go_wp2_with fail
  refine (unhide HR _).mono ?_
  rintro e w1 ⟨rfl, rfl⟩
  go_wp2_with fail
  refine (unhide HC).mono ?_
  rintro e w1 ⟨rfl, hb⟩
  go_wp2_with fail
  go_ret
  exact ⟨rfl, hb⟩
theorem rfit_two {w : World} {v : Value} {l : List Int} {out : Int} (r : Int) (hR : Row w v l) (h : maySo out l = true) (ho : 1 ≤ out ∧ out ≤ 10000000000000) (hr : mayB r = true) (hne : r ≠ 10000000000000) (hi : In64 (r + 1)) (hc : covB out l r = true) : CovA 18 w #[.int .i64 out, v, .int .i64 r] (!covB out l (r + 1)) := by
  have HM := hide (rmaySo_any out hR)
  rw [h] at HM
  have HR := hide (rrate_yes hr)
  have HC := hide (rcov_any r ho hR)
  rw [hc] at HC
  have HD : Hid (∀ w1, Below w.heap.size w w1 → CovA 51 w1 #[.int .i64 out, v, .int .i64 (r + 1)] (covB out l (r + 1))) := hide (fun w1 hb => rcov_any (r + 1) ho (hR.below hb (Nat.le_refl _)))
  have hn : decide (r < 10000000000000) = true := decide_eq_true (by have := (show -990000000000 ≤ r ∧ r ≤ 10000000000000 by simpa [mayB] using hr); omega)
  obtain ⟨j1, j2⟩ := hi
  clear hr hc h hne
  generalize covB out l (r + 1) = B at *
  unfold CovA at *
  unfold RMayA at HM
  go_enter (Tri.at (by decide) Try.func18), Try.ntmps18
  go_wp2_with fail
  refine (unhide HM).mono ?_
  rintro e w1 ⟨rfl, rfl⟩
  go_wp2_with fail
  refine (unhide HR _).mono ?_
  rintro e w1 ⟨rfl, rfl⟩
  go_wp2_with fail
  refine (unhide HC).mono ?_
  rintro e w1 ⟨rfl, hb⟩
  have HE := hide (unhide HD w1 hb)
  have HB := hide hb
  clear HD hb
  go_wp2_with fail
  refine (unhide HE).mono ?_
  rintro e w2 ⟨rfl, hb2⟩
  have HB2 := hide hb2
  clear hb2
  go_wp2_with fail
  go_ret
  refine ⟨rfl, ?_⟩
  have h1 := unhide HB
  have h2 := unhide HB2
  exact h1.trans (h2.mono h1.size)
theorem reirfits_any {w : World} {v : Value} {l : List Int} {out : Int} (r : Int) (hr64 : In64 r) (hR : Row w v l) : CovA 18 w #[.int .i64 out, v, .int .i64 r] (eirB out l r) := by
  unfold eirB
  cases h : maySo out l with
  | false => exact rfit_no r hR h
  | true =>
    have ho := maySo_out h
    rw [Bool.true_and]
    cases hr : mayB r with
    | false => exact rfit_rate r hR h hr
    | true =>
      rw [Bool.true_and]
      by_cases hne : r = 10000000000000
      · subst hne
        exact rfit_max hR h hr
      · rw [decide_eq_true hne, Bool.true_and]
        cases hc : covB out l r with
        | false => exact rfit_low r hR h ho hr hne hc
        | true =>
          rw [Bool.true_and]
          refine rfit_two r hR h ho hr hne ?_ hc
          unfold mayB at hr
          simp only [Bool.and_eq_true, decide_eq_true_eq] at hr
          exact ⟨by have := hr.1; omega, by have := hr.2; omega⟩
end Go.Proofs.Ytpeoabopeihadaa.Mn
