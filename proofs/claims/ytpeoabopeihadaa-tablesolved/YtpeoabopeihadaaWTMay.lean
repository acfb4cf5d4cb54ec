/- Whether an outlay, amounts and a rate may be: table's mayRoll. -/
import Derived.Test.YtpeoabopeihadaaWTRow
import Derived.Laws.EntriesVeiled
import Derived.Deep.RegionHeld3
set_option linter.unusedVariables false
set_option linter.unusedSimpArgs false
set_option linter.unusedSectionVars false
namespace Go.Proofs.Ytpeoabopeihadaa.Mn
open Go.RowKit
attribute [local simp] Tri.typeInfo Tri.sizeOf Tri.underlying Tri.runUnderlying Tri.isAgg Tri.zeroValue Tri.depth Tri.stoodInHeld Tri.eqGuardType Tri.call15 Tri.call22 Tri.call23 Tri.call24 Tri.call25 Tri.call46 Tri.call49 Tri.call52 Tri.call54 Tri.call58 Tri.call59 Tri.call60 Tri.call61 Tri.call62 Tri.call63 Tri.call64 Tri.call65 Tri.call66 Tri.call67 Tri.call95 Tri.call106 Tri.call115 Tri.call116 Tri.call117 Tri.call118 Tri.call119 Tri.call120 Tri.call121 Tri.call122 Tri.call142 Tri.call143 Tri.call144 Tri.call145 Tri.call146 Tri.call147 Tri.call156 Tri.call157 Tri.call159 Tri.call160 Tri.call161 Tri.call162 Tri.call163 Tri.call164 Tri.call165 Tri.call175 Tri.call176 Tri.call186 Tri.call188 Tri.call205
theorem mayB_iff {r : Int} : mayB r = true ↔ May r := by simp [mayB, May]
def tMayA (w : World) (o : Int) (v : Value) (r : Int) (b : Bool) : Prop := Calls (Tri Try.prog) 60 #[.int .i64 o, v, .int .i64 r] w fun z w' => z = .returned (.bool b) ∧ w = w'
theorem may_o0 (a : Option Addr) (len cap : Nat) (o r : Int) (w : World) (h : o < 1) : tMayA w o (.slice a len cap) r false := by
  unfold tMayA
  have d0 : decide (o < 1) = true := decide_eq_true h
  clear h
  go_enter (Tri.at (by decide) Try.func60), Try.ntmps60
  go_wp2_with fail
  go_ret
  exact ⟨rfl, rfl⟩
theorem may_o1 (a : Option Addr) (len cap : Nat) (o r : Int) (w : World) (_h0 : 1 ≤ o) (h : 10000000000000 < o) : tMayA w o (.slice a len cap) r false := by
  unfold tMayA
  have d0 : decide (o < 1) = false := decide_eq_false (by omega)
  have d1 : decide (10000000000000 < o) = true := decide_eq_true h
  clear h
  go_enter (Tri.at (by decide) Try.func60), Try.ntmps60
  go_wp2_with fail
  go_ret
  exact ⟨rfl, rfl⟩
theorem may_r (a : Option Addr) (len cap : Nat) (o r : Int) (w : World) (h0 : 1 ≤ o) (h1 : o ≤ 10000000000000) (hr : mayB r = false) : tMayA w o (.slice a len cap) r false := by
  unfold tMayA
  have d0 : decide (o < 1) = false := decide_eq_false (by omega)
  have d1 : decide (10000000000000 < o) = false := decide_eq_false (by omega)
  have HR := hide (rate_no hr)
  clear hr
  go_enter (Tri.at (by decide) Try.func60), Try.ntmps60
  go_wp2_with fail
  refine (unhide HR _).mono ?_
  rintro e w1 ⟨rfl, rfl⟩
  go_wp2_with fail
  go_ret
  exact ⟨rfl, rfl⟩
theorem may_n0 (a : Option Addr) (len cap : Nat) (o r : Int) (w : World) (h0 : 1 ≤ o) (h1 : o ≤ 10000000000000) (hr : mayB r = true) (hn : len = 0) : tMayA w o (.slice a len cap) r false := by
  unfold tMayA
  have d0 : decide (o < 1) = false := decide_eq_false (by omega)
  have d1 : decide (10000000000000 < o) = false := decide_eq_false (by omega)
  have d2 : decide ((len : Int) < 1) = true := decide_eq_true (by omega)
  have HR := hide (rate_yes hr)
  clear hr
  have Hn := hide hn
  clear hn
  go_enter (Tri.at (by decide) Try.func60), Try.ntmps60
  go_wp2_with fail
  refine (unhide HR _).mono ?_
  rintro e w1 ⟨rfl, rfl⟩
  go_wp2_with fail
  go_ret
  exact ⟨rfl, rfl⟩
theorem may_n1 (a : Option Addr) (len cap : Nat) (o r : Int) (w : World) (h0 : 1 ≤ o) (h1 : o ≤ 10000000000000) (hr : mayB r = true) (hn : 600 < len) : tMayA w o (.slice a len cap) r false := by
  unfold tMayA
  have d0 : decide (o < 1) = false := decide_eq_false (by omega)
  have d1 : decide (10000000000000 < o) = false := decide_eq_false (by omega)
  have d2 : decide ((len : Int) < 1) = false := decide_eq_false (by omega)
  have d3 : decide ((600 : Int) < (len : Int)) = true := decide_eq_true (by omega)
  have HR := hide (rate_yes hr)
  clear hr
  have Hn := hide hn
  clear hn
  go_enter (Tri.at (by decide) Try.func60), Try.ntmps60
  go_wp2_with fail
  refine (unhide HR _).mono ?_
  rintro e w1 ⟨rfl, rfl⟩
  go_wp2_with fail
  go_ret
  exact ⟨rfl, rfl⟩
set_option maxHeartbeats 800000 in
theorem tmay_row (b off cap : Nat) (l : List Int) (o r : Int) (w : World) (B : Bool) (h0 : 1 ≤ o) (h1 : o ≤ 10000000000000) (hr : mayB r = true) (hn0 : 0 < l.length) (hn1 : l.length ≤ 600) (hc : ∀ j, j < l.length → w.cell? ⟨b, off + j, none⟩ = some (.int .i64 (l.getD j 0)))
    (he : (B = true ∧ ∀ x ∈ l, payB x = true) ∨ (B = false ∧ ∃ x ∈ l, payB x = false)) : tMayA w o (.slice (some ⟨b, off, none⟩) l.length cap) r B := by
  unfold tMayA
  have HC := hide hc
  have HE := hide he
  have HR := hide (rate_yes hr)
  have HX : Hid (∀ j, j < l.length → l.getD j 0 ∈ l) := hide (fun j hj => by rw [show l.getD j 0 = l[j] by simp [List.getD, hj]]; exact List.getElem_mem hj)
  have HY : Hid ((∀ j, j < l.length → payB (l.getD j 0) = true) → ∀ x ∈ l, payB x = true) := hide (fun h x hx => by
    obtain ⟨j, hj, rfl⟩ := List.getElem_of_mem hx
    have := h j hj
    rwa [show l.getD j 0 = l[j] by simp [List.getD, hj]] at this)
  clear hc he hr
  generalize l.length = len at *
  have d0 : decide (o < 1) = false := decide_eq_false (by omega)
  have d1 : decide (10000000000000 < o) = false := decide_eq_false (by omega)
  have d2 : decide ((len : Int) < 1) = false := decide_eq_false (by omega)
  have d3 : decide ((600 : Int) < (len : Int)) = false := decide_eq_false (by omega)
  go_enter (Tri.at (by decide) Try.func60), Try.ntmps60
  go_wp2_with fail
  refine (unhide HR _).mono ?_
  rintro z w1 ⟨rfl, rfl⟩
  go_wp2_with fail
  go_loop [32] (fun i => ∃ k : Nat, k ≤ len ∧ i = .int .i64 k ∧ Hid (∀ j, j < k → payB (l.getD j 0) = true)) (fun i => len - (intOf i).toNat)
  case atStart => exact ⟨0, Nat.zero_le _, rfl, hide (fun j hj => absurd hj (Nat.not_lt_zero j))⟩
  case round =>
    obtain ⟨k, hk, rfl, HA⟩ := hrel
    by_cases hlt : k < len
    · have ck := unhide HC k hlt
      have HN := hide (unhide HX k hlt)
      have HS : Hid (payB (l.getD k 0) = true → ∀ j, j < k + 1 → payB (l.getD j 0) = true) := hide (fun h j hj => by
        by_cases e : j = k
        · rw [e]; exact h
        · exact unhide HA j (by omega))
      generalize l.getD k 0 = z at *
      by_cases hz : payB z = true
      · replace HS := hide (unhide HS hz)
        have hz' := payB_iff.1 hz
        have e0 : decide (z < 0) = false := decide_eq_false (by omega)
        have e1 : decide (10000000000000 < z) = false := decide_eq_false (by omega)
        clear hz hz'
        go_wp2_with fail
        go_round
        case rel => exact ⟨k + 1, by omega, by go_num, HS⟩
        case measure => simp [intOf]; omega
      · have he : B = false := by
          rcases unhide HE with ⟨_, h⟩ | ⟨h, _⟩
          · exact absurd (h z (unhide HN)) hz
          · exact h
        have HE2 := hide he
        by_cases hz0 : z < 0
        · have e0 : decide (z < 0) = true := decide_eq_true hz0
          clear hz HS he hz0
          go_wp2_with fail
          go_ret
          exact ⟨by rw [unhide HE2]; rfl, rfl⟩
        · have e0 : decide (z < 0) = false := decide_eq_false hz0
          have e1 : decide (10000000000000 < z) = true := decide_eq_true (by
            by_cases c : 10000000000000 < z
            · exact c
            · exact absurd (payB_iff.2 ⟨by omega, by omega⟩) hz)
          clear hz HS he hz0
          go_wp2_with fail
          go_ret
          exact ⟨by rw [unhide HE2]; rfl, rfl⟩
    · have hk2 : k = len := by omega
      subst hk2
      have he : B = true := by
        rcases unhide HE with ⟨h, _⟩ | ⟨_, x, hx, h⟩
        · exact h
        · have := unhide HY (unhide HA) x hx; rw [h] at this; cases this
      have HE2 := hide he
      clear he
      go_wp2_with fail
      go_ret
      exact ⟨by rw [unhide HE2]; rfl, rfl⟩
theorem tmay_yes' {w : World} {o r : Int} {v : Value} {l : List Int} (h : Row w v l) (hk : RollOk o l r) : tMayA w o v r true := by
  rcases h with ⟨a, cap, rfl, rfl⟩ | ⟨b, off, cap, rfl, _, _, hc, _⟩
  · have := hk.n0; simp at this
  · exact tmay_row b off cap l o r w true hk.o0 hk.o1 (mayB_iff.2 hk.may) hk.n0 hk.n1 hc (Or.inl ⟨rfl, hk.pay⟩)
theorem tmay_no' {w : World} {o r : Int} {v : Value} {l : List Int} (h : Row w v l) (hk : ¬ RollOk o l r) : tMayA w o v r false := by
  by_cases h0 : o < 1
  · obtain ⟨a, cap, rfl⟩ := row_slice h
    exact may_o0 a _ cap o r w h0
  by_cases h1 : 10000000000000 < o
  · obtain ⟨a, cap, rfl⟩ := row_slice h
    exact may_o1 a _ cap o r w (by omega) h1
  cases hr : mayB r with
  | false =>
    obtain ⟨a, cap, rfl⟩ := row_slice h
    exact may_r a _ cap o r w (by omega) (by omega) hr
  | true =>
    by_cases hn : l.length = 0
    · obtain ⟨a, cap, rfl⟩ := row_slice h
      exact may_n0 a _ cap o r w (by omega) (by omega) hr hn
    by_cases hn1 : 600 < l.length
    · obtain ⟨a, cap, rfl⟩ := row_slice h
      exact may_n1 a _ cap o r w (by omega) (by omega) hr hn1
    rcases h with ⟨a, cap, rfl, rfl⟩ | ⟨b, off, cap, rfl, _, _, hc, _⟩
    · exact absurd rfl hn
    · refine tmay_row b off cap l o r w false (by omega) (by omega) hr (by omega) (by omega) hc (Or.inr ⟨rfl, ?_⟩)
      by_cases hp : ∀ x ∈ l, payB x = true
      · exact absurd ⟨by omega, by omega, mayB_iff.1 hr, by omega, by omega, hp⟩ hk
      · obtain ⟨x, hx⟩ := Classical.not_forall.1 hp
        obtain ⟨hx, hn⟩ := Classical.not_imp.1 hx
        exact ⟨x, hx, by simpa using hn⟩
end Go.Proofs.Ytpeoabopeihadaa.Mn
