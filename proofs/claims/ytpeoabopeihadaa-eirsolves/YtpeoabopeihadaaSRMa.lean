/- The document's May of amounts to be solved. -/
import Derived.Test.YtpeoabopeihadaaSQK
set_option linter.unusedVariables false
set_option linter.unusedSimpArgs false
set_option linter.unusedSectionVars false
namespace Go.Proofs.Ytpeoabopeihadaa.Mn
open Go.RowKit
attribute [local simp] Tri.typeInfo Tri.sizeOf Tri.underlying Tri.runUnderlying Tri.isAgg Tri.zeroValue Tri.depth Tri.stoodInHeld Tri.eqGuardType Tri.call15 Tri.call14 Tri.call16 Tri.call17 Tri.call18 Tri.call19 Tri.call20 Tri.call46 Tri.call49 Tri.call50 Tri.call51 Tri.call52 Tri.call53 Tri.call54 Tri.call55 Tri.call65 Tri.call95 Tri.call106 Tri.call107 Tri.call108 Tri.call109 Tri.call116 Tri.call117 Tri.call118 Tri.call119 Tri.call120 Tri.call122 Tri.call135 Tri.call136 Tri.call137 Tri.call143 Tri.call144 Tri.call145 Tri.call146 Tri.call147 Tri.call149 Tri.call150 Tri.call151 Tri.call152 Tri.call156 Tri.call157 Tri.call159 Tri.call160 Tri.call161 Tri.call162 Tri.call163 Tri.call164 Tri.call165 Tri.call166 Tri.call167 Tri.call175 Tri.call176 Tri.call178 Tri.call179 Tri.call180 Tri.call181 Tri.call182 Tri.call183 Tri.call186 Tri.call187 Tri.call188 Tri.call204 Tri.call205
def RMayA (w : World) (out : Int) (v : Value) (b : Bool) : Prop := Calls (Tri Try.prog) 50 #[.int .i64 out, v] w fun z w' => z = .returned (.bool b) ∧ w' = w
theorem rms_a (a : Option Addr) (len cap : Nat) (out : Int) (w : World) (h : len = 0) : RMayA w out (.slice a len cap) false := by
  unfold RMayA
  have d0 : ((len : Int) == 0) = true := by simp; omega
  go_enter (Tri.at (by decide) Try.func50), Try.ntmps50
  go_wp2_with fail
  go_ret
  exact ⟨rfl, rfl⟩
theorem rms_b (a : Option Addr) (len cap : Nat) (out : Int) (w : World) (h0 : 0 < len) (h : 600 < len) : RMayA w out (.slice a len cap) false := by
  unfold RMayA
  have d0 : ((len : Int) == 0) = false := by simp; omega
  have d1 : decide ((600 : Int) < (len : Int)) = true := decide_eq_true (by omega)
  go_enter (Tri.at (by decide) Try.func50), Try.ntmps50
  go_wp2_with fail
  go_ret
  exact ⟨rfl, rfl⟩
theorem rms_c (a : Option Addr) (len cap : Nat) (out : Int) (w : World) (h0 : 0 < len) (hl : len ≤ 600) (h : out < 1) : RMayA w out (.slice a len cap) false := by
  unfold RMayA
  have d0 : ((len : Int) == 0) = false := by simp; omega
  have d1 : decide ((600 : Int) < (len : Int)) = false := decide_eq_false (by omega)
  have d2 : decide (out < 1) = true := decide_eq_true h
  go_enter (Tri.at (by decide) Try.func50), Try.ntmps50
  go_wp2_with fail
  go_ret
  exact ⟨rfl, rfl⟩
theorem rms_d (a : Option Addr) (len cap : Nat) (out : Int) (w : World) (h0 : 0 < len) (hl : len ≤ 600) (h1 : 1 ≤ out) (h : 10000000000000 < out) : RMayA w out (.slice a len cap) false := by
  unfold RMayA
  have d0 : ((len : Int) == 0) = false := by simp; omega
  have d1 : decide ((600 : Int) < (len : Int)) = false := decide_eq_false (by omega)
  have d2 : decide (out < 1) = false := decide_eq_false (by omega)
  have d3 : decide (10000000000000 < out) = true := decide_eq_true h
  go_enter (Tri.at (by decide) Try.func50), Try.ntmps50
  go_wp2_with fail
  go_ret
  exact ⟨rfl, rfl⟩
set_option maxHeartbeats 1600000 in
theorem rms_row (b off cap : Nat) (l : List Int) (out : Int) (e : Bool) (w : World) (h : 1 ≤ out ∧ out ≤ 10000000000000) (hl : ¬ 600 < l.length) (h0 : 0 < l.length) (hc : ∀ j, j < l.length → w.cell? ⟨b, off + j, none⟩ = some (.int .i64 (l.getD j 0)))
    (he : (e = false ∧ ∃ j, j < l.length ∧ amtB (l.getD j 0) = false) ∨ ((∀ j, j < l.length → amtB (l.getD j 0) = true) ∧ (e = true ↔ ∃ j, j < l.length ∧ 0 < l.getD j 0))) : RMayA w out (.slice (some ⟨b, off, none⟩) l.length cap) e := by
  unfold RMayA
  have HC := hide hc
  have HE := hide he
  clear hc he
  generalize l.length = len at *
  have d0 : ((len : Int) == 0) = false := by simp; omega
  have d : decide (out < 1) = false := decide_eq_false (by omega)
  have d2 : decide (10000000000000 < out) = false := decide_eq_false (by omega)
  have d3 : decide ((600 : Int) < (len : Int)) = false := decide_eq_false (by omega)
  go_enter (Tri.at (by decide) Try.func50), Try.ntmps50
  go_wp2_with fail
  go_loop [5, 26] (fun c i => ∃ (k : Nat) (B : Bool), k ≤ len ∧ i = .int .i64 k ∧ c = .bool B ∧ Hid (∀ j, j < k → amtB (l.getD j 0) = true) ∧ Hid (B = true ↔ ∃ j, j < k ∧ 0 < l.getD j 0)) (fun c i => len - (intOf i).toNat)
  case atStart => exact ⟨0, false, Nat.zero_le _, rfl, rfl, hide (fun j hj => absurd hj (Nat.not_lt_zero j)), hide ⟨fun h => (by cases h), fun ⟨j, hj, _⟩ => absurd hj (Nat.not_lt_zero j)⟩⟩
  case round =>
    obtain ⟨k, B, hk, rfl, rfl, HA, HB⟩ := hrel
    by_cases hlt : k < len
    · have ck := unhide HC k hlt
      have HS : Hid (amtB (l.getD k 0) = true → ∀ j, j < k + 1 → amtB (l.getD j 0) = true) := hide (fun h j hj => by
        by_cases e : j = k
        · rw [e]; exact h
        · exact unhide HA j (by omega))
      have HP : Hid (∀ C : Bool, (C = true ↔ B = true ∨ 0 < l.getD k 0) → (C = true ↔ ∃ j, j < k + 1 ∧ 0 < l.getD j 0)) := hide (fun C hC => by
        rw [hC, unhide HB]
        constructor
        · rintro (⟨j, h1, h2⟩ | h)
          · exact ⟨j, by omega, h2⟩
          · exact ⟨k, by omega, h⟩
        · rintro ⟨j, h1, h2⟩
          by_cases e : j = k
          · rw [e] at h2; exact .inr h2
          · exact .inl ⟨j, by omega, h2⟩)
      have HN : Hid (amtB (l.getD k 0) = false → e = false) := hide (fun hz => by
        rcases unhide HE with ⟨h, _⟩ | ⟨h, _⟩
        · exact h
        · have := h k hlt; rw [hz] at this; cases this)
      generalize l.getD k 0 = z at *
      by_cases z1 : z < 0
      · have b1 : decide (z < 0) = true := decide_eq_true z1
        have he : e = false := unhide HN (by simp [amtB]; omega)
        subst he
        go_wp2_with fail
        go_ret
        exact ⟨rfl, rfl⟩
      · have b1 : decide (z < 0) = false := decide_eq_false z1
        by_cases z2 : 10000000000000 < z
        · have b2 : decide (10000000000000 < z) = true := decide_eq_true z2
          have he : e = false := unhide HN (by simp [amtB]; omega)
          subst he
          go_wp2_with fail
          go_ret
          exact ⟨rfl, rfl⟩
        · have b2 : decide (10000000000000 < z) = false := decide_eq_false z2
          have HS2 := hide (unhide HS (by simp [amtB]; omega))
          cases B with
          | true =>
            have HP2 := hide (unhide HP true (by simp))
            clear HS HP HN HB HA
            go_wp2_with fail
            go_round
            case rel => exact ⟨k + 1, true, by omega, by go_num, rfl, HS2, HP2⟩
            case measure => simp [intOf]; omega
          | false =>
            by_cases z3 : 0 < z
            · have b3 : decide (0 < z) = true := decide_eq_true z3
              have HP2 := hide (unhide HP true (by simp [z3]))
              clear HS HP HN HB HA
              go_wp2_with fail
              go_round
              case rel => exact ⟨k + 1, true, by omega, by go_num, rfl, HS2, HP2⟩
              case measure => simp [intOf]; omega
            · have b3 : decide (0 < z) = false := decide_eq_false z3
              have HP2 := hide (unhide HP false (by simp [z3]))
              clear HS HP HN HB HA
              go_wp2_with fail
              go_round
              case rel => exact ⟨k + 1, false, by omega, by go_num, rfl, HS2, HP2⟩
              case measure => simp [intOf]; omega
    · have hk2 : k = len := by omega
      subst hk2
      have he : e = B := by
        rcases unhide HE with ⟨_, j, h1, h2⟩ | ⟨_, h⟩
        · have := unhide HA j h1; rw [h2] at this; cases this
        · exact Bool.eq_iff_iff.2 (h.trans (unhide HB).symm)
      subst he
      go_wp2_with fail
      go_ret
      exact ⟨rfl, rfl⟩
theorem rmaySo_any {w : World} {v : Value} {l : List Int} (out : Int) (h : Row w v l) : RMayA w out v (maySo out l) := by
  have hl := row_slice h
  by_cases h0 : l.length = 0
  · obtain ⟨a, cap, rfl⟩ := hl
    have e : maySo out l = false := by
      have : l = [] := List.eq_nil_of_length_eq_zero h0
      rw [this]; exact maySo_nil
    rw [e]
    exact rms_a a _ cap out w h0
  by_cases h6 : 600 < l.length
  · obtain ⟨a, cap, rfl⟩ := hl
    have e : maySo out l = false := by unfold maySo; rw [decide_eq_false (show ¬ l.length ≤ 600 by omega)]; simp
    rw [e]
    exact rms_b a _ cap out w (by omega) h6
  by_cases h1 : out < 1
  · obtain ⟨a, cap, rfl⟩ := hl
    have e : maySo out l = false := by unfold maySo; rw [decide_eq_false (show ¬ 1 ≤ out by omega)]; simp
    rw [e]
    exact rms_c a _ cap out w (by omega) (by omega) h1
  by_cases h2 : 10000000000000 < out
  · obtain ⟨a, cap, rfl⟩ := hl
    have e : maySo out l = false := by unfold maySo; rw [decide_eq_false (show ¬ out ≤ 10000000000000 by omega)]; simp
    rw [e]
    exact rms_d a _ cap out w (by omega) (by omega) (by omega) h2
  unfold maySo
  rw [decide_eq_true (show 1 ≤ out by omega), decide_eq_true (show out ≤ 10000000000000 by omega), decide_eq_true (show l.length ≤ 600 by omega)]
  simp only [Bool.true_and]
  rcases h with ⟨a, cap, rfl, rfl⟩ | ⟨b, off, cap, rfl, _, _, hc, _⟩
  · exact absurd rfl h0
  · refine rms_row b off cap l out _ w ⟨by omega, by omega⟩ (by omega) (by omega) hc ?_
    have mem : ∀ x, x ∈ l → ∃ j, j < l.length ∧ l.getD j 0 = x := fun x hx => by
      obtain ⟨j, hj, rfl⟩ := List.getElem_of_mem hx
      exact ⟨j, hj, by simp [List.getD, hj]⟩
    have mem2 : ∀ j, j < l.length → l.getD j 0 ∈ l := fun j hj => by
      rw [show l.getD j 0 = l[j] by simp [List.getD, hj]]
      exact List.getElem_mem hj
    cases ha : l.all amtB with
    | false =>
      obtain ⟨x, hx, hn⟩ := List.all_eq_false.1 ha
      obtain ⟨j, hj, e⟩ := mem x hx
      exact .inl ⟨rfl, j, hj, by rw [e]; simpa using hn⟩
    | true =>
      refine .inr ⟨fun j hj => List.all_eq_true.1 ha _ (mem2 j hj), ?_⟩
      rw [Bool.true_and, List.any_eq_true]
      constructor
      · rintro ⟨x, hx, hp⟩
        obtain ⟨j, hj, e⟩ := mem x hx
        exact ⟨j, hj, by rw [e]; simpa using hp⟩
      · rintro ⟨j, hj, hp⟩
        exact ⟨_, mem2 j hj, by simpa using hp⟩
end Go.Proofs.Ytpeoabopeihadaa.Mn
