/- What money's weigh answers at any row of weights: their sum, and whether one may split by them. -/
import Derived.Test.YtgnhnffmojjncaaMLeaf
namespace Go.Proofs.Ytgnhnffmojjncaa.Mn
open Go.RowKit
/-- 1 to 600 weights, each from 0 to the greatest amount. -/
def good (ws : List Int) : Bool := decide (1 ≤ ws.length) && decide (ws.length ≤ 600) && ws.all fun v => decide (0 ≤ v) && decide (v ≤ 10000000000000)
theorem good_len {ws : List Int} (h : good ws = true) : 1 ≤ ws.length ∧ ws.length ≤ 600 := by
  simp only [good, Bool.and_eq_true, decide_eq_true_eq] at h; exact h.1
theorem good_at {ws : List Int} (h : good ws = true) (j : Nat) : 0 ≤ ws.getD j 0 ∧ ws.getD j 0 ≤ 10000000000000 := by
  simp only [good, Bool.and_eq_true, decide_eq_true_eq, List.all_eq_true] at h
  by_cases hj : j < ws.length
  · have : ws.getD j 0 = ws[j] := by simp [List.getD, hj]
    rw [this]; exact h.2 _ (List.getElem_mem hj)
  · have : ws.getD j 0 = 0 := by simp [List.getD, List.getElem?_eq_none (Nat.le_of_not_lt hj)]
    rw [this]; omega
theorem good_bad {ws : List Int} (j : Nat) (h : ws.getD j 0 < 0 ∨ 10000000000000 < ws.getD j 0) : good ws = false := by
  cases hg : good ws with
  | false => rfl
  | true => have := good_at hg j; omega
theorem good_long {ws : List Int} (h : ¬ ws.length ≤ 600) : good ws = false := by
  cases hg : good ws with
  | false => rfl
  | true => exact absurd (good_len hg).2 h
theorem good_of {ws : List Int} (h1 : 1 ≤ ws.length) (h2 : ws.length ≤ 600) (h : ∀ j, j < ws.length → 0 ≤ ws.getD j 0 ∧ ws.getD j 0 ≤ 10000000000000) : good ws = true := by
  simp only [good, Bool.and_eq_true, decide_eq_true_eq, List.all_eq_true]
  refine ⟨⟨h1, h2⟩, fun v hv => ?_⟩
  obtain ⟨j, hj, rfl⟩ := List.getElem_of_mem hv
  have := h j hj
  simpa [List.getD, hj] using this
def weighN (ws : List Int) : Int := if good ws = true then total ws else 0
def weighB (ws : List Int) : Bool := good ws && (total ws != 0)
theorem weighN_no {ws : List Int} (h : good ws = false) : weighN ws = 0 := by unfold weighN; rw [h]; rfl
theorem weighB_no {ws : List Int} (h : good ws = false) : weighB ws = false := by unfold weighB; rw [h]; rfl
theorem weighN_yes {ws : List Int} (h : good ws = true) : weighN ws = total ws := by unfold weighN; rw [if_pos h]
theorem weighB_yes {ws : List Int} (h : good ws = true) : weighB ws = (total ws != 0) := by unfold weighB; rw [h]; rfl
theorem ret_ib {k : IntKind} {a b : Int} {c d : Bool} (h1 : a = b) (h2 : c = d) : Ending.returned (.tuple #[.int k a, .bool c]) = .returned (.tuple #[.int k b, .bool d]) := by rw [h1, h2]
theorem weigh_empty (a : Option Addr) (cap : Nat) (w : World) :
    Calls Try.prog 62 #[.slice a 0 cap] w fun e w' => e = .returned (.tuple #[.int .i64 0, .bool false]) ∧ w = w' := by
  go_enter Try.func62, Try.ntmps62
  go_wp2
  go_ret2
  exact ⟨rfl, rfl⟩
theorem weigh_long (a : Option Addr) (len cap : Nat) (h : 600 < len) (w : World) :
    Calls Try.prog 62 #[.slice a len cap] w fun e w' => e = .returned (.tuple #[.int .i64 0, .bool false]) ∧ w = w' := by
  have h1 : ¬ len < 1 := by omega
  go_enter Try.func62, Try.ntmps62
  go_wp2
  go_ret2
  exact ⟨rfl, rfl⟩
set_option maxHeartbeats 400000 in
theorem weigh_row (b off cap : Nat) (zs : List Int) (w : World) (h1 : 1 ≤ zs.length) (h2 : zs.length ≤ 600)
    (hc : ∀ j, j < zs.length → w.cell? ⟨b, off + j, none⟩ = some (.int .i64 (zs.getD j 0))) :
    Calls Try.prog 62 #[.slice (some ⟨b, off, none⟩) zs.length cap] w fun e w' => e = .returned (.tuple #[.int .i64 (weighN zs), .bool (weighB zs)]) ∧ w = w' := by
  have Hbad := hide (fun j h => good_bad (ws := zs) j h)
  have Hgood := hide (fun h => good_of (ws := zs) h1 h2 h)
  have Hsum := hide (fun k h => total_take_succ zs k h)
  have Htake := hide (List.take_of_length_le (l := zs) (i := zs.length) (Nat.le_refl _))
  generalize zs.length = len at *
  have HC := hide hc
  clear hc
  have d1 : decide ((len : Int) < 1) = false := by simp; omega
  have d2 : decide (600 < (len : Int)) = false := by simp; omega
  go_enter Try.func62, Try.ntmps62
  go_wp2
  go_loop [4, 17] (fun s i => ∃ (k : Nat) (t : Int), k ≤ len ∧ i = .int .i64 k ∧ s = .int .i64 t ∧ 0 ≤ t ∧ t ≤ 10000000000000 * k ∧ Hid (t = total (zs.take k)) ∧ Hid (∀ j, j < k → 0 ≤ zs.getD j 0 ∧ zs.getD j 0 ≤ 10000000000000)) (fun _ i => len - (intOf i).toNat)
  case atStart => exact ⟨0, 0, by omega, rfl, rfl, by omega, by omega, hide rfl, hide (fun j hj => by omega)⟩
  case round =>
    obtain ⟨k, t, hk, rfl, rfl, ht1, ht2, HT, HG⟩ := hrel
    by_cases hlt : k < len
    · have hck := unhide HC k hlt
      have HS := hide (unhide Hsum k hlt)
      have HB := hide (unhide Hbad k)
      have HG' : Hid (0 ≤ zs.getD k 0 ∧ zs.getD k 0 ≤ 10000000000000 → ∀ j, j < k + 1 → 0 ≤ zs.getD j 0 ∧ zs.getD j 0 ≤ 10000000000000) := hide (fun h j hj => by
        by_cases e : j = k
        · rw [e]; exact h
        · exact unhide HG j (by omega))
      generalize zs.getD k 0 = z at *
      by_cases hz0 : z < 0
      · have HN := hide (weighN_no (unhide HB (Or.inl hz0)))
        have HBn := hide (weighB_no (unhide HB (Or.inl hz0)))
        go_wp2
        go_ret2
        exact ⟨ret_ib (unhide HN).symm (unhide HBn).symm, rfl⟩
      · by_cases hz1 : 10000000000000 < z
        · have HN := hide (weighN_no (unhide HB (Or.inr hz1)))
          have HBn := hide (weighB_no (unhide HB (Or.inr hz1)))
          go_wp2
          go_ret2
          exact ⟨ret_ib (unhide HN).symm (unhide HBn).symm, rfl⟩
        · go_wp2
          go_round
          case rel => exact ⟨k + 1, t + z, by omega, by go_num, rfl, by omega, by omega, hide (by rw [unhide HS, ← unhide HT]), hide (unhide HG' ⟨by omega, by omega⟩)⟩
          case measure => simp [intOf]; omega
    · have hk2 : k = len := by omega
      subst hk2
      have HN := hide (weighN_yes (unhide Hgood (unhide HG)))
      have HBn := hide (weighB_yes (unhide Hgood (unhide HG)))
      have HT2 : Hid (t = total zs) := hide (by rw [unhide HT, unhide Htake])
      go_wp2
      go_ret2
      exact ⟨ret_ib (by rw [unhide HN, unhide HT2]) (by rw [unhide HBn, unhide HT2]), rfl⟩
theorem weigh_any (v : Value) (zs : List Int) (w : World) (h : Row w v zs) :
    Calls Try.prog 62 #[v] w fun e w' => e = .returned (.tuple #[.int .i64 (weighN zs), .bool (weighB zs)]) ∧ w = w' := by
  rcases h with ⟨a, cap, rfl, rfl⟩ | ⟨b, off, cap, rfl, h0, hm, hc, hin⟩
  · exact weigh_empty a cap w
  · by_cases h : zs.length ≤ 600
    · exact weigh_row b off cap zs w (by omega) h hc
    · rw [weighN_no (good_long h), weighB_no (good_long h)]
      exact weigh_long _ zs.length cap (by omega) w
end Go.Proofs.Ytgnhnffmojjncaa.Mn
