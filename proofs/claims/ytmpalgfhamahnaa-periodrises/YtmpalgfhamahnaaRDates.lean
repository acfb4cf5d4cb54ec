/- What the reference's Dates answers. -/
import Derived.Test.YtmpalgfhamahnaaDates
import Derived.Test.YtmpalgfhamahnaaRMon
namespace Go.Proofs.Ytmpalgfhamahnaa
open Go.RowKit
set_option linter.unusedSimpArgs false
theorem Grow.keep {w wr wr' : World} {v : Value} {zs : List Int} (h : Grow w wr v zs) (hb : Below wr.heap.size wr wr') : Grow w wr' v zs := by
  obtain ⟨h1, ⟨h2, h3⟩, h4⟩ := h
  refine ⟨below_via h1 hb, ⟨h2, ?_⟩, h4⟩
  rcases h3 with h3 | ⟨g, cap, cur, e1, e2, e3, e4⟩
  · exact Or.inl h3
  · exact Or.inr ⟨g, cap, cur, e1, e2, (hb.block g (Array.getElem?_eq_some_iff.1 e3).1).trans e3, e4⟩
def upL (f : Nat → Int) (k : Nat) : List Int := (List.range k).map f
theorem upL_len (f : Nat → Int) (k : Nat) : (upL f k).length = k := by unfold upL; simp
theorem upL_succ (f : Nat → Int) (k : Nat) : upL f k ++ [f k] = upL f (k + 1) := by unfold upL; rw [List.range_succ, List.map_append]; rfl
theorem rdates_bad1 (n step times : Int) (en : Bool) (a1 : decide (step < 1) = true) : DatesNo 13 n step times en 2 := by
  intro w
  go_enter Try.func13, Try.ntmps13
  go_wp2_with fail
  go_ret2
  exact ⟨rfl, Below.refl _ _⟩
theorem rdates_bad2 (n step times : Int) (en : Bool) (a1 : decide (step < 1) = false) (a2 : decide (12 < step) = true) : DatesNo 13 n step times en 2 := by
  intro w
  go_enter Try.func13, Try.ntmps13
  go_wp2_with fail
  go_ret2
  exact ⟨rfl, Below.refl _ _⟩
theorem rdates_bad3 (n step times : Int) (en : Bool) (a1 : decide (step < 1) = false) (a2 : decide (12 < step) = false) (a3 : decide (times < 0) = true) : DatesNo 13 n step times en 2 := by
  intro w
  go_enter Try.func13, Try.ntmps13
  go_wp2_with fail
  go_ret2
  exact ⟨rfl, Below.refl _ _⟩
theorem rdates_bad4 (n step times : Int) (en : Bool) (a1 : decide (step < 1) = false) (a2 : decide (12 < step) = false) (a3 : decide (times < 0) = false) (a4 : decide (600 < times) = true) : DatesNo 13 n step times en 2 := by
  intro w
  go_enter Try.func13, Try.ntmps13
  go_wp2_with fail
  go_ret2
  exact ⟨rfl, Below.refl _ _⟩
theorem rdates_bad (n step times : Int) (en : Bool) (h : ¬ (1 ≤ step ∧ step ≤ 12 ∧ 0 ≤ times ∧ times ≤ 600)) : DatesNo 13 n step times en 2 := by
  by_cases h1 : step < 1
  · exact rdates_bad1 n step times en (decide_eq_true h1)
  · by_cases h2 : 12 < step
    · exact rdates_bad2 n step times en (decide_eq_false h1) (decide_eq_true h2)
    · by_cases h3 : times < 0
      · exact rdates_bad3 n step times en (decide_eq_false h1) (decide_eq_false h2) (decide_eq_true h3)
      · exact rdates_bad4 n step times en (decide_eq_false h1) (decide_eq_false h2) (decide_eq_false h3) (decide_eq_true (by omega))
set_option maxRecDepth 20000 in
set_option maxHeartbeats 2000000 in
theorem rdates_ok (n step : Int) (T : Nat) (en : Bool) (f : Nat → Int) (s1 : 1 ≤ step) (s2 : step ≤ 12) (t2 : (T : Int) ≤ 600) (h64 : Hid (∀ k : Nat, In64 (f k))) (hf : Hid (∀ k : Nat, k < T → RMonsA n (((k : Int) + 1) * step) en (f k) 0)) (w : World) :
    Calls Try.prog 13 #[.int .i64 n, .int .i64 step, .int .i64 T, .bool en] w fun e w' => ∃ v : Value, e = .returned (.tuple #[v, .int .i64 0]) ∧ Grow w w' v (upL f T) := by
  have a1 : decide (step < 1) = false := decide_eq_false (by omega)
  have a2 : decide (12 < step) = false := decide_eq_false (by omega)
  have a3 : decide ((T : Int) < 0) = false := decide_eq_false (by omega)
  have a4 : decide (600 < (T : Int)) = false := decide_eq_false (by omega)
  go_enter Try.func13, Try.ntmps13
  go_wp2_with fail
  go_loopw [10, 11] (fun v i wr => ∃ k : Nat, k ≤ T ∧ i = .int .i64 ((k : Int) + 1) ∧ Hid (Grow w wr v (upL f k))) (fun _ i _ => T + 1 - (intOf i).toNat)
  case atStart => exact ⟨0, by omega, rfl, hide (Grow.nil _ _ (Below.refl _ _))⟩
  case round =>
    obtain ⟨k, hk, rfl, hG⟩ := hrel
    by_cases hlt : k < T
    · skip
      obtain ⟨p1, p2⟩ := step_bd s1 s2 (show k < T by omega) (by omega)
      have hm := hide (unhide hf k hlt)
      have Hs := hide (upL_succ f k)
      have Hi := hide (unhide h64 k)
      rw [Int.mul_comm] at p1 p2
      have Hl : Hid ((upL f k).length ≤ 1000000) := hide (by rw [upL_len]; omega)
      generalize f k = z at *
      generalize upL f k = zs at *
      have hkT : (k : Int) + 1 ≤ (T : Int) := by omega
      have e0 : IntKind.i64.wrap (((k : Int) + 1) * step) = ((k : Int) + 1) * step := IntWalk.i64_in _ ⟨by omega, by omega⟩
      go_wp2_with fail
      refine (unhide hm _).mono ?_
      rintro e w1 ⟨rfl, hb1⟩
      replace hG := hide ((unhide hG).keep hb1)
      clear hb1 hm
      go_wp2_with (at_builtin; refine push_law rfl _ _ rfl w w1 _ zs z (unhide hG) rfl rfl (unhide Hl) (unhide Hi) ?_)
      intro v' w2 hG2
      replace hG2 := hide hG2
      go_wp2
      go_roundw
      case rel => exact ⟨k + 1, by omega, by go_num, by rw [← unhide Hs]; exact hG2⟩
      case measure => simp [intOf]; omega
    · obtain rfl : k = T := by omega
      have hkk : decide ((k : Int) + 1 ≤ (k : Int)) = false := decide_eq_false (by omega)
      clear hf h64
      go_wp2_with fail
      go_ret2
      exact ⟨_, rfl, unhide hG⟩
set_option maxRecDepth 20000 in
set_option maxHeartbeats 2000000 in
theorem rdates_no (n step v g : Int) (T J : Nat) (en : Bool) (f : Nat → Int) (s1 : 1 ≤ step) (s2 : step ≤ 12) (t2 : (T : Int) ≤ 600) (hJ : (J : Int) < (T : Int)) (h64 : Hid (∀ k : Nat, In64 (f k))) (hf : Hid (∀ k : Nat, k < J → RMonsA n (((k : Int) + 1) * step) en (f k) 0)) (hg : Hid (RMonsA n (((J : Int) + 1) * step) en v g)) (g0 : (g != 0) = true) : DatesNo 13 n step T en g := by
  intro w
  have a1 : decide (step < 1) = false := decide_eq_false (by omega)
  have a2 : decide (12 < step) = false := decide_eq_false (by omega)
  have a3 : decide ((T : Int) < 0) = false := decide_eq_false (by omega)
  have a4 : decide (600 < (T : Int)) = false := decide_eq_false (by omega)
  go_enter Try.func13, Try.ntmps13
  go_wp2_with fail
  go_loopw [10, 11] (fun v i wr => ∃ k : Nat, k ≤ J ∧ i = .int .i64 ((k : Int) + 1) ∧ Hid (Grow w wr v (upL f k))) (fun _ i _ => T + 1 - (intOf i).toNat)
  case atStart => exact ⟨0, by omega, rfl, hide (Grow.nil _ _ (Below.refl _ _))⟩
  case round =>
    obtain ⟨k, hk, rfl, hG⟩ := hrel
    by_cases hlt : k < J
    · clear hg g0
      obtain ⟨p1, p2⟩ := step_bd s1 s2 (show k < T by omega) (by omega)
      have hm := hide (unhide hf k hlt)
      have Hs := hide (upL_succ f k)
      have Hi := hide (unhide h64 k)
      rw [Int.mul_comm] at p1 p2
      have Hl : Hid ((upL f k).length ≤ 1000000) := hide (by rw [upL_len]; omega)
      generalize f k = z at *
      generalize upL f k = zs at *
      have hkT : (k : Int) + 1 ≤ (T : Int) := by omega
      have e0 : IntKind.i64.wrap (((k : Int) + 1) * step) = ((k : Int) + 1) * step := IntWalk.i64_in _ ⟨by omega, by omega⟩
      go_wp2_with fail
      refine (unhide hm _).mono ?_
      rintro e w1 ⟨rfl, hb1⟩
      replace hG := hide ((unhide hG).keep hb1)
      clear hb1 hm
      go_wp2_with (at_builtin; refine push_law rfl _ _ rfl w w1 _ zs z (unhide hG) rfl rfl (unhide Hl) (unhide Hi) ?_)
      intro v' w2 hG2
      replace hG2 := hide hG2
      go_wp2
      go_roundw
      case rel => exact ⟨k + 1, by omega, by go_num, by rw [← unhide Hs]; exact hG2⟩
      case measure => simp [intOf]; omega
    · obtain rfl : k = J := by omega
      obtain ⟨p1, p2⟩ := step_bd s1 s2 (show k < T by omega) (by omega)
      rw [Int.mul_comm] at p1 p2
      have hkT : (k : Int) + 1 ≤ (T : Int) := by omega
      have e0 : IntKind.i64.wrap (((k : Int) + 1) * step) = ((k : Int) + 1) * step := IntWalk.i64_in _ ⟨by omega, by omega⟩
      clear hf h64
      go_wp2_with fail
      refine (unhide hg _).mono ?_
      rintro e w1 ⟨rfl, hb1⟩
      replace hb1 := hide ((unhide hG).keep hb1).below
      clear hG hg
      go_wp2_with fail
      go_ret2
      exact ⟨rfl, unhide hb1⟩
end Go.Proofs.Ytmpalgfhamahnaa
