/- What rate's Power and Part answer. -/
import Derived.Test.YtpeoabopeihadaaSPGr
set_option linter.unusedVariables false
set_option linter.unusedSimpArgs false
set_option linter.unusedSectionVars false
namespace Go.Proofs.Ytpeoabopeihadaa
open Go.RowKit
attribute [local simp] Tri.typeInfo Tri.sizeOf Tri.underlying Tri.runUnderlying Tri.isAgg Tri.zeroValue Tri.depth Tri.stoodInHeld Tri.eqGuardType Tri.call15 Tri.call14 Tri.call16 Tri.call17 Tri.call18 Tri.call19 Tri.call20 Tri.call46 Tri.call49 Tri.call50 Tri.call51 Tri.call52 Tri.call53 Tri.call54 Tri.call55 Tri.call65 Tri.call95 Tri.call106 Tri.call107 Tri.call108 Tri.call109 Tri.call116 Tri.call117 Tri.call118 Tri.call119 Tri.call120 Tri.call122 Tri.call135 Tri.call136 Tri.call137 Tri.call143 Tri.call144 Tri.call145 Tri.call146 Tri.call147 Tri.call149 Tri.call150 Tri.call151 Tri.call152 Tri.call156 Tri.call157 Tri.call159 Tri.call160 Tri.call161 Tri.call162 Tri.call163 Tri.call164 Tri.call165 Tri.call166 Tri.call167 Tri.call175 Tri.call176 Tri.call178 Tri.call179 Tri.call180 Tri.call181 Tri.call182 Tri.call183 Tri.call186 Tri.call187 Tri.call188 Tri.call204 Tri.call205
def pwNext (r : Int) : Option Int → Option Int
  | none => none
  | some x => if turn (qG x r) = 0 then some (qG x r) else none
def pw (r : Int) : Nat → Option Int
  | 0 => some 1000000000000
  | n + 1 => pwNext r (pw r n)
def pN : Option Int → Int
  | none => 0
  | some x => x
def pE : Option Int → Int
  | none => 3
  | some _ => 0
theorem pw_none {r : Int} {k : Nat} (h : pw r k = none) (m : Nat) : pw r (k + m) = none := by
  induction m with
  | zero => exact h
  | succ m ih => show pwNext r (pw r (k + m)) = none; rw [ih]; rfl
theorem pw_in {r : Int} {k : Nat} {x : Int} (h : pw r k = some x) : In64 x := by
  cases k with
  | zero => cases h; exact ⟨by omega, by omega⟩
  | succ k =>
    change pwNext r (pw r k) = some x at h
    cases hp : pw r k with
    | none => rw [hp] at h; cases h
    | some y =>
      rw [hp] at h
      unfold pwNext at h
      simp only at h
      split at h
      · rename_i ht
        cases h
        exact in_of_turn ht
      · cases h
theorem pw_next {r : Int} {k : Nat} {x : Int} (h : pw r k = some x) : pw r (k + 1) = if turn (qG x r) = 0 then some (qG x r) else none := by
  show pwNext r (pw r k) = _
  rw [h]
  rfl
def Pows (r n a e : Int) : Prop := ∀ w : World, Calls (Tri Try.prog) 54 #[.int .i64 r, .int .i64 n] w fun z w' => z = .returned (.tuple #[.int .i64 a, .int .i64 e]) ∧ Below w.heap.size w w'
theorem power_no (r n : Int) (h : ¬ May r) : Pows r n 0 2 := by
  intro w
  have hm := hide (may_no h)
  go_enter (Tri.at (by decide) Try.func54), Try.ntmps54
  go_wp2_with fail
  refine (unhide hm _).mono ?_
  rintro e w1 ⟨rfl, rfl⟩
  go_wp2_with fail
  go_ret2
  exact ⟨rfl, Below.refl _ _⟩
set_option maxHeartbeats 800000 in
theorem power_yes (r : Int) (n : Nat) (hn : n ≤ 600) (h : May r) : Pows r n (pN (pw r n)) (pE (pw r n)) := by
  intro w
  have hm := hide (may_yes h)
  have hg := hide (fun (x : Int) (hx : In64 x) => grow_ok hx h)
  have Hnext := hide (fun (k : Nat) (x : Int) => pw_next (r := r) (k := k) (x := x))
  have d1 : decide ((n : Int) < 0) = false := decide_eq_false (by omega)
  have d2 : decide (600 < (n : Int)) = false := decide_eq_false (by omega)
  go_enter (Tri.at (by decide) Try.func54), Try.ntmps54
  go_wp2_with fail
  refine (unhide hm _).mono ?_
  rintro e w1 ⟨rfl, rfl⟩
  go_wp2_with fail
  go_loopw [6, 21] (fun a i wr => ∃ (k : Nat) (x : Int), k ≤ n ∧ i = .int .i64 k ∧ a = .int .i64 x ∧ Hid (pw r k = some x) ∧ Hid (Below w.heap.size w wr)) (fun _ i _ => n - (intOf i).toNat)
  case atStart => exact ⟨0, _, by omega, rfl, rfl, hide rfl, hide (Below.refl _ _)⟩
  case round =>
    obtain ⟨k, x, hk, rfl, rfl, HP, HB⟩ := hrel
    by_cases hlt : k < n
    · have hlt' : decide ((k : Int) < (n : Int)) = true := decide_eq_true (by omega)
      have hG := unhide hg x (pw_in (unhide HP))
      have hN := unhide Hnext k x (unhide HP)
      by_cases ht : turn (qG x r) = 0
      · rw [okN_in ht, okE_in ht] at hG
        rw [if_pos ht] at hN
        replace hG := hide hG
        replace hN := hide hN
        clear ht
        generalize qG x r = y at *
        go_wp2_with fail
        refine (unhide hG _).mono ?_
        rintro e w2 ⟨rfl, hb⟩
        replace hb := hide hb
        go_wp2_with fail
        go_roundw
        case rel => exact ⟨k + 1, y, by omega, by go_num, rfl, hN, hide (below_via (unhide HB) (unhide hb))⟩
        case measure => simp [intOf]; omega
      · rw [okN_out ht, okE_out ht] at hG
        rw [if_neg ht] at hN
        have hnone : pw r n = none := by
          have := pw_none hN (n - (k + 1))
          rwa [show k + 1 + (n - (k + 1)) = n from by omega] at this
        replace hG := hide hG
        replace hnone := hide hnone
        clear ht hN
        go_wp2_with fail
        refine (unhide hG _).mono ?_
        rintro e w2 ⟨rfl, hb⟩
        replace hb := hide hb
        go_wp2_with fail
        rw [unhide hnone]
        go_ret2
        exact ⟨rfl, below_via (unhide HB) (unhide hb)⟩
    · have hk2 : k = n := by omega
      subst hk2
      have hlt' : decide ((k : Int) < (k : Int)) = false := decide_eq_false (by omega)
      go_wp2_with fail
      rw [unhide HP]
      go_ret2
      exact ⟨rfl, unhide HB⟩
end Go.Proofs.Ytpeoabopeihadaa
