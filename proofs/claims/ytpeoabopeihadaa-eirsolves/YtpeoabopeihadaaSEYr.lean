/- A rate of a year. -/
import Derived.Test.YtpeoabopeihadaaSPPb
import Derived.Test.YtpeoabopeihadaaSRFi
set_option linter.unusedVariables false
set_option linter.unusedSimpArgs false
set_option linter.unusedSectionVars false
namespace Go.Proofs.Ytpeoabopeihadaa.Mn
open Go.RowKit
attribute [local simp] Tri.typeInfo Tri.sizeOf Tri.underlying Tri.runUnderlying Tri.isAgg Tri.zeroValue Tri.depth Tri.stoodInHeld Tri.eqGuardType Tri.call15 Tri.call14 Tri.call16 Tri.call17 Tri.call18 Tri.call19 Tri.call20 Tri.call46 Tri.call49 Tri.call50 Tri.call51 Tri.call52 Tri.call53 Tri.call54 Tri.call55 Tri.call65 Tri.call95 Tri.call106 Tri.call107 Tri.call108 Tri.call109 Tri.call116 Tri.call117 Tri.call118 Tri.call119 Tri.call120 Tri.call122 Tri.call135 Tri.call136 Tri.call137 Tri.call143 Tri.call144 Tri.call145 Tri.call146 Tri.call147 Tri.call149 Tri.call150 Tri.call151 Tri.call152 Tri.call156 Tri.call157 Tri.call159 Tri.call160 Tri.call161 Tri.call162 Tri.call163 Tri.call164 Tri.call165 Tri.call166 Tri.call167 Tri.call175 Tri.call176 Tri.call178 Tri.call179 Tri.call180 Tri.call181 Tri.call182 Tri.call183 Tri.call186 Tri.call187 Tri.call188 Tri.call204 Tri.call205
theorem pw_pos {r x : Int} {k : Nat} (h : May r) (hp : _root_.Go.Proofs.Ytpeoabopeihadaa.pw r k = some x) : 0 ≤ x := by
  induction k generalizing x with
  | zero =>
    have : x = 1000000000000 := by simpa [_root_.Go.Proofs.Ytpeoabopeihadaa.pw] using hp.symm
    omega
  | succ k ih =>
    cases hq : _root_.Go.Proofs.Ytpeoabopeihadaa.pw r k with
    | none =>
      have := _root_.Go.Proofs.Ytpeoabopeihadaa.pw_none hq 1
      rw [hp] at this
      cases this
    | some y =>
      have hy := ih hq
      rw [_root_.Go.Proofs.Ytpeoabopeihadaa.pw_next hq] at hp
      split at hp
      · have e : x = near (y * (1000000000000 + r)) 1000000000000 := by injection hp with hp; exact hp.symm
        have c := near_bd (x := y * (1000000000000 + r)) (B := 1000000000000) (by omega)
        have m := Int.mul_nonneg hy (show 0 ≤ 1000000000000 + r by have := h.1; omega)
        rw [e]
        generalize near (y * (1000000000000 + r)) 1000000000000 = q at *
        omega
      · cases hp
theorem pows_any (r n : Int) (h0 : 1 ≤ n) (h1 : n ≤ 600) : ∃ a e, _root_.Go.Proofs.Ytpeoabopeihadaa.Pows r n a e ∧ _root_.Go.Proofs.Ytpeoabopeihadaa.RPows r n a e ∧ (e = 0 → In64 (a - 1000000000000)) := by
  by_cases h : May r
  · obtain ⟨k, rfl⟩ : ∃ k : Nat, n = (k : Int) := ⟨n.toNat, by omega⟩
    refine ⟨_, _, _root_.Go.Proofs.Ytpeoabopeihadaa.power_yes r k (by omega) h, _root_.Go.Proofs.Ytpeoabopeihadaa.rpower_yes r k (by omega) h, fun e => ?_⟩
    cases hp : _root_.Go.Proofs.Ytpeoabopeihadaa.pw r k with
    | none => rw [hp] at e; cases e
    | some x =>
      have := pw_pos h hp
      have hx := _root_.Go.Proofs.Ytpeoabopeihadaa.pw_in hp
      exact ⟨by show -9223372036854775808 ≤ x - 1000000000000; omega, by show x - 1000000000000 ≤ 9223372036854775807; have := hx.hi; omega⟩
  · exact ⟨0, 2, _root_.Go.Proofs.Ytpeoabopeihadaa.power_no r n h, _root_.Go.Proofs.Ytpeoabopeihadaa.rpower_no r n h, fun e => by cases e⟩
def YearA (f : Nat) (r n x g : Int) : Prop := ∀ w : World, Calls (Tri Try.prog) f #[.int .i64 r, .int .i64 n] w fun z w' => z = .returned (.tuple #[.int .i64 x, .int .i64 g]) ∧ Below w.heap.size w w'
theorem year19_lo (r n : Int) (h : n < 1) : YearA 19 r n 0 2 := by
  intro w
  have d : decide (n < 1) = true := decide_eq_true h
  go_enter (Tri.at (by decide) Try.func19), Try.ntmps19
  go_wp2_with fail
  go_ret2
  exact ⟨rfl, Below.refl _ _⟩
theorem year19_hi (r n : Int) (h : 600 < n) : YearA 19 r n 0 2 := by
  intro w
  have d : decide (n < 1) = false := decide_eq_false (by omega)
  have d2 : decide (600 < n) = true := decide_eq_true h
  go_enter (Tri.at (by decide) Try.func19), Try.ntmps19
  go_wp2_with fail
  go_ret2
  exact ⟨rfl, Below.refl _ _⟩
theorem year19_in (r n a e : Int) (h0 : 1 ≤ n) (h1 : n ≤ 600) (H : _root_.Go.Proofs.Ytpeoabopeihadaa.Pows r n a e) (hi : e = 0 → In64 (a - 1000000000000)) : YearA 19 r n (if e = 0 then a - 1000000000000 else 0) e := by
  intro w
  have d : decide (n < 1) = false := decide_eq_false (by omega)
  have d2 : decide (600 < n) = false := decide_eq_false (by omega)
  have HP := hide (H w)
  clear H
  by_cases he : e = 0
  · subst he
    obtain ⟨j1, j2⟩ := hi rfl
    have d3 : ((0 : Int) != 0) = false := rfl
    rw [if_pos rfl]
    go_enter (Tri.at (by decide) Try.func19), Try.ntmps19
    go_wp2_with fail
    refine (unhide HP).mono ?_
    rintro z w1 ⟨rfl, hb⟩
    go_wp2_with fail
    go_ret2
    exact ⟨rfl, hb⟩
  · have d3 : (e != 0) = true := by simpa using he
    rw [if_neg he]
    clear hi he
    go_enter (Tri.at (by decide) Try.func19), Try.ntmps19
    go_wp2_with fail
    refine (unhide HP).mono ?_
    rintro z w1 ⟨rfl, hb⟩
    go_wp2_with fail
    go_ret2
    exact ⟨rfl, hb⟩
theorem year20_lo (r n : Int) (h : n < 1) : YearA 20 r n 0 2 := by
  intro w
  have d : decide (n < 1) = true := decide_eq_true h
  go_enter (Tri.at (by decide) Try.func20), Try.ntmps20
  go_wp2_with fail
  go_ret2
  exact ⟨rfl, Below.refl _ _⟩
theorem year20_hi (r n : Int) (h : 600 < n) : YearA 20 r n 0 2 := by
  intro w
  have d : decide (n < 1) = false := decide_eq_false (by omega)
  have d2 : decide (600 < n) = true := decide_eq_true h
  go_enter (Tri.at (by decide) Try.func20), Try.ntmps20
  go_wp2_with fail
  go_ret2
  exact ⟨rfl, Below.refl _ _⟩
theorem year20_in (r n a e : Int) (h0 : 1 ≤ n) (h1 : n ≤ 600) (H : _root_.Go.Proofs.Ytpeoabopeihadaa.RPows r n a e) (hi : e = 0 → In64 (a - 1000000000000)) : YearA 20 r n (if e = 0 then a - 1000000000000 else 0) e := by
  intro w
  have d : decide (n < 1) = false := decide_eq_false (by omega)
  have d2 : decide (600 < n) = false := decide_eq_false (by omega)
  have HP := hide (H w)
  clear H
  by_cases he : e = 0
  · subst he
    obtain ⟨j1, j2⟩ := hi rfl
    have d3 : ((0 : Int) != 0) = false := rfl
    rw [if_pos rfl]
    go_enter (Tri.at (by decide) Try.func20), Try.ntmps20
    go_wp2_with fail
    refine (unhide HP).mono ?_
    rintro z w1 ⟨rfl, hb⟩
    go_wp2_with fail
    go_ret2
    exact ⟨rfl, hb⟩
  · have d3 : (e != 0) = true := by simpa using he
    rw [if_neg he]
    clear hi he
    go_enter (Tri.at (by decide) Try.func20), Try.ntmps20
    go_wp2_with fail
    refine (unhide HP).mono ?_
    rintro z w1 ⟨rfl, hb⟩
    go_wp2_with fail
    go_ret2
    exact ⟨rfl, hb⟩
theorem years_any (r n : Int) : ∃ x g, YearA 19 r n x g ∧ YearA 20 r n x g := by
  by_cases h : n < 1
  · exact ⟨0, 2, year19_lo r n h, year20_lo r n h⟩
  by_cases h2 : 600 < n
  · exact ⟨0, 2, year19_hi r n h2, year20_hi r n h2⟩
  obtain ⟨a, e, p1, p2, p3⟩ := pows_any r n (by omega) (by omega)
  exact ⟨_, _, year19_in r n a e (by omega) (by omega) p1 p3, year20_in r n a e (by omega) (by omega) p2 p3⟩
end Go.Proofs.Ytpeoabopeihadaa.Mn
