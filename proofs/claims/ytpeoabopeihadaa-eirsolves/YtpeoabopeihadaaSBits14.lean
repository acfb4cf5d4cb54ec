/- What the reference of stage 3 answers: May, near, Interest, Grow, Discount, Power, Part; and what rate's Power and Part answer where their arguments are wrong. -/
import Derived.Test.YtpeoabopeihadaaSBits13
import Derived.Test.YtpeoabopeihadaaSTri
set_option linter.unusedVariables false
set_option linter.unusedSimpArgs false
set_option linter.unusedSectionVars false
namespace Go.Proofs.Ytpeoabopeihadaa
open Go.RowKit
attribute [local simp] Tri.typeInfo Tri.sizeOf Tri.underlying Tri.runUnderlying Tri.isAgg Tri.zeroValue Tri.depth Tri.stoodInHeld Tri.eqGuardType Tri.call15 Tri.call14 Tri.call16 Tri.call17 Tri.call18 Tri.call19 Tri.call20 Tri.call46 Tri.call49 Tri.call50 Tri.call51 Tri.call52 Tri.call53 Tri.call54 Tri.call55 Tri.call65 Tri.call95 Tri.call106 Tri.call107 Tri.call108 Tri.call109 Tri.call116 Tri.call117 Tri.call118 Tri.call119 Tri.call120 Tri.call122 Tri.call135 Tri.call136 Tri.call137 Tri.call143 Tri.call144 Tri.call145 Tri.call146 Tri.call147 Tri.call149 Tri.call150 Tri.call151 Tri.call152 Tri.call156 Tri.call157 Tri.call159 Tri.call160 Tri.call161 Tri.call162 Tri.call163 Tri.call164 Tri.call165 Tri.call166 Tri.call167 Tri.call175 Tri.call176 Tri.call178 Tri.call179 Tri.call180 Tri.call181 Tri.call182 Tri.call183 Tri.call186 Tri.call187 Tri.call188 Tri.call204 Tri.call205
theorem rmay_any (r : Int) (w : World) : Calls (Tri Try.prog) 53 #[.int .i64 r] w fun e w' => e = .returned (.bool (mayB r)) ∧ w = w' := by
  by_cases h1 : -990000000000 ≤ r
  · by_cases h2 : r ≤ 10000000000000
    · rw [mayB_yes (show May r from ⟨h1, h2⟩)]
      have d1 : decide (-990000000000 ≤ r) = true := decide_eq_true h1
      have d2 : decide (r ≤ 10000000000000) = true := decide_eq_true h2
      go_enter (Tri.at (by decide) Try.func53), Try.ntmps53
      go_wp2_with fail
      go_ret
      exact ⟨rfl, rfl⟩
    · rw [mayB_no (show ¬ May r from fun h => h2 h.2)]
      have d1 : decide (-990000000000 ≤ r) = true := decide_eq_true h1
      have d2 : decide (r ≤ 10000000000000) = false := decide_eq_false h2
      go_enter (Tri.at (by decide) Try.func53), Try.ntmps53
      go_wp2_with fail
      go_ret
      exact ⟨rfl, rfl⟩
  · rw [mayB_no (show ¬ May r from fun h => h1 h.1)]
    have d1 : decide (-990000000000 ≤ r) = false := decide_eq_false h1
    go_enter (Tri.at (by decide) Try.func53), Try.ntmps53
    go_wp2_with fail
    go_ret
    exact ⟨rfl, rfl⟩
theorem rmay_yes {r : Int} (h : May r) (w : World) : Calls (Tri Try.prog) 53 #[.int .i64 r] w fun e w' => e = .returned (.bool true) ∧ w = w' := by
  have := rmay_any r w
  rwa [mayB_yes h] at this
theorem rmay_no {r : Int} (h : ¬ May r) (w : World) : Calls (Tri Try.prog) 53 #[.int .i64 r] w fun e w' => e = .returned (.bool false) ∧ w = w' := by
  have := rmay_any r w
  rwa [mayB_no h] at this
def Nears (r a b c n e : Int) : Prop := ∀ w : World, Calls (Tri Try.prog) 137 #[.int .i64 r, .int .i64 a, .int .i64 b, .int .i64 c] w fun z w' => z = .returned (.tuple #[.int .i64 n, .int .i64 e]) ∧ Below w.heap.size w w'
theorem near_yes (r a b c : Int) (h : May r) (ha : In64 a) (hb : In64 b) (hc : In64 c) (h0 : 0 < c) : Nears r a b c (okN (near (a * b) c)) (okE (near (a * b) c)) := by
  intro w
  have hm := hide (rmay_yes h)
  have hd := hide (rmd a b c ha hb hc h0)
  obtain ⟨n, hn⟩ : ∃ n, n = okN (near (a * b) c) := ⟨_, rfl⟩
  obtain ⟨f, hf⟩ : ∃ f, f = okE (near (a * b) c) := ⟨_, rfl⟩
  rw [← hn, ← hf] at hd ⊢
  clear hn hf
  go_enter (Tri.at (by decide) Try.func137), Try.ntmps137
  go_wp2_with fail
  refine (unhide hm _).mono ?_
  rintro e w1 ⟨rfl, rfl⟩
  go_wp2_with fail
  refine (unhide hd _).mono ?_
  rintro e w2 ⟨rfl, hb2⟩
  replace hb2 := hide hb2
  go_wp2_with fail
  go_ret2
  exact ⟨rfl, unhide hb2⟩
theorem rdisc_of {x r n e : Int} (hM : May r) (h : Nears r x 1000000000000 (1000000000000 + r) n e) : Ans 151 x r n e := by
  intro w
  have hm := hide (rmay_yes hM)
  have m1 := hM.1
  have m2 := hM.2
  clear hM
  replace h := hide h
  go_enter (Tri.at (by decide) Try.func151), Try.ntmps151
  go_wp2_with fail
  refine (unhide hm _).mono ?_
  rintro e w1 ⟨rfl, rfl⟩
  go_wp2_with fail
  refine (unhide h _).mono ?_
  rintro e w2 ⟨rfl, hb2⟩
  replace hb2 := hide hb2
  go_wp2_with fail
  go_ret2
  exact ⟨rfl, unhide hb2⟩
theorem unit_in {r : Int} (h : May r) : In64 (1000000000000 + r) := by have := h.1; have := h.2; exact ⟨by omega, by omega⟩
theorem rdisc_ok {x r : Int} (hx : In64 x) (h : May r) : Ans 151 x r (okN (qD x r)) (okE (qD x r)) := rdisc_of h (near_yes r x _ _ h hx ⟨by omega, by omega⟩ (unit_in h) (by have := h.1; omega))
end Go.Proofs.Ytpeoabopeihadaa
