/- What the reference of stage 3 answers: MulDiv to the nearer one, near, Interest, Grow, Discount, May, Power, Part. -/
import Derived.Test.YtpeoabopeihadaaSBits12
import Derived.Test.YtpeoabopeihadaaSQI
import Derived.Test.YtpeoabopeihadaaSTri
set_option linter.unusedVariables false
set_option linter.unusedSimpArgs false
set_option linter.unusedSectionVars false
namespace Go.Proofs.Ytpeoabopeihadaa
open Go.RowKit
attribute [local simp] Tri.typeInfo Tri.sizeOf Tri.underlying Tri.runUnderlying Tri.isAgg Tri.zeroValue Tri.depth Tri.stoodInHeld Tri.eqGuardType Tri.call15 Tri.call14 Tri.call16 Tri.call17 Tri.call18 Tri.call19 Tri.call20 Tri.call46 Tri.call49 Tri.call50 Tri.call51 Tri.call52 Tri.call53 Tri.call54 Tri.call55 Tri.call65 Tri.call95 Tri.call106 Tri.call107 Tri.call108 Tri.call109 Tri.call116 Tri.call117 Tri.call118 Tri.call119 Tri.call120 Tri.call122 Tri.call135 Tri.call136 Tri.call137 Tri.call143 Tri.call144 Tri.call145 Tri.call146 Tri.call147 Tri.call149 Tri.call150 Tri.call151 Tri.call152 Tri.call156 Tri.call157 Tri.call159 Tri.call160 Tri.call161 Tri.call162 Tri.call163 Tri.call164 Tri.call165 Tri.call166 Tri.call167 Tri.call175 Tri.call176 Tri.call178 Tri.call179 Tri.call180 Tri.call181 Tri.call182 Tri.call183 Tri.call186 Tri.call187 Tri.call188 Tri.call204 Tri.call205
theorem sign_mul {a b : Int} (h : a * b ≠ 0) : (decide (a < 0) != decide (b < 0)) = decide (a * b < 0) := by
  have ha : a ≠ 0 := fun c => h (by rw [c, Int.zero_mul])
  have hb : b ≠ 0 := fun c => h (by rw [c, Int.mul_zero])
  by_cases a0 : a < 0
  · by_cases b0 : b < 0
    · have := Int.mul_pos_of_neg_of_neg a0 b0
      rw [decide_eq_true a0, decide_eq_true b0, decide_eq_false (by omega)]; rfl
    · have := Int.mul_neg_of_neg_of_pos a0 (show 0 < b by omega)
      rw [decide_eq_true a0, decide_eq_false b0, decide_eq_true this]; rfl
  · by_cases b0 : b < 0
    · have := Int.mul_neg_of_pos_of_neg (show 0 < a by omega) b0
      rw [decide_eq_false a0, decide_eq_true b0, decide_eq_true this]; rfl
    · have := Int.mul_pos (show 0 < a by omega) (show 0 < b by omega)
      rw [decide_eq_false a0, decide_eq_false b0, decide_eq_false (by omega)]; rfl
theorem near_times {a b c : Int} {l : Bool} {f : Nat → Nat} (h : Times a b l f) (hc : 0 < c) : Near l (val f 260) c = near (a * b) c := by
  obtain ⟨-, hl, hv⟩ := h
  unfold Near
  rw [hv, ← Int.natAbs_mul, decide_eq_false (show ¬ c < 0 by omega)]
  have e : ((c.natAbs : Nat) : Int) = c := by omega
  have r := ref_near (a * b) c.natAbs (by omega) l (fun h0 => by rw [hl]; exact sign_mul h0)
  rw [e] at r
  rw [← r]
  unfold sgn
  cases l <;> rfl
theorem times_small {a b : Int} (ha : In64 a) (hb : In64 b) : a.natAbs * b.natAbs + 1 < P2 260 := by
  have h1 : a.natAbs ≤ 9223372036854775808 := by have := ha.lo; have := ha.hi; omega
  have h2 : b.natAbs ≤ 9223372036854775808 := by have := hb.lo; have := hb.hi; omega
  have h3 := Nat.mul_le_mul h1 h2
  have h4 : (9223372036854775808 : Nat) * 9223372036854775808 = 85070591730234615865843651857942052864 := by decide
  rw [h4] at h3
  have h5 := small_260
  omega
theorem rmd (a b c : Int) (ha : In64 a) (hb : In64 b) (hc : In64 c) (h0 : 0 < c) (w : World) : Calls (Tri Try.prog) 152 #[.int .i64 a, .int .i64 b, .int .i64 c, .int .i64 1] w fun e w' => e = .returned (.tuple #[.int .i64 (okN (near (a * b) c)), .int .i64 (okE (near (a * b) c))]) ∧ Below w.heap.size w w' := by
  have ht := hide (times_any a b ha hb)
  have hd := hide (fun (l : Bool) (f : Nat → Nat) (h : Times a b l f) => rdiv_near l f h.1 c hc (by omega) (by rw [h.2.2]; exact times_small ha hb))
  have hn := hide (fun (l : Bool) (f : Nat → Nat) (h : Times a b l f) => near_times (c := c) h h0)
  go_enter (Tri.at (by decide) Try.func152), Try.ntmps152
  go_wp2_with fail
  refine (unhide ht _).mono ?_
  rintro e w1 ⟨⟨l, f, hT, rfl⟩, hb1⟩
  have hd2 := unhide hd l f hT
  rw [unhide hn l f hT] at hd2
  replace hd2 := hide hd2
  replace hb1 := hide hb1
  replace hT := hide hT
  clear hd hn ht
  go_wp2_with fail
  refine (unhide hd2 _).mono ?_
  rintro e w2 ⟨rfl, hb2⟩
  replace hb2 := hide (below_via (unhide hb1) hb2)
  go_wp2_with fail
  go_ret2
  exact ⟨rfl, unhide hb2⟩
end Go.Proofs.Ytpeoabopeihadaa
