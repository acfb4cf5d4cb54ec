/- What the reference of stage 3 answers: May, near, Interest, Grow, Discount, Power, Part; and what rate's Power and Part answer where their arguments are wrong. -/
import Derived.Test.YtpeoabopeihadaaSPPw
set_option linter.unusedVariables false
set_option linter.unusedSimpArgs false
set_option linter.unusedSectionVars false
namespace Go.Proofs.Ytpeoabopeihadaa
open Go.RowKit
attribute [local simp] Tri.typeInfo Tri.sizeOf Tri.underlying Tri.runUnderlying Tri.isAgg Tri.zeroValue Tri.depth Tri.stoodInHeld Tri.eqGuardType Tri.call15 Tri.call14 Tri.call16 Tri.call17 Tri.call18 Tri.call19 Tri.call20 Tri.call46 Tri.call49 Tri.call50 Tri.call51 Tri.call52 Tri.call53 Tri.call54 Tri.call55 Tri.call65 Tri.call95 Tri.call106 Tri.call107 Tri.call108 Tri.call109 Tri.call116 Tri.call117 Tri.call118 Tri.call119 Tri.call120 Tri.call122 Tri.call135 Tri.call136 Tri.call137 Tri.call143 Tri.call144 Tri.call145 Tri.call146 Tri.call147 Tri.call149 Tri.call150 Tri.call151 Tri.call152 Tri.call156 Tri.call157 Tri.call159 Tri.call160 Tri.call161 Tri.call162 Tri.call163 Tri.call164 Tri.call165 Tri.call166 Tri.call167 Tri.call175 Tri.call176 Tri.call178 Tri.call179 Tri.call180 Tri.call181 Tri.call182 Tri.call183 Tri.call186 Tri.call187 Tri.call188 Tri.call204 Tri.call205
theorem rgrow_of {x r n e : Int} (hM : May r) (h : Nears r x (1000000000000 + r) 1000000000000 n e) : Ans 109 x r n e := by
  intro w
  have hm := hide (rmay_yes hM)
  have m1 := hM.1
  have m2 := hM.2
  clear hM
  replace h := hide h
  go_enter (Tri.at (by decide) Try.func109), Try.ntmps109
  go_wp2_with fail
  refine (unhide hm _).mono ?_
  rintro e w1 ⟨rfl, rfl⟩
  go_wp2_with fail
  refine (unhide h _).mono ?_
  rintro e w2 ⟨rfl, hb2⟩
  replace hb2 := hide hb2
  go_wp2_with fail
  go_ret2
  exact ⟨rfl, unhide hb2⟩
theorem rgrow_ok {x r : Int} (hx : In64 x) (h : May r) : Ans 109 x r (okN (qG x r)) (okE (qG x r)) := rgrow_of h (near_yes r x _ _ h hx (unit_in h) ⟨by omega, by omega⟩ (by omega))
end Go.Proofs.Ytpeoabopeihadaa
