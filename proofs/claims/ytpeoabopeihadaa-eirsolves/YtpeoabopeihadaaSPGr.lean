/- What rate's functions answer. -/
import Derived.Test.YtpeoabopeihadaaSBits14
import Derived.Test.YtpeoabopeihadaaSQI
import Derived.Test.YtpeoabopeihadaaSTri
import Derived.Handy
set_option linter.unusedVariables false
set_option linter.unusedSimpArgs false
set_option linter.unusedSectionVars false
namespace Go.Proofs.Ytpeoabopeihadaa
open Go.RowKit
attribute [local simp] Tri.typeInfo Tri.sizeOf Tri.underlying Tri.runUnderlying Tri.isAgg Tri.zeroValue Tri.depth Tri.stoodInHeld Tri.eqGuardType Tri.call15 Tri.call14 Tri.call16 Tri.call17 Tri.call18 Tri.call19 Tri.call20 Tri.call46 Tri.call49 Tri.call50 Tri.call51 Tri.call52 Tri.call53 Tri.call54 Tri.call55 Tri.call65 Tri.call95 Tri.call106 Tri.call107 Tri.call108 Tri.call109 Tri.call116 Tri.call117 Tri.call118 Tri.call119 Tri.call120 Tri.call122 Tri.call135 Tri.call136 Tri.call137 Tri.call143 Tri.call144 Tri.call145 Tri.call146 Tri.call147 Tri.call149 Tri.call150 Tri.call151 Tri.call152 Tri.call156 Tri.call157 Tri.call159 Tri.call160 Tri.call161 Tri.call162 Tri.call163 Tri.call164 Tri.call165 Tri.call166 Tri.call167 Tri.call175 Tri.call176 Tri.call178 Tri.call179 Tri.call180 Tri.call181 Tri.call182 Tri.call183 Tri.call186 Tri.call187 Tri.call188 Tri.call204 Tri.call205
theorem later_any (r : Int) (h : May r) (w : World) : Calls (Tri Try.prog) 204 #[.agg #[], .int .i64 r] w fun e w' => e = .returned (.tuple #[.int .i64 (1000000000000 + r), .int .i64 (1000000000000)]) ∧ Below w.heap.size w w' := by
  have hw : wrap64 (1000000000000 + r) = 1000000000000 + r := wrap_in ⟨by have := h.1; omega, by have := h.2; omega⟩
  go_enter (Tri.at (by decide) Try.func204), Try.ntmps204
  go_wp2_with fail
  go_ret2
  exact ⟨by rw [hw]; rfl, (Below.refl _ _).alloc (Nat.le_refl _) _⟩
theorem later_yes (x r : Int) (hx : In64 x) (h : May r) : Ans 136 x r (okN (near (x * (1000000000000 + r)) (1000000000000))) (okE (near (x * (1000000000000 + r)) (1000000000000))) := by
  intro w
  have hm := hide (may_yes h)
  have hl := hide (later_any r h)
  have hd := hide (md_near x (1000000000000 + r) (1000000000000) hx ⟨by have := h.1; omega, by have := h.2; omega⟩ ⟨by have := h.1; omega, by have := h.2; omega⟩ (by have := h.1; omega))
  go_enter (Tri.at (by decide) Try.func136), Try.ntmps136
  go_wp2_with fail
  refine (unhide hm _).mono ?_
  rintro e w1 ⟨rfl, rfl⟩
  go_wp2_with fail
  refine (unhide hl _).mono ?_
  rintro e w2 ⟨rfl, hb⟩
  replace hb := hide hb
  go_wp2_with fail
  refine (unhide hd _).mono ?_
  rintro e w3 ⟨rfl, hb3⟩
  go_wp2_with fail
  go_ret2
  exact ⟨rfl, below_via (below_via ((Below.refl _ _).alloc (Nat.le_refl _) _) (unhide hb)) hb3⟩
theorem grow_of {x r n e : Int} (H : Ans 136 x r n e) : Ans 108 x r n e := by
  intro w
  replace H := hide H
  go_enter (Tri.at (by decide) Try.func108), Try.ntmps108
  go_wp2_with fail
  refine (unhide H _).mono ?_
  rintro e w1 ⟨rfl, hb⟩
  go_wp2_with fail
  go_ret2
  exact ⟨rfl, hb⟩
def qG (x r : Int) : Int := near (x * (1000000000000 + r)) 1000000000000
theorem grow_ok {x r : Int} (hx : In64 x) (h : May r) : Ans 108 x r (okN (qG x r)) (okE (qG x r)) := grow_of (later_yes x r hx h)
end Go.Proofs.Ytpeoabopeihadaa
