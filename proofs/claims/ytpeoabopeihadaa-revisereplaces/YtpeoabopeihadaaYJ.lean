/- What mayCome makes; a world as CatchUp's and Test's calls find it. -/
import Derived.Test.YtpeoabopeihadaaYL
set_option linter.unusedVariables false
set_option linter.unusedSimpArgs false
set_option linter.unusedSectionVars false
namespace Go.Proofs.Ytpeoabopeihadaa.Mn
open Go.RowKit
attribute [local simp] Tri.typeInfo Tri.sizeOf Tri.underlying Tri.runUnderlying Tri.isAgg Tri.zeroValue Tri.depth Tri.stoodInHeld Tri.eqGuardType Tri.call15 Tri.call27 Tri.call31 Tri.call32 Tri.call38 Tri.call39 Tri.call40 Tri.call41 Tri.call43 Tri.call44 Tri.call45 Tri.call46 Tri.call49 Tri.call52 Tri.call54 Tri.call65 Tri.call69 Tri.call70 Tri.call72 Tri.call73 Tri.call74 Tri.call75 Tri.call82 Tri.call86 Tri.call89 Tri.call90 Tri.call91 Tri.call92 Tri.call93 Tri.call94 Tri.call95 Tri.call96 Tri.call97 Tri.call98 Tri.call99 Tri.call100 Tri.call102 Tri.call103 Tri.call104 Tri.call106 Tri.call116 Tri.call117 Tri.call118 Tri.call119 Tri.call120 Tri.call122 Tri.call126 Tri.call130 Tri.call131 Tri.call132 Tri.call143 Tri.call144 Tri.call145 Tri.call146 Tri.call147 Tri.call156 Tri.call157 Tri.call159 Tri.call160 Tri.call161 Tri.call162 Tri.call163 Tri.call164 Tri.call165 Tri.call175 Tri.call176 Tri.call186 Tri.call188 Tri.call205
theorem mc_any (a2 : Option Addr) (n2 c2 : Nat) (w : World) : Calls (Tri Try.prog) 94 #[.slice a2 n2 c2] w fun z w' => z = .returned (.func (.func 131) #[] #[.pointer (some ⟨w.heap.size, 0, none⟩)]) ∧ w' = w.alloc (.cells #[.slice a2 n2 c2] 22) := by
  go_enter (Tri.at (by decide) Try.func94), Try.ntmps94
  go_wp2_with fail
  go_ret
  exact ⟨rfl, rfl⟩
structure SJ (w W : World) (C : Array Value) (v : Value) : Prop where
  bel : Below w.heap.size w W
  b0 : Blk W (w.heap.size) C 53
  b1 : Blk W (w.heap.size + 1) #[v] 22
  b2 : Blk W (w.heap.size + 1 + 1) lnZ 53
theorem SJ.keep {w W W2 : World} {C : Array Value} {v : Value} (h : SJ w W C v) (hb : Below W.heap.size W W2) : SJ w W2 C v := ⟨below_via h.bel hb, h.b0.keep hb, h.b1.keep hb, h.b2.keep hb⟩
theorem SJ.drew {w W : World} {C : Array Value} {v : Value} (h : SJ w W C v) : SJ w W.drew C v := ⟨h.bel.drew, h.b0, h.b1, h.b2⟩
theorem SJ.off {w W : World} {C : Array Value} {v : Value} (h : SJ w W C v) {g : Nat} (hg : w.heap.size + 2 < g) (vs : List Value) : SJ w (putN W g 0 vs) C v := ⟨below_putN (by omega) vs 0 h.bel, Blk.offN (by omega) vs 0 h.b0, Blk.offN (by omega) vs 0 h.b1, Blk.offN (by omega) vs 0 h.b2⟩
structure SI (w W : World) (C : Array Value) (v : Value) : Prop where
  bel : Below w.heap.size w W
  b0 : Blk W (w.heap.size) C 53
  b1 : Blk W (w.heap.size + 1) #[v] 22
theorem SI.keep {w W W2 : World} {C : Array Value} {v : Value} (h : SI w W C v) (hb : Below W.heap.size W W2) : SI w W2 C v := ⟨below_via h.bel hb, h.b0.keep hb, h.b1.keep hb⟩
theorem SI.drew {w W : World} {C : Array Value} {v : Value} (h : SI w W C v) : SI w W.drew C v := ⟨h.bel.drew, h.b0, h.b1⟩
theorem SI.off {w W : World} {C : Array Value} {v : Value} (h : SI w W C v) {g : Nat} (hg : w.heap.size + 1 < g) (vs : List Value) : SI w (putN W g 0 vs) C v := ⟨below_putN (by omega) vs 0 h.bel, Blk.offN (by omega) vs 0 h.b0, Blk.offN (by omega) vs 0 h.b1⟩
end Go.Proofs.Ytpeoabopeihadaa.Mn
