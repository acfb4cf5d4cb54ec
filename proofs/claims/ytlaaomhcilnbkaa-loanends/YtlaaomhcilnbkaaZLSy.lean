/- What Write and Recover do. -/
import Derived.Test.YtlaaomhcilnbkaaZLSx
set_option linter.unusedVariables false
set_option linter.unusedSimpArgs false
set_option linter.unusedSectionVars false
namespace Go.Proofs.Ytlaaomhcilnbkaa.Mn
open Go.RowKit
attribute [local simp] Tri.typeInfo Tri.sizeOf Tri.underlying Tri.runUnderlying Tri.isAgg Tri.zeroValue Tri.depth Tri.stoodInHeld Tri.eqGuardType Tri.call16 Tri.call22 Tri.call28 Tri.call29 Tri.call33 Tri.call38 Tri.call39 Tri.call42 Tri.call45 Tri.call48 Tri.call52 Tri.call54 Tri.call62 Tri.call63 Tri.call65 Tri.call66 Tri.call68 Tri.call69 Tri.call70 Tri.call71 Tri.call78 Tri.call79 Tri.call80 Tri.call81 Tri.call82 Tri.call83 Tri.call84 Tri.call85 Tri.call86 Tri.call89 Tri.call101 Tri.call102 Tri.call103 Tri.call104 Tri.call105 Tri.call107 Tri.call113 Tri.call123 Tri.call124 Tri.call125 Tri.call126 Tri.call127 Tri.call136 Tri.call138 Tri.call139 Tri.call140 Tri.call141 Tri.call142 Tri.call143 Tri.call144 Tri.call154 Tri.call155 Tri.call165 Tri.call167 Tri.call184
end Go.Proofs.Ytlaaomhcilnbkaa.Mn
