/- LoanTwice, plain. -/
import Derived.Test.YtpeoabopeihadaaUS
set_option linter.unusedVariables false
set_option linter.unusedSimpArgs false
set_option linter.unusedSectionVars false
namespace Go.Proofs.Ytpeoabopeihadaa.Mn
open Go.RowKit
end Go.Proofs.Ytpeoabopeihadaa.Mn
