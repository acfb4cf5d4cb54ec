/-
  No cell of these rows narrows 'for every input' (looked for: loops, veiled, ifaces, maps, wideKeys, modest, calm, conditions, laid).
  DERIVED. THE GIVEN ROWS OF THIS SEAT. 11 by the template 'for every input the law returns true; each argument reads behind the call as it read before'; 0 by the template 'total and deterministic' (their statements: YtpeoabopeihadaaTotals.lean).
  GIVEN WITH THE SEED: the statements are not yours to turn. If you find one false, say at which input.
  Laid BY PROGRAM, IN A SANDBOX (cutbox-rows.mjs): the forced cells as the released guide's own fill.sh prints them over the translation f5a897fcf47be8a7… (all of the seat's roots in one cut). By AI agents, Wed Nov 11 2026. No macro, syntax, notation, axiom, sorry.
-/
import Derived.Test.YtpeoabopeihadaaChecked
import GoSem.Claim
import GoSem.ClaimJoined
import GoSem.ClaimMapViews
import Derived.JoinedTies
import Derived.KernelRfl
namespace Go.Proofs.Ytpeoabopeihadaa
/- THE CELL 'sum', in the pinned program and in every row, IS THE sha256 OF THE DUMP (.gsa) THAT YtpeoabopeihadaaProg.lean LOADS. Nothing in Lean hashes anything: it is a label: what it is worth is what the hold of that sum in a sandbox is worth. -/
noncomputable def Try.pinned : Pinned := { name := "ytpeoabopeihadaa", sum := "f5a897fcf47be8a71b0c4115f062a637e8d6ce225f70826beab66f4fab923d98", checked := Try.checked }
namespace Rows
def none {H : Type} : Left H := { results := [], args := [] }

/-- 'lombardlaw10.EirSolves': WHATEVER THE INPUT: true; the input reads as it did. -/
def eirSolvesSpec : ChangeSpec := { name := "eirSolves", fn := fun _ => fun
  | [d] => { results := [.lit (.bool true)], args := [d] }
  | _ => none }
def eirSolvesRow : OpenClaim := { program := "ytpeoabopeihadaa", sum := "f5a897fcf47be8a71b0c4115f062a637e8d6ce225f70826beab66f4fab923d98", func := "lombard/lombardlaw10.EirSolves", spec := "eirSolves", inPlace := ["math/bits.Sub64", "math/bits.Add64"], unfollowed := true, recurses := true, named := ["math/bits.divideError", "math/bits.overflowError"], leaving := true, apart := false }
def EirSolvesSaid : Prop := eirSolvesRow.holds Try.pinned (OpenSpec.ofChange eirSolvesSpec)

/-- ITS FALSE NEIGHBOUR: 'it returns false'. Refute it at one input. -/
def eirSolvesWrong : ChangeSpec := { name := "eirSolves", fn := fun _ => fun
  | [d] => { results := [.lit (.bool false)], args := [d] }
  | _ => none }
def EirSolvesWrongFalsely : Prop := eirSolvesRow.holds Try.pinned (OpenSpec.ofChange eirSolvesWrong)

/-- 'lombardlaw10.EirLoans': WHATEVER THE INPUT: true; the input reads as it did. -/
def eirLoansSpec : ChangeSpec := { name := "eirLoans", fn := fun _ => fun
  | [d] => { results := [.lit (.bool true)], args := [d] }
  | _ => none }
def eirLoansRow : OpenClaim := { program := "ytpeoabopeihadaa", sum := "f5a897fcf47be8a71b0c4115f062a637e8d6ce225f70826beab66f4fab923d98", func := "lombard/lombardlaw10.EirLoans", spec := "eirLoans", inPlace := ["math/bits.Sub64", "math/bits.Add64"], unfollowed := true, recurses := true, named := ["math/bits.divideError", "math/bits.overflowError"], leaving := true, apart := false }
def EirLoansSaid : Prop := eirLoansRow.holds Try.pinned (OpenSpec.ofChange eirLoansSpec)

/-- ITS FALSE NEIGHBOUR: 'it returns false'. Refute it at one input. -/
def eirLoansWrong : ChangeSpec := { name := "eirLoans", fn := fun _ => fun
  | [d] => { results := [.lit (.bool false)], args := [d] }
  | _ => none }
def EirLoansWrongFalsely : Prop := eirLoansRow.holds Try.pinned (OpenSpec.ofChange eirLoansWrong)

/-- 'lombardlaw11.TableSolved': WHATEVER THE INPUT: true; the input reads as it did. -/
def tableSolvedSpec : ChangeSpec := { name := "tableSolved", fn := fun _ => fun
  | [d1, d2] => { results := [.lit (.bool true)], args := [d1, d2] }
  | _ => none }
def tableSolvedRow : OpenClaim := { program := "ytpeoabopeihadaa", sum := "f5a897fcf47be8a71b0c4115f062a637e8d6ce225f70826beab66f4fab923d98", func := "lombard/lombardlaw11.TableSolved", spec := "tableSolved", inPlace := ["math/bits.Sub64", "math/bits.Add64"], unfollowed := true, recurses := true, named := ["math/bits.divideError", "math/bits.overflowError"], leaving := true, apart := false }
def TableSolvedSaid : Prop := tableSolvedRow.holds Try.pinned (OpenSpec.ofChange tableSolvedSpec)

/-- ITS FALSE NEIGHBOUR: 'it returns false'. Refute it at one input. -/
def tableSolvedWrong : ChangeSpec := { name := "tableSolved", fn := fun _ => fun
  | [d1, d2] => { results := [.lit (.bool false)], args := [d1, d2] }
  | _ => none }
def TableSolvedWrongFalsely : Prop := tableSolvedRow.holds Try.pinned (OpenSpec.ofChange tableSolvedWrong)

/-- 'lombardlaw12.LoanNews': WHATEVER THE INPUT: true; the input reads as it did. -/
def loanNewsSpec : ChangeSpec := { name := "loanNews", fn := fun _ => fun
  | [d1, d2, d3] => { results := [.lit (.bool true)], args := [d1, d2, d3] }
  | _ => none }
def loanNewsRow : OpenClaim := { program := "ytpeoabopeihadaa", sum := "f5a897fcf47be8a71b0c4115f062a637e8d6ce225f70826beab66f4fab923d98", func := "lombard/lombardlaw12.LoanNews", spec := "loanNews", inPlace := ["math/bits.Sub64", "math/bits.Add64"], unfollowed := true, recurses := true, named := ["math/bits.divideError", "math/bits.overflowError"], leaving := true, apart := false }
def LoanNewsSaid : Prop := loanNewsRow.holds Try.pinned (OpenSpec.ofChange loanNewsSpec)

/-- ITS FALSE NEIGHBOUR: 'it returns false'. Refute it at one input. -/
def loanNewsWrong : ChangeSpec := { name := "loanNews", fn := fun _ => fun
  | [d1, d2, d3] => { results := [.lit (.bool false)], args := [d1, d2, d3] }
  | _ => none }
def LoanNewsWrongFalsely : Prop := loanNewsRow.holds Try.pinned (OpenSpec.ofChange loanNewsWrong)

/-- 'lombardlaw12.LoanSteps': WHATEVER THE INPUT: true; the input reads as it did. -/
def loanStepsSpec : ChangeSpec := { name := "loanSteps", fn := fun _ => fun
  | [d1, d2, d3] => { results := [.lit (.bool true)], args := [d1, d2, d3] }
  | _ => none }
def loanStepsRow : OpenClaim := { program := "ytpeoabopeihadaa", sum := "f5a897fcf47be8a71b0c4115f062a637e8d6ce225f70826beab66f4fab923d98", func := "lombard/lombardlaw12.LoanSteps", spec := "loanSteps", inPlace := ["math/bits.Sub64", "math/bits.Add64"], unfollowed := true, recurses := true, named := ["math/bits.divideError", "math/bits.overflowError"], leaving := true, apart := false }
def LoanStepsSaid : Prop := loanStepsRow.holds Try.pinned (OpenSpec.ofChange loanStepsSpec)

/-- ITS FALSE NEIGHBOUR: 'it returns false'. Refute it at one input. -/
def loanStepsWrong : ChangeSpec := { name := "loanSteps", fn := fun _ => fun
  | [d1, d2, d3] => { results := [.lit (.bool false)], args := [d1, d2, d3] }
  | _ => none }
def LoanStepsWrongFalsely : Prop := loanStepsRow.holds Try.pinned (OpenSpec.ofChange loanStepsWrong)

/-- 'lombardlaw12.LoanLives': WHATEVER THE INPUT: true; the input reads as it did. -/
def loanLivesSpec : ChangeSpec := { name := "loanLives", fn := fun _ => fun
  | [d1, d2, d3] => { results := [.lit (.bool true)], args := [d1, d2, d3] }
  | _ => none }
def loanLivesRow : OpenClaim := { program := "ytpeoabopeihadaa", sum := "f5a897fcf47be8a71b0c4115f062a637e8d6ce225f70826beab66f4fab923d98", func := "lombard/lombardlaw12.LoanLives", spec := "loanLives", inPlace := ["math/bits.Sub64", "math/bits.Add64"], unfollowed := true, recurses := true, named := ["math/bits.divideError", "math/bits.overflowError"], leaving := true, apart := false }
def LoanLivesSaid : Prop := loanLivesRow.holds Try.pinned (OpenSpec.ofChange loanLivesSpec)

/-- ITS FALSE NEIGHBOUR: 'it returns false'. Refute it at one input. -/
def loanLivesWrong : ChangeSpec := { name := "loanLives", fn := fun _ => fun
  | [d1, d2, d3] => { results := [.lit (.bool false)], args := [d1, d2, d3] }
  | _ => none }
def LoanLivesWrongFalsely : Prop := loanLivesRow.holds Try.pinned (OpenSpec.ofChange loanLivesWrong)

/-- 'lombardlaw12.LoanOff': WHATEVER THE INPUT: true; the input reads as it did. -/
def loanOffSpec : ChangeSpec := { name := "loanOff", fn := fun _ => fun
  | [d1, d2] => { results := [.lit (.bool true)], args := [d1, d2] }
  | _ => none }
def loanOffRow : OpenClaim := { program := "ytpeoabopeihadaa", sum := "f5a897fcf47be8a71b0c4115f062a637e8d6ce225f70826beab66f4fab923d98", func := "lombard/lombardlaw12.LoanOff", spec := "loanOff", inPlace := ["math/bits.Sub64", "math/bits.Add64"], unfollowed := true, recurses := true, named := ["math/bits.divideError", "math/bits.overflowError"], leaving := true, apart := false }
def LoanOffSaid : Prop := loanOffRow.holds Try.pinned (OpenSpec.ofChange loanOffSpec)

/-- ITS FALSE NEIGHBOUR: 'it returns false'. Refute it at one input. -/
def loanOffWrong : ChangeSpec := { name := "loanOff", fn := fun _ => fun
  | [d1, d2] => { results := [.lit (.bool false)], args := [d1, d2] }
  | _ => none }
def LoanOffWrongFalsely : Prop := loanOffRow.holds Try.pinned (OpenSpec.ofChange loanOffWrong)

/-- 'lombardlaw12.LoanTwice': WHATEVER THE INPUT: true; the input reads as it did. -/
def loanTwiceSpec : ChangeSpec := { name := "loanTwice", fn := fun _ => fun
  | [d1, d2, d3] => { results := [.lit (.bool true)], args := [d1, d2, d3] }
  | _ => none }
def loanTwiceRow : OpenClaim := { program := "ytpeoabopeihadaa", sum := "f5a897fcf47be8a71b0c4115f062a637e8d6ce225f70826beab66f4fab923d98", func := "lombard/lombardlaw12.LoanTwice", spec := "loanTwice", inPlace := ["math/bits.Sub64", "math/bits.Add64"], unfollowed := true, recurses := true, named := ["math/bits.divideError", "math/bits.overflowError"], leaving := true, apart := false }
def LoanTwiceSaid : Prop := loanTwiceRow.holds Try.pinned (OpenSpec.ofChange loanTwiceSpec)

/-- ITS FALSE NEIGHBOUR: 'it returns false'. Refute it at one input. -/
def loanTwiceWrong : ChangeSpec := { name := "loanTwice", fn := fun _ => fun
  | [d1, d2, d3] => { results := [.lit (.bool false)], args := [d1, d2, d3] }
  | _ => none }
def LoanTwiceWrongFalsely : Prop := loanTwiceRow.holds Try.pinned (OpenSpec.ofChange loanTwiceWrong)

/-- 'lombardlaw13.ReviseCatches': WHATEVER THE INPUT: true; the input reads as it did. -/
def reviseCatchesSpec : ChangeSpec := { name := "reviseCatches", fn := fun _ => fun
  | [d] => { results := [.lit (.bool true)], args := [d] }
  | _ => none }
def reviseCatchesRow : OpenClaim := { program := "ytpeoabopeihadaa", sum := "f5a897fcf47be8a71b0c4115f062a637e8d6ce225f70826beab66f4fab923d98", func := "lombard/lombardlaw13.ReviseCatches", spec := "reviseCatches", inPlace := ["math/bits.Sub64", "math/bits.Add64"], unfollowed := true, recurses := true, named := ["math/bits.divideError", "math/bits.overflowError"], leaving := true, apart := false }
def ReviseCatchesSaid : Prop := reviseCatchesRow.holds Try.pinned (OpenSpec.ofChange reviseCatchesSpec)

/-- ITS FALSE NEIGHBOUR: 'it returns false'. Refute it at one input. -/
def reviseCatchesWrong : ChangeSpec := { name := "reviseCatches", fn := fun _ => fun
  | [d] => { results := [.lit (.bool false)], args := [d] }
  | _ => none }
def ReviseCatchesWrongFalsely : Prop := reviseCatchesRow.holds Try.pinned (OpenSpec.ofChange reviseCatchesWrong)

/-- 'lombardlaw13.ReviseReplaces': WHATEVER THE INPUT: true; the input reads as it did. -/
def reviseReplacesSpec : ChangeSpec := { name := "reviseReplaces", fn := fun _ => fun
  | [d] => { results := [.lit (.bool true)], args := [d] }
  | _ => none }
def reviseReplacesRow : OpenClaim := { program := "ytpeoabopeihadaa", sum := "f5a897fcf47be8a71b0c4115f062a637e8d6ce225f70826beab66f4fab923d98", func := "lombard/lombardlaw13.ReviseReplaces", spec := "reviseReplaces", inPlace := ["math/bits.Sub64", "math/bits.Add64"], unfollowed := true, recurses := true, named := ["math/bits.divideError", "math/bits.overflowError"], leaving := true, apart := false }
def ReviseReplacesSaid : Prop := reviseReplacesRow.holds Try.pinned (OpenSpec.ofChange reviseReplacesSpec)

/-- ITS FALSE NEIGHBOUR: 'it returns false'. Refute it at one input. -/
def reviseReplacesWrong : ChangeSpec := { name := "reviseReplaces", fn := fun _ => fun
  | [d] => { results := [.lit (.bool false)], args := [d] }
  | _ => none }
def ReviseReplacesWrongFalsely : Prop := reviseReplacesRow.holds Try.pinned (OpenSpec.ofChange reviseReplacesWrong)

/-- 'lombardlaw13.ReviseEven': WHATEVER THE INPUT: true; the input reads as it did. -/
def reviseEvenSpec : ChangeSpec := { name := "reviseEven", fn := fun _ => fun
  | [d] => { results := [.lit (.bool true)], args := [d] }
  | _ => none }
def reviseEvenRow : OpenClaim := { program := "ytpeoabopeihadaa", sum := "f5a897fcf47be8a71b0c4115f062a637e8d6ce225f70826beab66f4fab923d98", func := "lombard/lombardlaw13.ReviseEven", spec := "reviseEven", inPlace := ["math/bits.Sub64", "math/bits.Add64"], unfollowed := true, recurses := true, named := ["math/bits.divideError", "math/bits.overflowError"], leaving := true, apart := false }
def ReviseEvenSaid : Prop := reviseEvenRow.holds Try.pinned (OpenSpec.ofChange reviseEvenSpec)

/-- ITS FALSE NEIGHBOUR: 'it returns false'. Refute it at one input. -/
def reviseEvenWrong : ChangeSpec := { name := "reviseEven", fn := fun _ => fun
  | [d] => { results := [.lit (.bool false)], args := [d] }
  | _ => none }
def ReviseEvenWrongFalsely : Prop := reviseEvenRow.holds Try.pinned (OpenSpec.ofChange reviseEvenWrong)

/- THE SECOND FORM. 'bulk': how many values and letters a reading holds, each counted each time it is reached (what is shared counts as often as it is met; a slice's spare places count too). A statement '..UptoSaid' is the law's where the arguments, and the package variables that the reading takes, are together of bulk at most 1048576: NARROWER than '..Said'. Prove '..Said' where nothing that the law and all that it calls make is longer than what came in: it says more and counts as full. Else prove '..UptoSaid'. A law counts once. -/
mutual
def uptoBulk {H : Type} : DataW H → Nat
  | .lit (.string bytes) => bytes.length + 1
  | .lit _ => 1
  | .nil => 1
  | .ptr d => uptoBulk d + 1
  | .slice elems spare => uptoBulkAll elems + uptoBulkAll spare + 1
  | .agg parts => uptoBulkAll parts + 1
  | .iface _ d => uptoBulk d + 1
  | .map entries => uptoBulkEntries entries + 1
  | .held _ => 1
def uptoBulkAll {H : Type} : List (DataW H) → Nat
  | [] => 0
  | d :: r => uptoBulk d + uptoBulkAll r
def uptoBulkEntries {H : Type} : List (Lit × DataW H) → Nat
  | [] => 0
  | x :: r => uptoBulkEntry x + uptoBulkEntries r
def uptoBulkEntry {H : Type} : Lit × DataW H → Nat
  | (.string bytes, d) => bytes.length + uptoBulk d + 1
  | (_, d) => uptoBulk d + 1
 end
def uptoSmall : (H : Type) → List (DataW H) → Bool := fun _ ds => decide (uptoBulkAll ds ≤ 1048576)
def OpenSpec.upto (s : _root_.Go.ChangeSpec) : _root_.Go.OpenSpec := { _root_.Go.OpenSpec.ofChange s with cond := some uptoSmall }

/-- 'lombardlaw10.EirSolves', WHERE WHAT IT READS IS OF BULK AT MOST 1048576: true; the input reads as it did. -/
def eirSolvesUptoRow : OpenClaim := { program := "ytpeoabopeihadaa", sum := "f5a897fcf47be8a71b0c4115f062a637e8d6ce225f70826beab66f4fab923d98", func := "lombard/lombardlaw10.EirSolves", spec := "eirSolves", inPlace := ["math/bits.Sub64", "math/bits.Add64"], unfollowed := true, recurses := true, named := ["math/bits.divideError", "math/bits.overflowError"], leaving := true, apart := false, narrowed := true }
def EirSolvesUptoSaid : Prop := eirSolvesUptoRow.holds Try.pinned (OpenSpec.upto eirSolvesSpec)

/-- 'lombardlaw10.EirLoans', WHERE WHAT IT READS IS OF BULK AT MOST 1048576: true; the input reads as it did. -/
def eirLoansUptoRow : OpenClaim := { program := "ytpeoabopeihadaa", sum := "f5a897fcf47be8a71b0c4115f062a637e8d6ce225f70826beab66f4fab923d98", func := "lombard/lombardlaw10.EirLoans", spec := "eirLoans", inPlace := ["math/bits.Sub64", "math/bits.Add64"], unfollowed := true, recurses := true, named := ["math/bits.divideError", "math/bits.overflowError"], leaving := true, apart := false, narrowed := true }
def EirLoansUptoSaid : Prop := eirLoansUptoRow.holds Try.pinned (OpenSpec.upto eirLoansSpec)

/-- 'lombardlaw11.TableSolved', WHERE WHAT IT READS IS OF BULK AT MOST 1048576: true; the input reads as it did. -/
def tableSolvedUptoRow : OpenClaim := { program := "ytpeoabopeihadaa", sum := "f5a897fcf47be8a71b0c4115f062a637e8d6ce225f70826beab66f4fab923d98", func := "lombard/lombardlaw11.TableSolved", spec := "tableSolved", inPlace := ["math/bits.Sub64", "math/bits.Add64"], unfollowed := true, recurses := true, named := ["math/bits.divideError", "math/bits.overflowError"], leaving := true, apart := false, narrowed := true }
def TableSolvedUptoSaid : Prop := tableSolvedUptoRow.holds Try.pinned (OpenSpec.upto tableSolvedSpec)

/-- 'lombardlaw12.LoanNews', WHERE WHAT IT READS IS OF BULK AT MOST 1048576: true; the input reads as it did. -/
def loanNewsUptoRow : OpenClaim := { program := "ytpeoabopeihadaa", sum := "f5a897fcf47be8a71b0c4115f062a637e8d6ce225f70826beab66f4fab923d98", func := "lombard/lombardlaw12.LoanNews", spec := "loanNews", inPlace := ["math/bits.Sub64", "math/bits.Add64"], unfollowed := true, recurses := true, named := ["math/bits.divideError", "math/bits.overflowError"], leaving := true, apart := false, narrowed := true }
def LoanNewsUptoSaid : Prop := loanNewsUptoRow.holds Try.pinned (OpenSpec.upto loanNewsSpec)

/-- 'lombardlaw12.LoanSteps', WHERE WHAT IT READS IS OF BULK AT MOST 1048576: true; the input reads as it did. -/
def loanStepsUptoRow : OpenClaim := { program := "ytpeoabopeihadaa", sum := "f5a897fcf47be8a71b0c4115f062a637e8d6ce225f70826beab66f4fab923d98", func := "lombard/lombardlaw12.LoanSteps", spec := "loanSteps", inPlace := ["math/bits.Sub64", "math/bits.Add64"], unfollowed := true, recurses := true, named := ["math/bits.divideError", "math/bits.overflowError"], leaving := true, apart := false, narrowed := true }
def LoanStepsUptoSaid : Prop := loanStepsUptoRow.holds Try.pinned (OpenSpec.upto loanStepsSpec)

/-- 'lombardlaw12.LoanLives', WHERE WHAT IT READS IS OF BULK AT MOST 1048576: true; the input reads as it did. -/
def loanLivesUptoRow : OpenClaim := { program := "ytpeoabopeihadaa", sum := "f5a897fcf47be8a71b0c4115f062a637e8d6ce225f70826beab66f4fab923d98", func := "lombard/lombardlaw12.LoanLives", spec := "loanLives", inPlace := ["math/bits.Sub64", "math/bits.Add64"], unfollowed := true, recurses := true, named := ["math/bits.divideError", "math/bits.overflowError"], leaving := true, apart := false, narrowed := true }
def LoanLivesUptoSaid : Prop := loanLivesUptoRow.holds Try.pinned (OpenSpec.upto loanLivesSpec)

/-- 'lombardlaw12.LoanOff', WHERE WHAT IT READS IS OF BULK AT MOST 1048576: true; the input reads as it did. -/
def loanOffUptoRow : OpenClaim := { program := "ytpeoabopeihadaa", sum := "f5a897fcf47be8a71b0c4115f062a637e8d6ce225f70826beab66f4fab923d98", func := "lombard/lombardlaw12.LoanOff", spec := "loanOff", inPlace := ["math/bits.Sub64", "math/bits.Add64"], unfollowed := true, recurses := true, named := ["math/bits.divideError", "math/bits.overflowError"], leaving := true, apart := false, narrowed := true }
def LoanOffUptoSaid : Prop := loanOffUptoRow.holds Try.pinned (OpenSpec.upto loanOffSpec)

/-- 'lombardlaw12.LoanTwice', WHERE WHAT IT READS IS OF BULK AT MOST 1048576: true; the input reads as it did. -/
def loanTwiceUptoRow : OpenClaim := { program := "ytpeoabopeihadaa", sum := "f5a897fcf47be8a71b0c4115f062a637e8d6ce225f70826beab66f4fab923d98", func := "lombard/lombardlaw12.LoanTwice", spec := "loanTwice", inPlace := ["math/bits.Sub64", "math/bits.Add64"], unfollowed := true, recurses := true, named := ["math/bits.divideError", "math/bits.overflowError"], leaving := true, apart := false, narrowed := true }
def LoanTwiceUptoSaid : Prop := loanTwiceUptoRow.holds Try.pinned (OpenSpec.upto loanTwiceSpec)

/-- 'lombardlaw13.ReviseCatches', WHERE WHAT IT READS IS OF BULK AT MOST 1048576: true; the input reads as it did. -/
def reviseCatchesUptoRow : OpenClaim := { program := "ytpeoabopeihadaa", sum := "f5a897fcf47be8a71b0c4115f062a637e8d6ce225f70826beab66f4fab923d98", func := "lombard/lombardlaw13.ReviseCatches", spec := "reviseCatches", inPlace := ["math/bits.Sub64", "math/bits.Add64"], unfollowed := true, recurses := true, named := ["math/bits.divideError", "math/bits.overflowError"], leaving := true, apart := false, narrowed := true }
def ReviseCatchesUptoSaid : Prop := reviseCatchesUptoRow.holds Try.pinned (OpenSpec.upto reviseCatchesSpec)

/-- 'lombardlaw13.ReviseReplaces', WHERE WHAT IT READS IS OF BULK AT MOST 1048576: true; the input reads as it did. -/
def reviseReplacesUptoRow : OpenClaim := { program := "ytpeoabopeihadaa", sum := "f5a897fcf47be8a71b0c4115f062a637e8d6ce225f70826beab66f4fab923d98", func := "lombard/lombardlaw13.ReviseReplaces", spec := "reviseReplaces", inPlace := ["math/bits.Sub64", "math/bits.Add64"], unfollowed := true, recurses := true, named := ["math/bits.divideError", "math/bits.overflowError"], leaving := true, apart := false, narrowed := true }
def ReviseReplacesUptoSaid : Prop := reviseReplacesUptoRow.holds Try.pinned (OpenSpec.upto reviseReplacesSpec)

/-- 'lombardlaw13.ReviseEven', WHERE WHAT IT READS IS OF BULK AT MOST 1048576: true; the input reads as it did. -/
def reviseEvenUptoRow : OpenClaim := { program := "ytpeoabopeihadaa", sum := "f5a897fcf47be8a71b0c4115f062a637e8d6ce225f70826beab66f4fab923d98", func := "lombard/lombardlaw13.ReviseEven", spec := "reviseEven", inPlace := ["math/bits.Sub64", "math/bits.Add64"], unfollowed := true, recurses := true, named := ["math/bits.divideError", "math/bits.overflowError"], leaving := true, apart := false, narrowed := true }
def ReviseEvenUptoSaid : Prop := reviseEvenUptoRow.holds Try.pinned (OpenSpec.upto reviseEvenSpec)

end Rows
end Go.Proofs.Ytpeoabopeihadaa
