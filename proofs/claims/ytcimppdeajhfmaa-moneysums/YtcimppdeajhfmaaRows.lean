/-
  No cell of these rows narrows 'for every input' (looked for: loops, veiled, ifaces, maps, wideKeys, modest, calm, conditions, laid).
  DERIVED. THE GIVEN ROWS OF THIS SEAT. 6 by the template 'for every input the law returns true; each argument reads behind the call as it read before'; 0 by the template 'total and deterministic' (their statements: YtcimppdeajhfmaaTotals.lean).
  GIVEN WITH THE SEED: the statements are not yours to turn. If you find one false, say at which input.
  Laid BY PROGRAM, IN A SANDBOX (cutbox-rows.mjs): the forced cells as the released guide's own fill.sh prints them over the translation 5bc1f0ba6cb23e98… (all of the seat's roots in one cut). By AI agents, Wed Nov 11 2026. No macro, syntax, notation, axiom, sorry.
-/
import Derived.Test.YtcimppdeajhfmaaChecked
import GoSem.Claim
import GoSem.ClaimJoined
import GoSem.ClaimMapViews
import Derived.JoinedTies
import Derived.KernelRfl
namespace Go.Proofs.Ytcimppdeajhfmaa
/- THE CELL 'sum', in the pinned program and in every row, IS THE sha256 OF THE DUMP (.gsa) THAT YtcimppdeajhfmaaProg.lean LOADS. Nothing in Lean hashes anything: it is a label: what it is worth is what the hold of that sum in a sandbox is worth. -/
noncomputable def Try.pinned : Pinned := { name := "ytcimppdeajhfmaa", sum := "5bc1f0ba6cb23e98f8839a4c606adece4bc5c6555af3352ce17ae48c44ac6c00", checked := Try.checked }
namespace Rows
def none {H : Type} : Left H := { results := [], args := [] }

/-- 'lombardlaw01.MoneyReckons': WHATEVER THE INPUT: true; the input reads as it did. -/
def moneyReckonsSpec : ChangeSpec := { name := "moneyReckons", fn := fun _ => fun
  | [d1, d2] => { results := [.lit (.bool true)], args := [d1, d2] }
  | _ => none }
def moneyReckonsRow : OpenClaim := { program := "ytcimppdeajhfmaa", sum := "5bc1f0ba6cb23e98f8839a4c606adece4bc5c6555af3352ce17ae48c44ac6c00", func := "lombard/lombardlaw01.MoneyReckons", spec := "moneyReckons", named := ["math/bits.divideError", "math/bits.overflowError"], apart := false }
def MoneyReckonsSaid : Prop := moneyReckonsRow.holds Try.pinned (OpenSpec.ofChange moneyReckonsSpec)

/-- ITS FALSE NEIGHBOUR: 'it returns false'. Refute it at one input. -/
def moneyReckonsWrong : ChangeSpec := { name := "moneyReckons", fn := fun _ => fun
  | [d1, d2] => { results := [.lit (.bool false)], args := [d1, d2] }
  | _ => none }
def MoneyReckonsWrongFalsely : Prop := moneyReckonsRow.holds Try.pinned (OpenSpec.ofChange moneyReckonsWrong)

/-- 'lombardlaw01.MoneySums': WHATEVER THE INPUT: true; the input reads as it did. -/
def moneySumsSpec : ChangeSpec := { name := "moneySums", fn := fun _ => fun
  | [d1, d2] => { results := [.lit (.bool true)], args := [d1, d2] }
  | _ => none }
def moneySumsRow : OpenClaim := { program := "ytcimppdeajhfmaa", sum := "5bc1f0ba6cb23e98f8839a4c606adece4bc5c6555af3352ce17ae48c44ac6c00", func := "lombard/lombardlaw01.MoneySums", spec := "moneySums", named := ["math/bits.divideError", "math/bits.overflowError"], apart := false }
def MoneySumsSaid : Prop := moneySumsRow.holds Try.pinned (OpenSpec.ofChange moneySumsSpec)

/-- ITS FALSE NEIGHBOUR: 'it returns false'. Refute it at one input. -/
def moneySumsWrong : ChangeSpec := { name := "moneySums", fn := fun _ => fun
  | [d1, d2] => { results := [.lit (.bool false)], args := [d1, d2] }
  | _ => none }
def MoneySumsWrongFalsely : Prop := moneySumsRow.holds Try.pinned (OpenSpec.ofChange moneySumsWrong)

/-- 'lombardlaw01.MoneySplits': WHATEVER THE INPUT: true; the input reads as it did. -/
def moneySplitsSpec : ChangeSpec := { name := "moneySplits", fn := fun _ => fun
  | [d1, d2] => { results := [.lit (.bool true)], args := [d1, d2] }
  | _ => none }
def moneySplitsRow : OpenClaim := { program := "ytcimppdeajhfmaa", sum := "5bc1f0ba6cb23e98f8839a4c606adece4bc5c6555af3352ce17ae48c44ac6c00", func := "lombard/lombardlaw01.MoneySplits", spec := "moneySplits", recurses := true, named := ["math/bits.divideError", "math/bits.overflowError"], apart := false }
def MoneySplitsSaid : Prop := moneySplitsRow.holds Try.pinned (OpenSpec.ofChange moneySplitsSpec)

/-- ITS FALSE NEIGHBOUR: 'it returns false'. Refute it at one input. -/
def moneySplitsWrong : ChangeSpec := { name := "moneySplits", fn := fun _ => fun
  | [d1, d2] => { results := [.lit (.bool false)], args := [d1, d2] }
  | _ => none }
def MoneySplitsWrongFalsely : Prop := moneySplitsRow.holds Try.pinned (OpenSpec.ofChange moneySplitsWrong)

/-- 'lombardlaw01.MoneyWhole': WHATEVER THE INPUT: true; the input reads as it did. -/
def moneyWholeSpec : ChangeSpec := { name := "moneyWhole", fn := fun _ => fun
  | [d1, d2] => { results := [.lit (.bool true)], args := [d1, d2] }
  | _ => none }
def moneyWholeRow : OpenClaim := { program := "ytcimppdeajhfmaa", sum := "5bc1f0ba6cb23e98f8839a4c606adece4bc5c6555af3352ce17ae48c44ac6c00", func := "lombard/lombardlaw01.MoneyWhole", spec := "moneyWhole", named := ["math/bits.divideError", "math/bits.overflowError"], apart := false }
def MoneyWholeSaid : Prop := moneyWholeRow.holds Try.pinned (OpenSpec.ofChange moneyWholeSpec)

/-- ITS FALSE NEIGHBOUR: 'it returns false'. Refute it at one input. -/
def moneyWholeWrong : ChangeSpec := { name := "moneyWhole", fn := fun _ => fun
  | [d1, d2] => { results := [.lit (.bool false)], args := [d1, d2] }
  | _ => none }
def MoneyWholeWrongFalsely : Prop := moneyWholeRow.holds Try.pinned (OpenSpec.ofChange moneyWholeWrong)

/-- 'lombardlaw01.MoneyBack': WHATEVER THE INPUT: true; the input reads as it did. -/
def moneyBackSpec : ChangeSpec := { name := "moneyBack", fn := fun _ => fun
  | [d1, d2, d3] => { results := [.lit (.bool true)], args := [d1, d2, d3] }
  | _ => none }
def moneyBackRow : OpenClaim := { program := "ytcimppdeajhfmaa", sum := "5bc1f0ba6cb23e98f8839a4c606adece4bc5c6555af3352ce17ae48c44ac6c00", func := "lombard/lombardlaw01.MoneyBack", spec := "moneyBack", named := ["math/bits.divideError", "math/bits.overflowError"], apart := false }
def MoneyBackSaid : Prop := moneyBackRow.holds Try.pinned (OpenSpec.ofChange moneyBackSpec)

/-- ITS FALSE NEIGHBOUR: 'it returns false'. Refute it at one input. -/
def moneyBackWrong : ChangeSpec := { name := "moneyBack", fn := fun _ => fun
  | [d1, d2, d3] => { results := [.lit (.bool false)], args := [d1, d2, d3] }
  | _ => none }
def MoneyBackWrongFalsely : Prop := moneyBackRow.holds Try.pinned (OpenSpec.ofChange moneyBackWrong)

/-- 'lombardlaw01.MoneyScales': WHATEVER THE INPUT: true; the input reads as it did. -/
def moneyScalesSpec : ChangeSpec := { name := "moneyScales", fn := fun _ => fun
  | [d1, d2, d3] => { results := [.lit (.bool true)], args := [d1, d2, d3] }
  | _ => none }
def moneyScalesRow : OpenClaim := { program := "ytcimppdeajhfmaa", sum := "5bc1f0ba6cb23e98f8839a4c606adece4bc5c6555af3352ce17ae48c44ac6c00", func := "lombard/lombardlaw01.MoneyScales", spec := "moneyScales", named := ["math/bits.divideError", "math/bits.overflowError"], apart := false }
def MoneyScalesSaid : Prop := moneyScalesRow.holds Try.pinned (OpenSpec.ofChange moneyScalesSpec)

/-- ITS FALSE NEIGHBOUR: 'it returns false'. Refute it at one input. -/
def moneyScalesWrong : ChangeSpec := { name := "moneyScales", fn := fun _ => fun
  | [d1, d2, d3] => { results := [.lit (.bool false)], args := [d1, d2, d3] }
  | _ => none }
def MoneyScalesWrongFalsely : Prop := moneyScalesRow.holds Try.pinned (OpenSpec.ofChange moneyScalesWrong)

/- THE SECOND FORM. 'bulk': how many values and letters a reading holds, each counted each time it is reached (what is shared counts as often as it is met; a slice's spare places count too). A statement '..UptoSaid' is the law's where the arguments, and the package variables that the reading takes, are together of bulk at most 1048576: NARROWER than '..Said'. Prove '..Said' where nothing that the law and all that it calls make is longer than what came in: it says more and counts as full. Else prove '..UptoSaid'. A law counts once. -/
mutual
def uptoBulk {H : Type} : DataW H → Nat
  | .lit (.string bytes) => bytes.length + 1
  | .lit _ => 1
  | .nil => 1
  | .ptr d => uptoBulk d + 1
  | .slice elems spare => uptoBulkAll elems + uptoBulkAll spare + 1
  | .agg parts => uptoBulkAll parts + 1
  | .iface _ d => uptoBulk d + 1
  | .map entries => uptoBulkEntries entries + 1
  | .held _ => 1
def uptoBulkAll {H : Type} : List (DataW H) → Nat
  | [] => 0
  | d :: r => uptoBulk d + uptoBulkAll r
def uptoBulkEntries {H : Type} : List (Lit × DataW H) → Nat
  | [] => 0
  | x :: r => uptoBulkEntry x + uptoBulkEntries r
def uptoBulkEntry {H : Type} : Lit × DataW H → Nat
  | (.string bytes, d) => bytes.length + uptoBulk d + 1
  | (_, d) => uptoBulk d + 1
 end
def uptoSmall : (H : Type) → List (DataW H) → Bool := fun _ ds => decide (uptoBulkAll ds ≤ 1048576)
def OpenSpec.upto (s : _root_.Go.ChangeSpec) : _root_.Go.OpenSpec := { _root_.Go.OpenSpec.ofChange s with cond := some uptoSmall }

/-- 'lombardlaw01.MoneyReckons', WHERE WHAT IT READS IS OF BULK AT MOST 1048576: true; the input reads as it did. -/
def moneyReckonsUptoRow : OpenClaim := { program := "ytcimppdeajhfmaa", sum := "5bc1f0ba6cb23e98f8839a4c606adece4bc5c6555af3352ce17ae48c44ac6c00", func := "lombard/lombardlaw01.MoneyReckons", spec := "moneyReckons", named := ["math/bits.divideError", "math/bits.overflowError"], apart := false, narrowed := true }
def MoneyReckonsUptoSaid : Prop := moneyReckonsUptoRow.holds Try.pinned (OpenSpec.upto moneyReckonsSpec)

/-- 'lombardlaw01.MoneySums', WHERE WHAT IT READS IS OF BULK AT MOST 1048576: true; the input reads as it did. -/
def moneySumsUptoRow : OpenClaim := { program := "ytcimppdeajhfmaa", sum := "5bc1f0ba6cb23e98f8839a4c606adece4bc5c6555af3352ce17ae48c44ac6c00", func := "lombard/lombardlaw01.MoneySums", spec := "moneySums", named := ["math/bits.divideError", "math/bits.overflowError"], apart := false, narrowed := true }
def MoneySumsUptoSaid : Prop := moneySumsUptoRow.holds Try.pinned (OpenSpec.upto moneySumsSpec)

/-- 'lombardlaw01.MoneySplits', WHERE WHAT IT READS IS OF BULK AT MOST 1048576: true; the input reads as it did. -/
def moneySplitsUptoRow : OpenClaim := { program := "ytcimppdeajhfmaa", sum := "5bc1f0ba6cb23e98f8839a4c606adece4bc5c6555af3352ce17ae48c44ac6c00", func := "lombard/lombardlaw01.MoneySplits", spec := "moneySplits", recurses := true, named := ["math/bits.divideError", "math/bits.overflowError"], apart := false, narrowed := true }
def MoneySplitsUptoSaid : Prop := moneySplitsUptoRow.holds Try.pinned (OpenSpec.upto moneySplitsSpec)

/-- 'lombardlaw01.MoneyWhole', WHERE WHAT IT READS IS OF BULK AT MOST 1048576: true; the input reads as it did. -/
def moneyWholeUptoRow : OpenClaim := { program := "ytcimppdeajhfmaa", sum := "5bc1f0ba6cb23e98f8839a4c606adece4bc5c6555af3352ce17ae48c44ac6c00", func := "lombard/lombardlaw01.MoneyWhole", spec := "moneyWhole", named := ["math/bits.divideError", "math/bits.overflowError"], apart := false, narrowed := true }
def MoneyWholeUptoSaid : Prop := moneyWholeUptoRow.holds Try.pinned (OpenSpec.upto moneyWholeSpec)

/-- 'lombardlaw01.MoneyBack', WHERE WHAT IT READS IS OF BULK AT MOST 1048576: true; the input reads as it did. -/
def moneyBackUptoRow : OpenClaim := { program := "ytcimppdeajhfmaa", sum := "5bc1f0ba6cb23e98f8839a4c606adece4bc5c6555af3352ce17ae48c44ac6c00", func := "lombard/lombardlaw01.MoneyBack", spec := "moneyBack", named := ["math/bits.divideError", "math/bits.overflowError"], apart := false, narrowed := true }
def MoneyBackUptoSaid : Prop := moneyBackUptoRow.holds Try.pinned (OpenSpec.upto moneyBackSpec)

/-- 'lombardlaw01.MoneyScales', WHERE WHAT IT READS IS OF BULK AT MOST 1048576: true; the input reads as it did. -/
def moneyScalesUptoRow : OpenClaim := { program := "ytcimppdeajhfmaa", sum := "5bc1f0ba6cb23e98f8839a4c606adece4bc5c6555af3352ce17ae48c44ac6c00", func := "lombard/lombardlaw01.MoneyScales", spec := "moneyScales", named := ["math/bits.divideError", "math/bits.overflowError"], apart := false, narrowed := true }
def MoneyScalesUptoSaid : Prop := moneyScalesUptoRow.holds Try.pinned (OpenSpec.upto moneyScalesSpec)

end Rows
end Go.Proofs.Ytcimppdeajhfmaa
