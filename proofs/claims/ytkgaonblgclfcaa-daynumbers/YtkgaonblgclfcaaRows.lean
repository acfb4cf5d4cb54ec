/-
  No cell of these rows narrows 'for every input' (looked for: loops, veiled, ifaces, maps, wideKeys, modest, calm, conditions, laid).
  DERIVED. THE GIVEN ROWS OF THIS SEAT. 5 by the template 'for every input the law returns true; each argument reads behind the call as it read before'; 0 by the template 'total and deterministic' (their statements: YtkgaonblgclfcaaTotals.lean).
  GIVEN WITH THE SEED: the statements are not yours to turn. If you find one false, say at which input.
  Laid BY PROGRAM, IN A SANDBOX (cutbox-rows.mjs): the forced cells as the released guide's own fill.sh prints them over the translation 76aed3d72196367b… (all of the seat's roots in one cut). By AI agents, Wed Nov 11 2026. No macro, syntax, notation, axiom, sorry.
-/
import Derived.Test.YtkgaonblgclfcaaChecked
import GoSem.Claim
import GoSem.ClaimJoined
import GoSem.ClaimMapViews
import Derived.JoinedTies
import Derived.KernelRfl
namespace Go.Proofs.Ytkgaonblgclfcaa
/- THE CELL 'sum', in the pinned program and in every row, IS THE sha256 OF THE DUMP (.gsa) THAT YtkgaonblgclfcaaProg.lean LOADS. Nothing in Lean hashes anything: it is a label: what it is worth is what the hold of that sum in a sandbox is worth. -/
noncomputable def Try.pinned : Pinned := { name := "ytkgaonblgclfcaa", sum := "76aed3d72196367bb9c06decc2a6d06788f328bf7baafb1e9b78c390b6d4d666", checked := Try.checked }
namespace Rows
def none {H : Type} : Left H := { results := [], args := [] }

/-- 'lombardlaw04.DayNumbers': WHATEVER THE INPUT: true; the input reads as it did. -/
def dayNumbersSpec : ChangeSpec := { name := "dayNumbers", fn := fun _ => fun
  | [d1, d2] => { results := [.lit (.bool true)], args := [d1, d2] }
  | _ => none }
def dayNumbersRow : OpenClaim := { program := "ytkgaonblgclfcaa", sum := "76aed3d72196367bb9c06decc2a6d06788f328bf7baafb1e9b78c390b6d4d666", func := "lombard/lombardlaw04.DayNumbers", spec := "dayNumbers", apart := false }
def DayNumbersSaid : Prop := dayNumbersRow.holds Try.pinned (OpenSpec.ofChange dayNumbersSpec)

/-- ITS FALSE NEIGHBOUR: 'it returns false'. Refute it at one input. -/
def dayNumbersWrong : ChangeSpec := { name := "dayNumbers", fn := fun _ => fun
  | [d1, d2] => { results := [.lit (.bool false)], args := [d1, d2] }
  | _ => none }
def DayNumbersWrongFalsely : Prop := dayNumbersRow.holds Try.pinned (OpenSpec.ofChange dayNumbersWrong)

/-- 'lombardlaw04.DayBack': WHATEVER THE INPUT: true; the input reads as it did. -/
def dayBackSpec : ChangeSpec := { name := "dayBack", fn := fun _ => fun
  | [d1, d2] => { results := [.lit (.bool true)], args := [d1, d2] }
  | _ => none }
def dayBackRow : OpenClaim := { program := "ytkgaonblgclfcaa", sum := "76aed3d72196367bb9c06decc2a6d06788f328bf7baafb1e9b78c390b6d4d666", func := "lombard/lombardlaw04.DayBack", spec := "dayBack", apart := false }
def DayBackSaid : Prop := dayBackRow.holds Try.pinned (OpenSpec.ofChange dayBackSpec)

/-- ITS FALSE NEIGHBOUR: 'it returns false'. Refute it at one input. -/
def dayBackWrong : ChangeSpec := { name := "dayBack", fn := fun _ => fun
  | [d1, d2] => { results := [.lit (.bool false)], args := [d1, d2] }
  | _ => none }
def DayBackWrongFalsely : Prop := dayBackRow.holds Try.pinned (OpenSpec.ofChange dayBackWrong)

/-- 'lombardlaw04.DayNext': WHATEVER THE INPUT: true; the input reads as it did. -/
def dayNextSpec : ChangeSpec := { name := "dayNext", fn := fun _ => fun
  | [d] => { results := [.lit (.bool true)], args := [d] }
  | _ => none }
def dayNextRow : OpenClaim := { program := "ytkgaonblgclfcaa", sum := "76aed3d72196367bb9c06decc2a6d06788f328bf7baafb1e9b78c390b6d4d666", func := "lombard/lombardlaw04.DayNext", spec := "dayNext", apart := false }
def DayNextSaid : Prop := dayNextRow.holds Try.pinned (OpenSpec.ofChange dayNextSpec)

/-- ITS FALSE NEIGHBOUR: 'it returns false'. Refute it at one input. -/
def dayNextWrong : ChangeSpec := { name := "dayNext", fn := fun _ => fun
  | [d] => { results := [.lit (.bool false)], args := [d] }
  | _ => none }
def DayNextWrongFalsely : Prop := dayNextRow.holds Try.pinned (OpenSpec.ofChange dayNextWrong)

/-- 'lombardlaw04.DayAges': WHATEVER THE INPUT: true; the input reads as it did. -/
def dayAgesSpec : ChangeSpec := { name := "dayAges", fn := fun _ => fun
  | [d1, d2] => { results := [.lit (.bool true)], args := [d1, d2] }
  | _ => none }
def dayAgesRow : OpenClaim := { program := "ytkgaonblgclfcaa", sum := "76aed3d72196367bb9c06decc2a6d06788f328bf7baafb1e9b78c390b6d4d666", func := "lombard/lombardlaw04.DayAges", spec := "dayAges", apart := false }
def DayAgesSaid : Prop := dayAgesRow.holds Try.pinned (OpenSpec.ofChange dayAgesSpec)

/-- ITS FALSE NEIGHBOUR: 'it returns false'. Refute it at one input. -/
def dayAgesWrong : ChangeSpec := { name := "dayAges", fn := fun _ => fun
  | [d1, d2] => { results := [.lit (.bool false)], args := [d1, d2] }
  | _ => none }
def DayAgesWrongFalsely : Prop := dayAgesRow.holds Try.pinned (OpenSpec.ofChange dayAgesWrong)

/-- 'lombardlaw04.DayMonths': WHATEVER THE INPUT: true; the input reads as it did. -/
def dayMonthsSpec : ChangeSpec := { name := "dayMonths", fn := fun _ => fun
  | [d] => { results := [.lit (.bool true)], args := [d] }
  | _ => none }
def dayMonthsRow : OpenClaim := { program := "ytkgaonblgclfcaa", sum := "76aed3d72196367bb9c06decc2a6d06788f328bf7baafb1e9b78c390b6d4d666", func := "lombard/lombardlaw04.DayMonths", spec := "dayMonths", apart := false }
def DayMonthsSaid : Prop := dayMonthsRow.holds Try.pinned (OpenSpec.ofChange dayMonthsSpec)

/-- ITS FALSE NEIGHBOUR: 'it returns false'. Refute it at one input. -/
def dayMonthsWrong : ChangeSpec := { name := "dayMonths", fn := fun _ => fun
  | [d] => { results := [.lit (.bool false)], args := [d] }
  | _ => none }
def DayMonthsWrongFalsely : Prop := dayMonthsRow.holds Try.pinned (OpenSpec.ofChange dayMonthsWrong)

/- THE SECOND FORM. 'bulk': how many values and letters a reading holds, each counted each time it is reached (what is shared counts as often as it is met; a slice's spare places count too). A statement '..UptoSaid' is the law's where the arguments, and the package variables that the reading takes, are together of bulk at most 1048576: NARROWER than '..Said'. Prove '..Said' where nothing that the law and all that it calls make is longer than what came in: it says more and counts as full. Else prove '..UptoSaid'. A law counts once. -/
mutual
def uptoBulk {H : Type} : DataW H → Nat
  | .lit (.string bytes) => bytes.length + 1
  | .lit _ => 1
  | .nil => 1
  | .ptr d => uptoBulk d + 1
  | .slice elems spare => uptoBulkAll elems + uptoBulkAll spare + 1
  | .agg parts => uptoBulkAll parts + 1
  | .iface _ d => uptoBulk d + 1
  | .map entries => uptoBulkEntries entries + 1
  | .held _ => 1
def uptoBulkAll {H : Type} : List (DataW H) → Nat
  | [] => 0
  | d :: r => uptoBulk d + uptoBulkAll r
def uptoBulkEntries {H : Type} : List (Lit × DataW H) → Nat
  | [] => 0
  | x :: r => uptoBulkEntry x + uptoBulkEntries r
def uptoBulkEntry {H : Type} : Lit × DataW H → Nat
  | (.string bytes, d) => bytes.length + uptoBulk d + 1
  | (_, d) => uptoBulk d + 1
 end
def uptoSmall : (H : Type) → List (DataW H) → Bool := fun _ ds => decide (uptoBulkAll ds ≤ 1048576)
def OpenSpec.upto (s : _root_.Go.ChangeSpec) : _root_.Go.OpenSpec := { _root_.Go.OpenSpec.ofChange s with cond := some uptoSmall }

/-- 'lombardlaw04.DayNumbers', WHERE WHAT IT READS IS OF BULK AT MOST 1048576: true; the input reads as it did. -/
def dayNumbersUptoRow : OpenClaim := { program := "ytkgaonblgclfcaa", sum := "76aed3d72196367bb9c06decc2a6d06788f328bf7baafb1e9b78c390b6d4d666", func := "lombard/lombardlaw04.DayNumbers", spec := "dayNumbers", apart := false, narrowed := true }
def DayNumbersUptoSaid : Prop := dayNumbersUptoRow.holds Try.pinned (OpenSpec.upto dayNumbersSpec)

/-- 'lombardlaw04.DayBack', WHERE WHAT IT READS IS OF BULK AT MOST 1048576: true; the input reads as it did. -/
def dayBackUptoRow : OpenClaim := { program := "ytkgaonblgclfcaa", sum := "76aed3d72196367bb9c06decc2a6d06788f328bf7baafb1e9b78c390b6d4d666", func := "lombard/lombardlaw04.DayBack", spec := "dayBack", apart := false, narrowed := true }
def DayBackUptoSaid : Prop := dayBackUptoRow.holds Try.pinned (OpenSpec.upto dayBackSpec)

/-- 'lombardlaw04.DayNext', WHERE WHAT IT READS IS OF BULK AT MOST 1048576: true; the input reads as it did. -/
def dayNextUptoRow : OpenClaim := { program := "ytkgaonblgclfcaa", sum := "76aed3d72196367bb9c06decc2a6d06788f328bf7baafb1e9b78c390b6d4d666", func := "lombard/lombardlaw04.DayNext", spec := "dayNext", apart := false, narrowed := true }
def DayNextUptoSaid : Prop := dayNextUptoRow.holds Try.pinned (OpenSpec.upto dayNextSpec)

/-- 'lombardlaw04.DayAges', WHERE WHAT IT READS IS OF BULK AT MOST 1048576: true; the input reads as it did. -/
def dayAgesUptoRow : OpenClaim := { program := "ytkgaonblgclfcaa", sum := "76aed3d72196367bb9c06decc2a6d06788f328bf7baafb1e9b78c390b6d4d666", func := "lombard/lombardlaw04.DayAges", spec := "dayAges", apart := false, narrowed := true }
def DayAgesUptoSaid : Prop := dayAgesUptoRow.holds Try.pinned (OpenSpec.upto dayAgesSpec)

/-- 'lombardlaw04.DayMonths', WHERE WHAT IT READS IS OF BULK AT MOST 1048576: true; the input reads as it did. -/
def dayMonthsUptoRow : OpenClaim := { program := "ytkgaonblgclfcaa", sum := "76aed3d72196367bb9c06decc2a6d06788f328bf7baafb1e9b78c390b6d4d666", func := "lombard/lombardlaw04.DayMonths", spec := "dayMonths", apart := false, narrowed := true }
def DayMonthsUptoSaid : Prop := dayMonthsUptoRow.holds Try.pinned (OpenSpec.upto dayMonthsSpec)

end Rows
end Go.Proofs.Ytkgaonblgclfcaa
