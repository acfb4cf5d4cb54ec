/- A row as six numbers, and back. -/
import Derived.Test.YtkccladbcehdbaaTo
import Derived.Test.YtkccladbcehdbaaEq
namespace Go.Proofs.Ytkccladbcehdbaa
open Go.RowKit
set_option linter.unusedVariables false
set_option linter.unusedSimpArgs false
theorem size60 : (Try.prog.info? 60).map (·.size) = some 6 := by kernel_rfl
theorem row60 : isRowB Try.prog 60 = true := by kernel_rfl
theorem num_any (r : Rw) (w : World) : Calls Try.prog 23 #[.agg (cells6 r)] w fun e w' => e = .returned (.agg (cells6 r)) ∧ Below w.heap.size w w' := by
  have HY : Hid (Blk ((w.alloc (.cells (cells6 r) 26)).alloc (.cells (cells6 r) 60)) (w.heap.size + 1) (cells6 r) 60) := hide (by have := Blk.new (w.alloc (.cells (cells6 r) 26)) (cells6 r) 60; simpa using this)
  have HB := hide (below_via (below1 w (.cells (cells6 r) 26)) (below1 _ (.cells (cells6 r) 60)))
  go_enter Try.func23, Try.ntmps23
  go_wp2_with fail
  exact bodyPost_ret (v := .agg (cells6 r)) (res_c (cs0 := cells6 r) rfl (unhide HY) row60 size60 rfl rfl) rfl ⟨rfl, unhide HB⟩
theorem rowof_any (r : Rw) (w : World) : Calls Try.prog 25 #[.agg (cells6 r)] w fun e w' => e = .returned (.agg (cells6 r)) ∧ Below w.heap.size w w' := by
  have HY : Hid (Blk ((w.alloc (.cells (cells6 r) 60)).alloc (.cells (cells6 r) 26)) (w.heap.size + 1) (cells6 r) 26) := hide (by have := Blk.new (w.alloc (.cells (cells6 r) 60)) (cells6 r) 26; simpa using this)
  have HB := hide (below_via (below1 w (.cells (cells6 r) 60)) (below1 _ (.cells (cells6 r) 26)))
  go_enter Try.func25, Try.ntmps25
  go_wp2_with fail
  exact bodyPost_ret (v := .agg (cells6 r)) (res_c (cs0 := cells6 r) rfl (unhide HY) row26 size26 rfl rfl) rfl ⟨rfl, unhide HB⟩
end Go.Proofs.Ytkccladbcehdbaa
