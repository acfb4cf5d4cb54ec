/- Rows, and three rows, are what they are. -/
import Derived.Test.YtkccladbcehdbaaRp
namespace Go.Proofs.Ytkccladbcehdbaa
open Go.RowKit
set_option linter.unusedVariables false
set_option linter.unusedSimpArgs false
theorem eqr26 (d : Nat) (r : Rw) (w : World) : (Op.equalIn (d + 2) 26 (.agg (cells6 r)) (.agg (cells6 r))).run Try.prog w = .ok true w := by
  have ht : Try.prog.underlying 26 = some (.struct (Try.prog.fieldsOf 26)) := by kernel_rfl
  have hp : Try.prog.stoodInHeld 26 = false := by kernel_rfl
  have hf := TypeDesc.struct.inj (Option.some.inj (ht.symm.trans Try.underlying26))
  rw [run_equalIn_agg w (d + 1) 26 _ _ ht hp, hf]
  simp [Op.eqFields, Go.part, isAgg, go_sem, Try.underlying2]
theorem eq26 (r : Rw) (w : World) : Sem.run Try.prog (binOp .eql 26 (.agg (cells6 r)) (.agg (cells6 r))) w = .ok (.bool true) w := by
  have k := eqr26 9998 r w
  simp only [binOp]
  simp [Op.equal, Op.maxDepth, k]
theorem ne26 (r : Rw) (w : World) : Sem.run Try.prog (binOp .neq 26 (.agg (cells6 r)) (.agg (cells6 r))) w = .ok (.bool false) w := by
  have k := eqr26 9998 r w
  simp only [binOp]
  simp [Op.equal, Op.maxDepth, k]
theorem eqr33 (d : Nat) (r : Rw) (w : World) : (Op.equalIn (d + 2) 33 (.agg (cells6 r)) (.agg (cells6 r))).run Try.prog w = .ok true w := by
  have ht : Try.prog.underlying 33 = some (.struct (Try.prog.fieldsOf 33)) := by kernel_rfl
  have hp : Try.prog.stoodInHeld 33 = false := by kernel_rfl
  have hf := TypeDesc.struct.inj (Option.some.inj (ht.symm.trans Try.underlying33))
  rw [run_equalIn_agg w (d + 1) 33 _ _ ht hp, hf]
  simp [Op.eqFields, Go.part, isAgg, go_sem, Try.underlying2]
theorem eq33 (r : Rw) (w : World) : Sem.run Try.prog (binOp .eql 33 (.agg (cells6 r)) (.agg (cells6 r))) w = .ok (.bool true) w := by
  have k := eqr33 9998 r w
  simp only [binOp]
  simp [Op.equal, Op.maxDepth, k]
theorem ne33 (r : Rw) (w : World) : Sem.run Try.prog (binOp .neq 33 (.agg (cells6 r)) (.agg (cells6 r))) w = .ok (.bool false) w := by
  have k := eqr33 9998 r w
  simp only [binOp]
  simp [Op.equal, Op.maxDepth, k]
theorem pt27_0 (r s t : Rw) (w : World) : (part 26 (cells18 r s t) 0).run Try.prog w = .ok (.agg (cells6 r)) w := by kernel_rfl
theorem pt27_1 (r s t : Rw) (w : World) : (part 26 (cells18 r s t) 6).run Try.prog w = .ok (.agg (cells6 s)) w := by kernel_rfl
theorem pt27_2 (r s t : Rw) (w : World) : (part 26 (cells18 r s t) 12).run Try.prog w = .ok (.agg (cells6 t)) w := by kernel_rfl
theorem eqr27 (d : Nat) (r s t : Rw) (w : World) : (Op.equalIn (d + 3) 27 (.agg (cells18 r s t)) (.agg (cells18 r s t))).run Try.prog w = .ok true w := by
  rw [Op.equalIn.eq_def]
  simp [run_underlying Try.underlying27, Result.andThen, eqr26, pt27_0, pt27_1, pt27_2, List.range']
theorem eq27 (r s t : Rw) (w : World) : Sem.run Try.prog (binOp .eql 27 (.agg (cells18 r s t)) (.agg (cells18 r s t))) w = .ok (.bool true) w := by
  have k := eqr27 9997 r s t w
  simp only [binOp]
  simp [Op.equal, Op.maxDepth, k]
theorem pt34_0 (r s t : Rw) (w : World) : (part 33 (cells18 r s t) 0).run Try.prog w = .ok (.agg (cells6 r)) w := by kernel_rfl
theorem pt34_1 (r s t : Rw) (w : World) : (part 33 (cells18 r s t) 6).run Try.prog w = .ok (.agg (cells6 s)) w := by kernel_rfl
theorem pt34_2 (r s t : Rw) (w : World) : (part 33 (cells18 r s t) 12).run Try.prog w = .ok (.agg (cells6 t)) w := by kernel_rfl
theorem eqr34 (d : Nat) (r s t : Rw) (w : World) : (Op.equalIn (d + 3) 34 (.agg (cells18 r s t)) (.agg (cells18 r s t))).run Try.prog w = .ok true w := by
  rw [Op.equalIn.eq_def]
  simp [run_underlying Try.underlying34, Result.andThen, eqr33, pt34_0, pt34_1, pt34_2, List.range']
theorem eq34 (r s t : Rw) (w : World) : Sem.run Try.prog (binOp .eql 34 (.agg (cells18 r s t)) (.agg (cells18 r s t))) w = .ok (.bool true) w := by
  have k := eqr34 9997 r s t w
  simp only [binOp]
  simp [Op.equal, Op.maxDepth, k]
theorem yl_blk {ops : Array Oper} {S : World → Prop} {op : Oper} {a : Act} (hw : Region.wanted op (yielded ops a.tmps) = true) (ty : TypeId) (x : Operand) (ho : op.op = .load ty x) {b : Nat} {cs : Array Value} {T : TypeId} (hx : a.eval x = .pointer (some ⟨b, 0, none⟩)) (hS : ∀ W, S W → Blk W b cs T) (hr : isRowB Try.prog ty = true) {n : Nat} (hi : (Try.prog.info? ty).map (·.size) = some n) (hn : cs.size = n) : YieldsIf Try.prog ops S op (.agg cs) a := by
  unfold isRowB at hr
  split at hr
  · next d hu => exact yieldsIf_load_mid hw ty x ho b 0 hx cs.toList d (fun W h => (hS W h).range) hu hr (by rw [hi, ← hn]; simp)
  · cases hr
end Go.Proofs.Ytkccladbcehdbaa
