/- Equal bytes and batches are the same. -/
import Derived.Test.YtfahgphkceilkaaAl
import Derived.Test.YtfahgphkceilkaaAr
namespace Go.Proofs.Ytfahgphkceilkaa
open Go.RowKit
set_option linter.unusedVariables false
set_option linter.unusedSimpArgs false
theorem yl_blk {ops : Array Oper} {S : World → Prop} {op : Oper} {a : Act} (hw : Region.wanted op (yielded ops a.tmps) = true) (ty : TypeId) (x : Operand) (ho : op.op = .load ty x) {b : Nat} {cs : Array Value} {T : TypeId} (hx : a.eval x = .pointer (some ⟨b, 0, none⟩)) (hS : ∀ W, S W → Blk W b cs T) (hr : isRowB Try.prog ty = true) {n : Nat} (hi : (Try.prog.info? ty).map (·.size) = some n) (hn : cs.size = n) : YieldsIf Try.prog ops S op (.agg cs) a := by
  unfold isRowB at hr
  split at hr
  · next d hu => exact yieldsIf_load_mid hw ty x ho b 0 hx cs.toList d (fun W h => (hS W h).range) hu hr (by rw [hi, ← hn]; simp)
  · cases hr
theorem noPanic_out {Q : Exit → Act → World → Prop} {a : Act} {w : World} (h : Q .normal a w) : NoPanic Q .normal a w := h
theorem beq_to (v u : Value) (xs : List Nat) (w : World) (h : RowG 1 w v (bys xs)) (h' : RowG 1 w u (bys xs)) :
    Calls Try.prog 13 #[v, u] w fun e w' => e = .returned (.bool true) ∧ Below w.heap.size w w' :=
  (beq_any v u xs xs w h h').mono fun e w' ⟨he, n, hn⟩ => by
    subst hn
    exact ⟨by rw [he, eqB_refl], ⟨rfl, rfl, rfl, Nat.le_refl _, fun _ _ => rfl⟩⟩
theorem eqb_to (s e : Int) (v v' : Value) (l : List Li) (w : World) (h : RowG 2 w v (l.map liL)) (h' : RowG 2 w v' (l.map liL)) : Calls Try.prog 20 #[.agg #[.int .i64 s, .int .i64 e, v], .agg #[.int .i64 s, .int .i64 e, v']] w fun r w' => r = .returned (.bool true) ∧ Below w.heap.size w w' :=
  (eqb_any s e s e v v' l l w h h').mono fun r w' ⟨h1, h2⟩ => ⟨by rw [h1, eqBt_l, sameL_refl], h2⟩
theorem sum_to (v : Value) (xs : List Nat) (w : World) (h : RowG 1 w v (bys xs)) (hb : Bytes xs) : Calls Try.prog 16 #[v] w fun e w' => e = .returned (.int .u32 (crcSum xs : Nat)) ∧ Below w.heap.size w w' :=
  (sum_any v xs w h hb).mono fun e w' ⟨h1, h2⟩ => ⟨h1, by rw [h2]; exact Below.refl _ _⟩
theorem rsum_to (v : Value) (xs : List Nat) (w : World) (h : RowG 1 w v (bys xs)) (hb : Bytes xs) : Calls Try.prog 17 #[v] w fun e w' => e = .returned (.int .u32 (crcSum xs : Nat)) ∧ Below w.heap.size w w' :=
  (rsum_any v xs w h hb).mono fun e w' ⟨h1, h2⟩ => ⟨h1, by rw [h2]; exact Below.refl _ _⟩
theorem getL_len (xs : List Nat) (hb : Bytes xs) : (getL xs).length ≤ 10000 := by
  unfold getL
  split
  · have := getD_lt hb 10
    rw [lisN, linesB_len]
    omega
  · simp
end Go.Proofs.Ytfahgphkceilkaa
