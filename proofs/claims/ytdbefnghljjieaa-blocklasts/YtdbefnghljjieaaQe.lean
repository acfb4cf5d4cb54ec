/- Blocks compared; an array of blocks. -/
import Derived.Test.YtdbefnghljjieaaDq
import Derived.Laws.StructEq
namespace Go.Proofs.Ytdbefnghljjieaa
open Go.RowKit
set_option linter.unusedVariables false
set_option linter.unusedSimpArgs false
theorem run_eqN (d : Nat) (t e n : Nat) (ht : Try.prog.underlying t = some (.array n e)) (he : Try.prog.underlying e = some (.int .u8)) (hsz : ∀ w, (sizeOf e).run Try.prog w = .ok 1 w) (xs : List Nat) (hx : xs.length = n) (w : World) :
    (Op.equalIn (d + 2) t (.agg (byv xs).toArray) (.agg (byv xs).toArray)).run Try.prog w = .ok true w := by
  rw [Op.equalIn]
  simp only [Sem.run_bind, run_underlying ht, Result.andThen_ok, hsz, Std.Legacy.Range.forIn_eq_forIn_range', Std.Legacy.Range.size, Nat.sub_zero, Nat.add_sub_cancel, Nat.div_one]
  have hl : ∀ i ∈ List.range' 0 n 1, i < n := fun i hi => by simpa using (List.mem_range'_1.1 hi).2
  generalize List.range' 0 n 1 = l at hl ⊢
  induction l with
  | nil => simp
  | cons i l ih =>
    have hi : i < n := hl i (by simp)
    have px : (part e (byv xs).toArray (i * 1)).run Try.prog w = .ok (.int .u8 (xs.getD i 0 : Nat)) w := by
      simp [part, isAgg, run_underlying he, List.getD, List.getElem?_eq_getElem (show i < xs.length by omega), byv]
    have pe : (Op.equalIn (d + 1) e (.int .u8 (xs.getD i 0 : Nat)) (.int .u8 (xs.getD i 0 : Nat))).run Try.prog w = .ok true w := by
      rw [run_equalIn_int w d e .u8 .u8 _ _ he]
      simp
    simp only [List.forIn_cons, Sem.run_bind, px, pe, Result.andThen_ok]
    simp only [Bool.not_true, Bool.false_eq_true, if_false, Sem.run_pure, Result.andThen_ok]
    exact ih fun j hj => hl j (by simp [hj])
theorem sz5 (w : World) : (sizeOf 5).run Try.prog w = .ok 1 w := by kernel_rfl
theorem neq45 (l : List Nat) (h : l.length = 64) (w : World) : Sem.run Try.prog (binOp .neq 45 (bk l) (bk l)) w = .ok (.bool false) w := by
  have k := run_eqN 9998 45 5 64 (by kernel_rfl) (by kernel_rfl) sz5 l h w
  simp only [binOp]
  simp [Op.equal, Op.maxDepth, k]
theorem neq37 (l : List Nat) (h : l.length = 64) (w : World) : Sem.run Try.prog (binOp .neq 37 (bk l) (bk l)) w = .ok (.bool false) w := by
  have k := run_eqN 9998 37 5 64 (by kernel_rfl) (by kernel_rfl) sz5 l h w
  simp only [binOp]
  simp [Op.equal, Op.maxDepth, k]
theorem eq45 (l : List Nat) (h : l.length = 64) (w : World) : (Op.equalIn 10000 45 (bk l) (bk l)).run Try.prog w = .ok true w := run_eqN 9998 45 5 64 (by kernel_rfl) (by kernel_rfl) sz5 l h w
theorem eq37 (l : List Nat) (h : l.length = 64) (w : World) : (Op.equalIn 10000 37 (bk l) (bk l)).run Try.prog w = .ok true w := run_eqN 9998 37 5 64 (by kernel_rfl) (by kernel_rfl) sz5 l h w
theorem gd45 : Try.prog.eqGuardType Try.prog.depth 45 = false := by kernel_rfl
theorem gd37 : Try.prog.eqGuardType Try.prog.depth 37 = false := by kernel_rfl
/-- Thirty blocks. -/
def bks (l : List (List Nat)) : List Value := (l.map byv).flatten
def L64 (l : List (List Nat)) : Prop := l.length = 30 ∧ ∀ x ∈ l, x.length = 64
def zs30 : List (List Nat) := List.replicate 30 zs64
theorem zs30_ok : L64 zs30 := ⟨List.length_replicate, fun x hx => by rw [(List.mem_replicate.1 hx).2]; exact zs_len⟩
theorem bks_fit {l : List (List Nat)} (h : L64 l) : ∀ f ∈ l.map byv, f.length = 64 := fun f hf => by
  obtain ⟨x, hx, rfl⟩ := List.mem_map.1 hf
  rw [byv_len, h.2 x hx]
theorem bks_len {l : List (List Nat)} (h : L64 l) : (bks l).length = 1920 := by
  have e := flat_len (m := 64) (l := l.map byv) (fun f hf => ⟨bks_fit h f hf, fun x hx => by
    obtain ⟨y, _, rfl⟩ := List.mem_map.1 hf
    exact one_byv y x hx⟩)
  rw [bks, e, List.length_map, h.1]
theorem L64.set {l : List (List Nat)} (h : L64 l) {k : Nat} {x : List Nat} (hx : x.length = 64) : L64 (l.set k x) := ⟨by rw [List.length_set, h.1], fun y hy => by
  rcases List.mem_or_eq_of_mem_set hy with hy | rfl
  · exact h.2 y hy
  · exact hx⟩
theorem bks_set {l : List (List Nat)} (h : L64 l) {k : Nat} (hk : k < 30) {x : List Nat} (hx : x.length = 64) : setsN (bks l).toArray (k * 64) (byv x) = (bks (l.set k x)).toArray := by
  unfold bks
  rw [sets_flat (bks_fit h) (by rw [List.length_map, h.1]; exact hk) (by rw [byv_len, hx]), List.map_set]
theorem bks_at {l : List (List Nat)} (h : L64 l) {k : Nat} {x : List Nat} (hk : l[k]? = some x) : (bks l).toArray.extract (k * 64) (k * 64 + 64) = (byv x).toArray := by
  have hx : (byv x).length = 64 := by rw [byv_len, h.2 x (List.mem_of_getElem? hk)]
  have f := flat_part (m := 64) (L := l.map byv) (bks_fit h) (k := k) (f := byv x) (by rw [List.getElem?_map, hk]; rfl)
  apply Array.ext_getElem?
  intro j
  rw [Array.getElem?_extract]
  by_cases hj : j < 64
  · have hv : (byv x)[j]? = some ((byv x)[j]'(by omega)) := List.getElem?_eq_getElem (by omega)
    have g := f j _ hv
    have hlt : k * 64 + j < (bks l).length := (List.getElem?_eq_some_iff.1 g).1
    rw [if_pos (by rw [List.size_toArray]; omega), List.getElem?_toArray, List.getElem?_toArray, hv]
    exact g
  · rw [if_neg (by rw [List.size_toArray]; omega), List.getElem?_toArray, List.getElem?_eq_none (by omega)]
theorem ix53 {l : List (List Nat)} (h : L64 l) {k : Nat} {x : List Nat} (hk : l[k]? = some x) (w : World) : (Instr.index 53 (.agg (bks l).toArray) (.int .i64 (k : Int))).run Try.prog w = .ok (bk x) w := by
  have hlt : (k : Int) < 30 := by have := (List.getElem?_eq_some_iff.1 hk).1; rw [h.1] at this; omega
  have h0 : (0 : Int) ≤ (k : Int) := by omega
  have s45 : (sizeOf 45).run Try.prog w = .ok 64 w := by kernel_rfl
  have a45 : (isAgg 45).run Try.prog w = .ok true w := by kernel_rfl
  have u53 : Try.prog.underlying 53 = some (.array 30 45) := by kernel_rfl
  have e := bks_at h hk
  have e2 : (List.take 64 (List.drop (k * 64) (bks l))).toArray = (byv x).toArray := by rw [← e]; simp
  have hk2 : k < 30 := by omega
  simp [Instr.index, asIntOf, run_underlying u53, hk2, h0, part, s45, a45, Sem.run_bind, Result.andThen]
  simpa using e2
theorem al53 (w : World) : (Instr.alloc 53 true (.tuple #[])).run Try.prog w = .ok (.pointer (some ⟨w.heap.size, 0, none⟩)) (w.alloc (.cells (bks zs30).toArray 53)) := by kernel_rfl
end Go.Proofs.Ytdbefnghljjieaa
