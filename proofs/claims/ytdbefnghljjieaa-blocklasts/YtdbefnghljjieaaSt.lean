/- settle, its three ways. -/
import Derived.Test.YtdbefnghljjieaaLf
import Derived.Deep.RegionHeld
import Derived.Deep.RegionHeld3
import Derived.BigRegion
namespace Go.Proofs.Ytdbefnghljjieaa
open Go.RowKit
set_option linter.unusedVariables false
set_option linter.unusedSimpArgs false
theorem get_set {α : Type} {l : List α} {k : Nat} (h : k < l.length) : ∃ x, l[k]? = some x := ⟨l[k], by simp [h]⟩
/-- A place is written. -/
theorem Sto.put {Y : Lay} {w w' : World} {bs bp : Nat} {vq : Value} {A : Stt} (h : Sto Y w bs bp vq A) {j : Nat} {x : Option (List Nat)} (hj : j < A.L.length) (hx : Good64 x) (hB : Blk w' bp (setsN ((A.L.map Y.pc).flatten).toArray (j * 65) (Y.pc x)) Y.TP) (hb : But (fun k => k = bp) w w') : Sto Y w' bs bp vq ⟨A.L.set j x, A.W⟩ := by
  rw [sets_flat (fit_map h.good.l) (by rw [List.length_map]; exact hj) (Y.pl x hx)] at hB
  have hs := hb.blk h.s h.n1
  refine ⟨?_, ?_, own_keep h.q hb (fun k e c => h.n3 (by rw [e, c])), h.n1, h.n2, h.n3, ⟨?_, ?_, ?_, ?_, h.good.n2⟩⟩
  · simp only [List.length_set]; exact hs
  · rw [List.map_set]; exact hB
  · rw [List.length_set]; exact h.good.n0
  · rw [List.length_set]; exact h.good.n1
  · intro y hy
    rcases List.mem_or_eq_of_mem_set hy with hy | rfl
    · exact h.good.l y hy
    · exact hx
  · intro q hq
    rw [List.length_set]
    exact h.good.w q hq
theorem Sto.room {Y : Lay} {w : World} {bs bp : Nat} {vq : Value} {A : Stt} (h : Sto Y w bs bp vq A) {j : Nat} (hj : j < A.L.length) : j * 65 + 65 ≤ ((A.L.map Y.pc).flatten).toArray.size := by
  have e := flat_len (m := 65) (l := A.L.map Y.pc) (fun f hf => ⟨fit_map h.good.l f hf, fun x hx => by
    obtain ⟨y, _, rfl⟩ := List.mem_map.1 hf
    exact Y.p1 y x hx⟩)
  rw [List.size_toArray, e, List.length_map]
  have := Nat.mul_le_mul_right 65 (show j + 1 ≤ A.L.length by omega)
  omega
def setL (fate : Nat) (q : Nat × List Nat) (A : Stt) : Stt := if fate = 1 then ⟨A.L.set q.1 (some q.2), A.W⟩ else if fate = 2 then ⟨A.L.set q.1 none, A.W⟩ else A
/-- Builds of many cells. -/
theorem fold_sets (l : List Value) : ∀ (k off : Nat) (cs : Array Value), (l.zipIdx k).foldl (fun cs (x : Value × Nat) => cs.setIfInBounds (off + x.2) x.1) cs = setsN cs (off + k) l := by
  induction l with
  | nil => intro k off cs; rfl
  | cons v r ih =>
    intro k off cs
    rw [List.zipIdx_cons, List.foldl_cons, ih (k + 1) off, setsN]
    rfl
theorem fill_cons {place : Nat → Option (Nat × Nat)} {cells : Array Value} {i off n : Nat} {v : Value} {vs : List Value} {rest : List (Nat × Value)} (hv : v.cells = vs.toArray) (hp : place i = some (off, n)) (hn : vs.length = n) (ho : off + n ≤ cells.size) : Instr.fill place cells ((i, v) :: rest) = Instr.fill place (setsN cells off vs) rest := by
  rw [Instr.fill]
  simp only [hp, hv]
  rw [if_neg (by simp [hn]; omega)]
  congr 1
  have := fold_sets vs 0 off cells
  rw [Nat.add_zero] at this
  rw [← this, ← Array.foldl_toList]
  simp
theorem sets_mid (p o s v : List Value) (h : o.length = v.length) : setsN (p ++ o ++ s).toArray p.length v = (p ++ v ++ s).toArray := by
  apply Array.ext_getElem?
  intro j
  rw [sets_get _ _ _ _ (by simp; omega)]
  simp only [List.getElem?_toArray, List.append_assoc]
  by_cases h1 : j < p.length
  · rw [if_neg (by omega), List.getElem?_append_left h1, List.getElem?_append_left h1]
  · have hj : p.length ≤ j := by omega
    rw [List.getElem?_append_right hj, List.getElem?_append_right hj]
    by_cases h2 : j < p.length + v.length
    · have hv : j - p.length < v.length := by omega
      rw [if_pos ⟨hj, h2⟩, List.getElem?_append_left hv]
    · have hv : v.length ≤ j - p.length := by omega
      have ho : o.length ≤ j - p.length := by omega
      rw [if_neg (by omega), List.getElem?_append_right hv, List.getElem?_append_right ho, h]
theorem built76 (l : List (Nat × Value)) : Try.prog.built 76 l = Instr.fill (fun i => #[(0, 1), (1, 64)][i]?) (plV (some zs64)).toArray l := by kernel_rfl
theorem built68 (l : List (Nat × Value)) : Try.prog.built 68 l = Instr.fill (fun i => #[(0, 64), (64, 1)][i]?) (rbV (some zs64)).toArray l := by kernel_rfl
theorem built70 (l : List (Nat × Value)) : Try.prog.built 70 l = Instr.fill (fun i => #[(0, 1), (1, 64)][i]?) (wrV (0, zs64)).toArray l := by kernel_rfl
theorem built66 (l : List (Nat × Value)) : Try.prog.built 66 l = Instr.fill (fun i => #[(0, 1), (1, 64)][i]?) (wrV (0, zs64)).toArray l := by kernel_rfl
theorem bd76a (l : List Nat) (hl : l.length = 64) : Try.prog.built 76 [(1, bk l)] = some (plV (some l)).toArray := by
  rw [built76, fill_cons (vs := byv l) rfl rfl (by rw [byv_len, hl]) (by rw [List.size_toArray, plV_len (some zs64) zs_len]; exact Nat.le_refl _), Instr.fill]
  have := sets_mid [.bool false] (byv zs64) [] (byv l) (by rw [byv_len, byv_len, zs_len, hl])
  simpa [plV] using this
theorem bd76b : Try.prog.built 76 [(0, .bool true)] = some (plV none).toArray := by kernel_rfl
theorem bd68a (l : List Nat) (hl : l.length = 64) : Try.prog.built 68 [(0, bk l)] = some (rbV (some l)).toArray := by
  rw [built68, fill_cons (vs := byv l) rfl rfl (by rw [byv_len, hl]) (by rw [List.size_toArray, rbV_len (some zs64) zs_len]; decide), Instr.fill]
  have := sets_mid [] (byv zs64) [.bool false] (byv l) (by rw [byv_len, byv_len, zs_len, hl])
  simpa [rbV] using this
theorem bd68b : Try.prog.built 68 [(1, .bool true)] = some (rbV none).toArray := by kernel_rfl
theorem bdw (n : Nat) (l : List Nat) (hl : l.length = 64) : Instr.fill (fun i => #[(0, 1), (1, 64)][i]?) (wrV (0, zs64)).toArray [(0, .int .i64 (n : Int)), (1, bk l)] = some (wrV (n, l)).toArray := by
  have h1 := sets_mid [] [.int .i64 (0 : Nat)] (byv zs64) [.int .i64 (n : Int)] rfl
  rw [fill_cons (vs := [.int .i64 (n : Int)]) rfl rfl rfl (by simp [wrV_len, zs_len])]
  rw [show setsN (wrV (0, zs64)).toArray 0 [.int .i64 (n : Int)] = (wrV (n, zs64)).toArray by simpa [wrV] using h1]
  rw [fill_cons (vs := byv l) rfl rfl (by rw [byv_len, hl]) (by rw [List.size_toArray, wrV_len]; simp [zs_len]), Instr.fill]
  have := sets_mid [.int .i64 (n : Int)] (byv zs64) [] (byv l) (by rw [byv_len, byv_len, zs_len, hl])
  simpa [wrV] using this
theorem bd70 (n : Nat) (l : List Nat) (hl : l.length = 64) : Try.prog.built 70 [(0, .int .i64 (n : Int)), (1, bk l)] = some (wrV (n, l)).toArray := by rw [built70, bdw n l hl]
theorem bd66 (n : Nat) (l : List Nat) (hl : l.length = 64) : Try.prog.built 66 [(0, .int .i64 (n : Int)), (1, bk l)] = some (wrV (n, l)).toArray := by rw [built66, bdw n l hl]
theorem bd45 : Try.prog.built 45 [] = some (byv zs64).toArray := by kernel_rfl
theorem bd37 : Try.prog.built 37 [] = some (byv zs64).toArray := by kernel_rfl
def l7 : List Nat := 7 :: List.replicate 63 0
theorem bd7 : Try.prog.built 45 [(0, .int .u8 7)] = some (byv l7).toArray := by kernel_rfl
theorem build_rg {ops : Array Oper} {rest : List Oper} {o : Oper} {a : Act} {w : World} {Q : Exit → Act → World → Prop} (hgd : o.guard = none) (t : TypeId) (parts : Array (Nat × Operand)) (ho : o.op = .build t parts) {l : List (Nat × Value)} {cells : Array Value} (hl : (parts.map fun (i, x) => (i, a.eval x)).toList = l) (hb : Try.prog.built t l = some cells)
    (h : wpList Try.prog ops Q rest (a.put o.dst (.agg cells)) w) : wpList Try.prog ops Q (o :: rest) a w :=
  wpList_plain hgd fun K hK => wp_build t parts ho (by rw [hl, hb]; rfl) (by rw [hl, hb]; exact hK _ _ h)
theorem yl_build {ops : Array Oper} {S : World → Prop} {o : Oper} {a : Act} (hw : Region.wanted o (yielded ops a.tmps) = true) (t : TypeId) (parts : Array (Nat × Operand)) (ho : o.op = .build t parts) {l : List (Nat × Value)} {cells : Array Value} (hl : (parts.map fun (i, x) => (i, a.eval x)).toList = l) (hb : Try.prog.built t l = some cells) : YieldsIf Try.prog ops S o (.agg cells) a :=
  .inl ⟨hw, fun W _ => by
    unfold execOp
    have hc : Try.prog.built t (parts.map fun (i, x) => (i, a.eval x)).toList = some cells := by rw [hl, hb]
    simp only [ho, Sem.run_bind, run_build W t _ cells hc, Result.andThen_ok, Sem.run_pure]⟩
end Go.Proofs.Ytdbefnghljjieaa
