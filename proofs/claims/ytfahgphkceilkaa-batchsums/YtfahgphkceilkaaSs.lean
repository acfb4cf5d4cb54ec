/- BatchSums' rows. -/
import Derived.Test.YtfahgphkceilkaaYl
import Derived.Laws.OwnMore
import Derived.Laws.Cover1
import Derived.Deep.RegionHeld
import Derived.Deep.RegionHeld3
import Derived.Deep.QuietTactic
import Derived.BigQuiet
namespace Go.Proofs.Ytfahgphkceilkaa
open Go.RowKit
set_option linter.unusedVariables false
set_option linter.unusedSimpArgs false
theorem set_by {w : World} {g cp k c : Nat} {xs : List Nat} {cur : Array Value} (h : RowG 1 w (.slice (some ⟨g, 0, none⟩) xs.length cp) (bys xs)) (hg : w.heap[g]? = some (.cells cur 5 (0, 0))) (hk : k < xs.length) : RowG 1 (w.setCell ⟨g, k, none⟩ (.int .u8 (c : Int))) (.slice (some ⟨g, 0, none⟩) xs.length cp) (bys (xs.set k c)) := by
  obtain ⟨b, off, cap, e1, hle, hmax⟩ := h.open (by rw [bys_len]; omega)
  injection e1 with e1 e2 e3
  injection e1 with e1
  injection e1 with e4 e5
  subst e4 e5 e3
  refine Or.inr ⟨g, 0, cp, by rw [bys_len, List.length_set], by rw [bys_len, List.length_set]; omega, by rw [bys_len, List.length_set]; rw [bys_len] at hle; exact hle, hmax, fun j hj t ht => ?_, fit_by _⟩
  rw [bys_len, List.length_set] at hj
  obtain rfl : t = 0 := by omega
  rw [getG_by _ (by rw [List.length_set]; exact hj)]
  have hc := h.by hj
  have hB : Blk w g cur 5 := hg
  have hS := hB.set k (.int .u8 (c : Int))
  rw [cell_of_row _ g _ _ _ _ hS]
  rw [cell_of_row _ g _ _ _ _ hB] at hc
  rw [show 0 + j * 1 + 0 = j by omega, Array.getElem?_setIfInBounds]
  rw [Nat.zero_add] at hc
  have hs : j < cur.size := (Array.getElem?_eq_some_iff.1 hc).1
  by_cases q : k = j
  · subst q
    simp [hs, List.getD, hk]
  · rw [if_neg q, hc]
    simp [List.getD, List.getElem?_set, q]
abbrev zc (K : Nat) : Array Value := madeCells (Value.int .u8 0).cells (K * 1)
theorem made2 (K : Nat) (hK : K ≤ 500) (w : World) : (Instr.makeSlice 25 (.int .i64 (K : Int)) (.int .i64 (K : Int))).run Try.prog w = .ok (.slice (some ⟨w.heap.size, 0, none⟩) K K) (w.alloc (.cells (zc K) 5)) := by
  obtain ⟨i0, hi, hz0, hz1, hz2⟩ := info_parts info5
  have := run_make (P := Try.prog) w 25 5 i0 (.int .u8 0) Try.underlying25 hi hz0 .i64 .i64 (K : Int) (K : Int) (by omega) (Int.le_refl _) (by rw [hz2]; omega) (by omega)
  rw [hz1, Int.toNat_natCast] at this
  exact this
theorem zc_row {w : World} {g K : Nat} (h : Blk w g (zc K) 5) (hK : K ≤ 500) : RowG 1 w (.slice (some ⟨g, 0, none⟩) K K) (bys (List.replicate K 0)) := by
  by_cases h0 : K = 0
  · subst h0
    exact Or.inl ⟨_, _, rfl, rfl, fun e => by cases e⟩
  refine Or.inr ⟨g, 0, K, by rw [bys_len, List.length_replicate], by rw [bys_len, List.length_replicate]; omega, by rw [bys_len, List.length_replicate]; exact Nat.le_refl _, by unfold maxLen; omega, fun j hj t ht => ?_, fit_by _⟩
  rw [bys_len, List.length_replicate] at hj
  obtain rfl : t = 0 := by omega
  rw [getG_by _ (by rw [List.length_replicate]; exact hj), cell_of_row _ g _ _ _ _ h, show 0 + j * 1 + 0 = j by omega, ← Array.getElem?_toList, show zc K = madeCells #[Value.int .u8 0] (K * 1) from rfl, toList_madeCells_one, Nat.mul_one]
  simp [List.getD, hj]
def upX (a b : List Nat) (K k : Nat) : List Nat := xorL (a.take k) (b.take k) ++ List.replicate (K - k) 0
theorem xorL_app : ∀ (a b c d : List Nat), a.length = b.length → xorL (a ++ c) (b ++ d) = xorL a b ++ xorL c d
  | [], [], _, _, _ => rfl
  | x :: a, y :: b, c, d, h => by
    rw [List.cons_append, List.cons_append, xorL_cons, xorL_cons, xorL_app a b c d (by simpa using h), List.cons_append]
theorem upX_len {a b : List Nat} {K k : Nat} (ha : K ≤ a.length) (hb : K ≤ b.length) (hk : k ≤ K) : (upX a b K k).length = K := by
  unfold upX
  rw [List.length_append, xorL_len _ _ (by rw [List.length_take, List.length_take]; omega), List.length_take, List.length_replicate]
  omega
theorem take_next (l : List Nat) {k : Nat} (h : k < l.length) : l.take (k + 1) = l.take k ++ [l.getD k 0] := by
  rw [List.take_add_one]
  simp [List.getD, h]
theorem upX_next {a b : List Nat} {K k : Nat} (ha : K ≤ a.length) (hb : K ≤ b.length) (hk : k < K) : (upX a b K k).set k (a.getD k 0 ^^^ b.getD k 0) = upX a b K (k + 1) := by
  have hl : (xorL (a.take k) (b.take k)).length = k := by
    rw [xorL_len _ _ (by rw [List.length_take, List.length_take]; omega), List.length_take]
    omega
  unfold upX
  rw [take_next a (by omega), take_next b (by omega), xorL_app _ _ _ _ (by rw [List.length_take, List.length_take]; omega), List.set_append_right _ _ (by omega), hl, Nat.sub_self, show K - k = (K - (k + 1)) + 1 by omega, List.replicate_succ, List.set_cons_zero, List.append_assoc]
  rfl
theorem upX_all {a b : List Nat} {K : Nat} : upX a b K K = xorL (a.take K) (b.take K) := by
  unfold upX
  rw [Nat.sub_self]
  simp
theorem xorL_bytes : ∀ (a b : List Nat), Bytes a → Bytes b → Bytes (xorL a b)
  | [], [], _, _ => fun c h => by cases h
  | [], _ :: _, _, _ => fun c h => by cases h
  | _ :: _, [], _, _ => fun c h => by cases h
  | x :: a, y :: b, ha, hb => fun c h => by
    rw [xorL_cons] at h
    rcases List.mem_cons.1 h with rfl | h
    · exact Nat.xor_lt_two_pow (n := 8) (ha x List.mem_cons_self) (hb y List.mem_cons_self)
    · exact xorL_bytes a b (fun d hd => ha d (List.mem_cons_of_mem _ hd)) (fun d hd => hb d (List.mem_cons_of_mem _ hd)) c h
/-- The loop's world: the first k bytes of the one new row are reckoned, the other row is noughts. -/
structure SS (w wr : World) (b1 b2 K : Nat) (a b : List Nat) (k : Nat) : Prop where
  below : Below w.heap.size w wr
  row : RowG 1 wr (.slice (some ⟨b1, 0, none⟩) K K) (bys (upX a b K k))
  blk : ∃ cur, Blk wr b1 cur 5
  nil0 : Blk wr b2 (zc K) 5
theorem SS.next {w wr : World} {b1 b2 K k : Nat} {a b : List Nat} (h : SS w wr b1 b2 K a b k) (ha : K ≤ a.length) (hb : K ≤ b.length) (hk : k < K) (h1 : w.heap.size ≤ b1) (hne : b1 ≠ b2) : SS w (wr.setCell ⟨b1, k, none⟩ (.int .u8 ((a.getD k 0 ^^^ b.getD k 0 : Nat) : Int))) b1 b2 K a b (k + 1) := by
  obtain ⟨q1, q2, ⟨cur, q3⟩, q4⟩ := h
  refine ⟨q1.setCell (p := ⟨b1, k, Option.none⟩) h1 _, ?_, ⟨_, q3.set k _⟩, q4.other (fun e => hne e.symm) k _⟩
  have hl := upX_len (k := k) ha hb (by omega)
  rw [← upX_next ha hb hk]
  have := set_by (c := a.getD k 0 ^^^ b.getD k 0) (k := k) (xs := upX a b K k) (by rw [hl]; exact q2) q3 (by rw [hl]; exact hk)
  rw [hl] at this
  exact this
theorem SS.begin {w wr : World} {b1 b2 K : Nat} {a b : List Nat} (hb : Below w.heap.size w wr) (h1 : Blk wr b1 (zc K) 5) (h2 : Blk wr b2 (zc K) 5) (hK : K ≤ 500) : SS w wr b1 b2 K a b 0 := by
  refine ⟨hb, ?_, ⟨_, h1⟩, h2⟩
  have := zc_row h1 hK
  simpa [upX, xorL] using this
theorem SS.drewn {w wr : World} {b1 b2 K k : Nat} {a b : List Nat} (h : SS w wr b1 b2 K a b k) : SS w wr.drew b1 b2 K a b k :=
  ⟨h.below.trans (show Below w.heap.size wr wr.drew from ⟨rfl, rfl, rfl, Nat.le_refl _, fun _ _ => rfl⟩), h.row, h.blk, h.nil0⟩
theorem min_k {n n1 K : Nat} (h : K = min (min n n1) 500) (W : World) : (Builtin.min_ #[3, 3, 3] 3 #[.int .i64 (n : Int), .int .i64 (n1 : Int), .int .i64 500]).run Try.prog W = .ok (.int .i64 (K : Int)) W := by
  rw [run_min_int3, h]
  congr 2
  split <;> split <;> omega
set_option maxRecDepth 20000 in
set_option maxHeartbeats 8000000 in
theorem sreg4 {Q : Exit → Act → World → Prop} {x0 x1 x2 x3 x4 x6 x7 x8 x9 x10 x11 x12 x13 x14 x15 x16 x17 x18 x19 x20 x21 x22 x23 x24 x25 x26 x27 x28 x29 x30 x31 x32 x33 x34 x35 x36 x37 x38 x39 x40 x41 x42 x43 x44 x45 x46 x47 x48 x49 x50 x51 : Value} {K : Nat} {V : World} (hK5 : K ≤ 500)
    (h : ∀ (b1 b2 : Nat) (W : World), b1 ≠ b2 → V.heap.size ≤ b1 → V.heap.size ≤ b2 → Below V.heap.size V W → Blk W b1 (zc K) 5 → Blk W b2 (zc K) 5 → Q .normal ⟨List.toArray (x0 :: x1 :: x2 :: x3 :: x4 :: (.int .i64 (K : Int) : Value) :: (.slice (some ⟨b1, 0, none⟩) K K : Value) :: (.slice (some ⟨b2, 0, none⟩) K K : Value) :: x8 :: x9 :: x10 :: x11 :: x12 :: x13 :: x14 :: x15 :: (.int .i64 (K : Int) : Value) :: (.slice (some ⟨b1, 0, none⟩) K K : Value) :: (.int .i64 (K : Int) : Value) :: (.slice (some ⟨b2, 0, none⟩) K K : Value) :: x20 :: x21 :: x22 :: x23 :: x24 :: x25 :: x26 :: x27 :: x28 :: x29 :: x30 :: x31 :: x32 :: x33 :: x34 :: x35 :: x36 :: x37 :: x38 :: x39 :: x40 :: x41 :: x42 :: x43 :: x44 :: x45 :: x46 :: x47 :: x48 :: x49 :: x50 :: x51 :: []), []⟩ W) :
    Code.wp Try.prog ((Try.f7.body.bind (regionAt 4)).getD .skip) Q ⟨List.toArray (x0 :: x1 :: x2 :: x3 :: x4 :: (.int .i64 (K : Int) : Value) :: x6 :: x7 :: x8 :: x9 :: x10 :: x11 :: x12 :: x13 :: x14 :: x15 :: x16 :: x17 :: x18 :: x19 :: x20 :: x21 :: x22 :: x23 :: x24 :: x25 :: x26 :: x27 :: x28 :: x29 :: x30 :: x31 :: x32 :: x33 :: x34 :: x35 :: x36 :: x37 :: x38 :: x39 :: x40 :: x41 :: x42 :: x43 :: x44 :: x45 :: x46 :: x47 :: x48 :: x49 :: x50 :: x51 :: []), []⟩ V := by
  have H := hide h
  have hmk := made2 K hK5
  clear h
  conv => arg 2; whnf
  refine wp_region_noPanic ?_
  refine wp_region_held_drew (S := fun W => Below V.heap.size V W) (by kernel_rfl) (Below.refl _ _).drew (fun hS => ?_)
  generalize V.drew = V0 at *
  refine anyH_at (i := 0) (v := .int .i64 (K : Int)) 16 rfl (by kernel_rfl) (by kernel_rfl) (by kernel_rfl) (by kernel_rfl) (fun _ _ _ h => h) (Or.inl ⟨by kernel_rfl, fun W hS => by go_simp⟩) hS ?_
  try simp only [Act.put, List.setIfInBounds_toArray, List.set_cons_zero, List.set_cons_succ]
  refine anyH_at (i := 2) (v := .int .i64 (K : Int)) 18 rfl (by kernel_rfl) (by kernel_rfl) (by kernel_rfl) (by kernel_rfl) (fun _ _ _ h => h) (Or.inl ⟨by kernel_rfl, fun W hS => by go_simp⟩) hS ?_
  try simp only [Act.put, List.setIfInBounds_toArray, List.set_cons_zero, List.set_cons_succ]
  refine wpAnyH_all (rs := [1, 3]) (by kernel_rfl) (by simp) (AllReadyH.cons (i := 1) rfl (fun KK hK => ?_) (AllReadyH.cons (i := 3) rfl (fun KK hK => ?_) AllReadyH.nil))
  · rw [if_pos (by kernel_rfl)]
    have hS1 := hide (below_via hS (below1 V0 (.cells (zc K) 5)))
    have X1 := hide (Blk.new V0 (zc K) 5)
    have h1 := hide hS.size
    clear hS
    go_wp2_with fail
    refine hK.out _ _ (unhide hS1) (fun hS => ?_)
    clear hK hS1
    try simp only [Act.put, List.setIfInBounds_toArray, List.set_cons_zero, List.set_cons_succ]
    have h2 := hide hS.size
    have hlt := hide (show Blk _ _ _ _ from unhide X1).lt
    generalize V0.alloc (.cells (zc K) 5) = V1 at *
    generalize V0.heap.size = g1 at *
    refine anyH_at (i := 4) (v := .slice (some ⟨g1, 0, none⟩) K K) 6 rfl (by kernel_rfl) (by kernel_rfl) (by kernel_rfl) (by kernel_rfl) (fun _ _ _ h => h) (Or.inl ⟨by kernel_rfl, fun W hS => by go_simp⟩) hS ?_
    try simp only [Act.put, List.setIfInBounds_toArray, List.set_cons_zero, List.set_cons_succ]
    refine wpAnyH_all (rs := [3]) (by kernel_rfl) (by simp) (AllReadyH.cons (i := 3) rfl (fun KK hK => ?_) AllReadyH.nil)
    rw [if_pos (by kernel_rfl)]
    have hS1 := hide (below_via hS (below1 V1 (.cells (zc K) 5)))
    have X2 := hide (Blk.new V1 (zc K) 5)
    replace X1 := hide ((show Blk _ _ _ _ from unhide X1).alloc (.cells (zc K) 5))
    clear hS
    go_wp2_with fail
    refine hK.out _ _ (unhide hS1) (fun hS => ?_)
    clear hK hS1
    try simp only [Act.put, List.setIfInBounds_toArray, List.set_cons_zero, List.set_cons_succ]
    generalize V1.alloc (.cells (zc K) 5) = V2 at *
    generalize V1.heap.size = g2 at *
    refine anyH_at (i := 5) (v := .slice (some ⟨g2, 0, none⟩) K K) 7 rfl (by kernel_rfl) (by kernel_rfl) (by kernel_rfl) (by kernel_rfl) (fun _ _ _ h => h) (Or.inl ⟨by kernel_rfl, fun W hS => by go_simp⟩) hS ?_
    try simp only [Act.put, List.setIfInBounds_toArray, List.set_cons_zero, List.set_cons_succ]
    refine wpAnyH_done (by kernel_rfl) ?_ _
    exact unhide H g1 g2 _ (by have := unhide hlt; omega) (unhide h1) (unhide h2) hS (unhide X1) (unhide X2)
  · rw [if_pos (by kernel_rfl)]
    have hS1 := hide (below_via hS (below1 V0 (.cells (zc K) 5)))
    have X1 := hide (Blk.new V0 (zc K) 5)
    have h1 := hide hS.size
    clear hS
    go_wp2_with fail
    refine hK.out _ _ (unhide hS1) (fun hS => ?_)
    clear hK hS1
    try simp only [Act.put, List.setIfInBounds_toArray, List.set_cons_zero, List.set_cons_succ]
    have h2 := hide hS.size
    have hlt := hide (show Blk _ _ _ _ from unhide X1).lt
    generalize V0.alloc (.cells (zc K) 5) = V1 at *
    generalize V0.heap.size = g1 at *
    refine wpAnyH_all (rs := [1]) (by kernel_rfl) (by simp) (AllReadyH.cons (i := 1) rfl (fun KK hK => ?_) AllReadyH.nil)
    rw [if_pos (by kernel_rfl)]
    have hS1 := hide (below_via hS (below1 V1 (.cells (zc K) 5)))
    have X2 := hide (Blk.new V1 (zc K) 5)
    replace X1 := hide ((show Blk _ _ _ _ from unhide X1).alloc (.cells (zc K) 5))
    clear hS
    go_wp2_with fail
    refine hK.out _ _ (unhide hS1) (fun hS => ?_)
    clear hK hS1
    try simp only [Act.put, List.setIfInBounds_toArray, List.set_cons_zero, List.set_cons_succ]
    generalize V1.alloc (.cells (zc K) 5) = V2 at *
    generalize V1.heap.size = g2 at *
    refine anyH_at (i := 4) (v := .slice (some ⟨g2, 0, none⟩) K K) 6 rfl (by kernel_rfl) (by kernel_rfl) (by kernel_rfl) (by kernel_rfl) (fun _ _ _ h => h) (Or.inl ⟨by kernel_rfl, fun W hS => by go_simp⟩) hS ?_
    try simp only [Act.put, List.setIfInBounds_toArray, List.set_cons_zero, List.set_cons_succ]
    refine anyH_at (i := 5) (v := .slice (some ⟨g1, 0, none⟩) K K) 7 rfl (by kernel_rfl) (by kernel_rfl) (by kernel_rfl) (by kernel_rfl) (fun _ _ _ h => h) (Or.inl ⟨by kernel_rfl, fun W hS => by go_simp⟩) hS ?_
    try simp only [Act.put, List.setIfInBounds_toArray, List.set_cons_zero, List.set_cons_succ]
    refine wpAnyH_done (by kernel_rfl) ?_ _
    exact unhide H g2 g1 _ (by have := unhide hlt; omega) (unhide h2) (unhide h1) hS (unhide X2) (unhide X1)
end Go.Proofs.Ytfahgphkceilkaa
