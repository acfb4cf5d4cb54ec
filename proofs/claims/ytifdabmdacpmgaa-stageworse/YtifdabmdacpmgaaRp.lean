/- Runs of marks, plain; rows that grow beside a state. -/
import Derived.Test.YtifdabmdacpmgaaNx
import Derived.Test.YtifdabmdacpmgaaRg
namespace Go.Proofs.Ytifdabmdacpmgaa
open Go.RowKit
set_option linter.unusedVariables false
set_option linter.unusedSimpArgs false
abbrev mkL (m : Mk) : List Value := [.int .i64 m.1, .int .i64 m.2.1, .bool m.2.2]
abbrev mkA (ms : List Mk) (k : Nat) : Mk := ms.getD k (0, 0, false)
/-- The state behind k marks. -/
def stt (ms : List Mk) : Nat → Int × Int
  | 0 => (1, 0)
  | k + 1 => ((nxt (stt ms k).1 (stt ms k).2 (mkA ms k).1 (mkA ms k).2.1 (mkA ms k).2.2).1, (nxt (stt ms k).1 (stt ms k).2 (mkA ms k).1 (mkA ms k).2.1 (mkA ms k).2.2).2.1)
/-- The error at the mark k. -/
def ert (ms : List Mk) (k : Nat) : Int := (nxt (stt ms k).1 (stt ms k).2 (mkA ms k).1 (mkA ms k).2.1 (mkA ms k).2.2).2.2
def fine (ms : List Mk) (k : Nat) : Prop := ∀ j, j < k → ert ms j = 0
def stg (ms : List Mk) (k : Nat) : List Int := (List.range k).map (fun j => (stt ms (j + 1)).1)
theorem stg_succ (ms : List Mk) (k : Nat) : stg ms k ++ [(stt ms (k + 1)).1] = stg ms (k + 1) := by simp [stg, List.range_succ]
theorem stg_len (ms : List Mk) (k : Nat) : (stg ms k).length = k := by simp [stg]
theorem nxt_bd (s g p d : Int) (b : Bool) : (0 ≤ (nxt s g p d b).1 ∧ (nxt s g p d b).1 ≤ 3) ∧ (0 ≤ (nxt s g p d b).2.1 ∧ (nxt s g p d b).2.1 ≤ 2) ∧ ((nxt s g p d b).2.2 = 0 ∨ (nxt s g p d b).2.2 = 2) := by
  unfold nxt
  have h := wst_bd p d b
  split
  · next c =>
    obtain ⟨⟨h1, h2, h3, h4, h5⟩, _⟩ := c
    split
    · exact ⟨⟨by simp; omega, by simp; omega⟩, ⟨by simp, by simp⟩, .inl rfl⟩
    · split
      · exact ⟨⟨by simp; omega, by simp; omega⟩, ⟨by simp, by simp⟩, .inl rfl⟩
      · exact ⟨⟨by simp; omega, by simp; omega⟩, ⟨by simp; omega, by simp; omega⟩, .inl rfl⟩
  · exact ⟨⟨by simp, by simp⟩, ⟨by simp, by simp⟩, .inr rfl⟩
theorem stt_bd (ms : List Mk) (k : Nat) : 0 ≤ (stt ms k).1 ∧ (stt ms k).1 ≤ 3 := by
  cases k with
  | zero => simp [stt]
  | succ k => exact (nxt_bd _ _ _ _ _).1
theorem stt_in (ms : List Mk) (k : Nat) : In64 (stt ms k).1 := by
  have := stt_bd ms k
  exact ⟨by omega, by omega⟩
/-- What Run answers. -/
def RunR (ms : List Mk) (zs : List Int) (e : Int) : Prop := (600 < ms.length ∧ zs = [] ∧ e = 10) ∨ (ms.length ≤ 600 ∧ fine ms ms.length ∧ zs = stg ms ms.length ∧ e = 0) ∨ (ms.length ≤ 600 ∧ ¬ fine ms ms.length ∧ zs = [] ∧ e = 2)
theorem RunR.only {ms : List Mk} {zs ys : List Int} {e f : Int} (h : RunR ms zs e) (k : RunR ms ys f) : zs = ys ∧ e = f := by
  rcases h with ⟨a, rfl, rfl⟩ | ⟨a, b, rfl, rfl⟩ | ⟨a, b, rfl, rfl⟩ <;> rcases k with ⟨c, rfl, rfl⟩ | ⟨c, d, rfl, rfl⟩ | ⟨c, d, rfl, rfl⟩ <;> first | exact ⟨rfl, rfl⟩ | omega | exact absurd b d | exact absurd d b
def RunA (f : Nat) : Prop := ∀ (w : World) (v : Value) (ms : List Mk), RowG 3 w v (ms.map mkL) → Calls Try.prog f #[v] w fun r w' => ∃ u zs e, r = .returned (.tuple #[u, .int .i64 e]) ∧ Below w.heap.size w w' ∧ Row w' u zs ∧ RunR ms zs e
theorem RowG.mark {w : World} {b off n cap : Nat} {ms : List Mk} (h : RowG 3 w (.slice (some ⟨b, off, none⟩) n cap) (ms.map mkL)) {k : Nat} (hk : k < ms.length) : w.cell? ⟨b, off + k * 3, none⟩ = some (.int .i64 (mkA ms k).1) ∧ w.cell? ⟨b, off + k * 3 + 1, none⟩ = some (.int .i64 (mkA ms k).2.1) ∧ w.cell? ⟨b, off + k * 3 + 2, none⟩ = some (.bool (mkA ms k).2.2) := by
  have e : ∀ t, getG (ms.map mkL) k t = (mkL (mkA ms k)).getD t undef := fun t => by simp [getG, List.getD, hk]
  have h0 := h.cells (j := k) (t := 0) (by simpa using hk) (by decide)
  have h1 := h.cells (j := k) (t := 1) (by simpa using hk) (by decide)
  have h2 := h.cells (j := k) (t := 2) (by simpa using hk) (by decide)
  rw [e] at h0 h1 h2
  exact ⟨h0, h1, h2⟩
theorem fit_marks (ms : List Mk) : Fit 3 (ms.map mkL) := fun f hf => by
  obtain ⟨m, _, rfl⟩ := List.mem_map.1 hf
  refine ⟨rfl, fun x hx => ?_⟩
  simp at hx
  rcases hx with rfl | rfl | rfl <;> rfl
theorem fine_more {ms : List Mk} {k : Nat} (h : fine ms k) (e : ert ms k = 0) : fine ms (k + 1) := fun j hj => by
  by_cases c : j = k
  · rw [c]; exact e
  · exact h j (by omega)
/-- A row that grows, and a state beside it. -/
structure RR (w wr : World) (o : Value) (zs : List Int) (s g : Int) : Prop where
  bel : Below w.heap.size w wr
  owns : wr.ownsRow (w.heap.size + 1) 3 1 o zs.length (zs.map (Value.int .i64))
  st : Blk wr w.heap.size #[.int .i64 s, .int .i64 g] 23
  small : ∀ z ∈ zs, In64 z
theorem owns_via {wr w' : World} {B : Nat} {E m : Nat} {v : Value} {n : Nat} {l : List Value} (h : wr.ownsRow B E m v n l) (hk : ∀ k cs T, B ≤ k → Blk wr k cs T → Blk w' k cs T) : w'.ownsRow B E m v n l := by
  obtain ⟨h2, h3⟩ := h
  refine ⟨h2, ?_⟩
  rcases h3 with h3 | ⟨g, cap, cur, e1, e2, e3, e4⟩
  · exact Or.inl h3
  · exact Or.inr ⟨g, cap, cur, e1, e2, hk g _ _ e2 e3, e4⟩
section
variable {w wr w' : World} {o : Value} {zs : List Int} {s g : Int}
theorem RR.keep (h : RR w wr o zs s g) (hb : Below wr.heap.size wr w') : RR w w' o zs s g := ⟨below_via h.bel hb, owns_via h.owns (fun _ _ _ _ hB => hB.keep hb), h.st.keep hb, h.small⟩
theorem RR.put {x y : Int} (h : RR w wr o zs s g) (hB : Blk w' w.heap.size #[.int .i64 x, .int .i64 y] 23) (hp : Past wr w' w.heap.size) : RR w w' o zs x y := ⟨hp.bel (Nat.le_refl _) h.bel, owns_via h.owns (fun k _ _ hk hB => hp.blk (by omega) hB), hB, h.small⟩
theorem RR.row (h : RR w wr o zs s g) (hm : zs.length ≤ maxLen) : Row wr o zs := by
  obtain ⟨h1, h2⟩ := h.owns
  rcases h2 with ⟨rfl, h0⟩ | ⟨g, cap, cur, rfl, _⟩
  · exact Or.inl ⟨none, 0, rfl, List.eq_nil_of_length_eq_zero h0⟩
  · by_cases h0 : zs.length = 0
    · rw [h0]; exact Or.inl ⟨_, cap, rfl, List.eq_nil_of_length_eq_zero h0⟩
    · refine Or.inr ⟨g, 0, cap, rfl, by omega, hm, fun j hj => ?_, h.small⟩
      rw [Nat.zero_add, h.owns.cellAt j (by omega)]
      simp [List.getD, hj]
end
theorem pushR {ops : Array Oper} {rest : List Oper} {o : Oper} {a : Act} {Q : Exit → Act → World → Prop}
    (hgd : o.guard = none) (s x : Operand)
    (ho : o.op = .call { callee := .builtin .append, args := #[s, x], argTypes := #[38, 38] })
    (w wr : World) (v : Value) (zs : List Int) (z S G : Int) (hG : RR w wr v zs S G) (hs : a.eval s = v) (hx : a.eval x = .slice (some ⟨wr.heap.size, 0, none⟩) 1 1)
    (hlen : zs.length ≤ 1000000) (hz : In64 z)
    (h : ∀ v' w', RR w w' v' (zs ++ [z]) S G → wpList Try.prog ops Q rest (a.put o.dst v') w') : wpList Try.prog ops Q (o :: rest) a (wr.alloc (.cells #[.int .i64 z] 3)) := by
  obtain ⟨i0, hi, hz0, hz1, hz2⟩ := info_parts Try.info3
  have hsize := hG.bel.size
  have hlt := hG.st.lt
  have hG2 := hG.keep (below1 wr (.cells #[.int .i64 z] 3))
  refine wpList_append_lies _ hgd s x 38 ho (w.heap.size + 1) 3 i0 (.int .i64 0) 1 8 Try.underlying38 hi hz0 hz1 hz2 rfl (by decide) v zs.length _ hs hG2.owns ⟨wr.heap.size, 0, none⟩ 1 1 [.int .i64 z] hx rfl ?_ ?_ (by decide) (by unfold maxLen; omega) (by omega) (by simp; omega) (wr.heap.size + 1) (by simp) ?_
  · intro j u hj
    match j, hj with
    | 0, hj => simp at hj; subst hj; simp [Addr.add]
  · intro u hu; simp at hu; subst hu; rfl
  · intro g cap w' hown hgrow _ _
    refine h _ w' ⟨?_, ?_, ?_, ?_⟩
    · exact hG2.bel.grown hgrow hG2.bel.size (fun k hk => Nat.le_trans (Nat.le_succ _) (hG2.owns.lt k hk).1)
    · simpa using hown
    · refine (hgrow.block w.heap.size hG2.st.lt (fun c => ?_)).trans hG2.st
      have := (hG2.owns.lt w.heap.size c.symm).1
      omega
    · intro u hu
      rcases List.mem_append.1 hu with hu | hu
      · exact hG.small u hu
      · simp at hu; subst hu; exact hz
/-- Below block P nothing has turned; block P is a row of len numbers, f; behind it lies a state. -/
structure RO (w wr : World) (len : Nat) (f : Nat → Int) (s g : Int) : Prop where
  bel : Below w.heap.size w wr
  row : wr.rowIs w.heap.size 3 len (fun j => .int .i64 (f j))
  st : Blk wr (w.heap.size + 1) #[.int .i64 s, .int .i64 g] 27
theorem rowIs_keep {wr w' : World} {P len : Nat} {f : Nat → Value} (h : wr.rowIs P 3 len f) (hk : ∀ cs T, Blk wr P cs T → Blk w' P cs T) : w'.rowIs P 3 len f := by
  obtain ⟨c, hc, h2⟩ := h
  exact ⟨c, hk _ _ hc, h2⟩
section
variable {w wr w' : World} {len : Nat} {f : Nat → Int} {s g : Int}
theorem RO.keep (h : RO w wr len f s g) (hb : Below wr.heap.size wr w') : RO w w' len f s g := ⟨below_via h.bel hb, rowIs_keep h.row (fun _ _ hB => Blk.keep hB hb), h.st.keep hb⟩
theorem RO.set {x : Nat → Int} (h : RO w wr len f s g) (k : Nat) (v : Int) (hg : ∀ j, (if j = k then v else f j) = x j) : RO w (wr.setCell ⟨w.heap.size, k, none⟩ (.int .i64 v)) len x s g :=
  ⟨h.bel.setCell (Nat.le_refl _) _, (h.row.set k _).congr (fun j _ => by
    by_cases e : j = k
    · rw [if_pos e, ← hg j, if_pos e]
    · rw [if_neg e, ← hg j, if_neg e]), h.st.other (by omega) _ _⟩
theorem RO.put {x y : Int} (h : RO w wr len f s g) (hB : Blk w' (w.heap.size + 1) #[.int .i64 x, .int .i64 y] 27) (hp : Past wr w' (w.heap.size + 1)) : RO w w' len f x y := ⟨hp.bel (by omega) h.bel, rowIs_keep h.row (fun _ _ hB => hp.blk (by omega) hB), hB⟩
theorem RO.put2 (h : RO w wr len f s g) (x y : Int) : RO w ((wr.setCell ⟨w.heap.size + 1, 0, none⟩ (.int .i64 x)).setCell ⟨w.heap.size + 1, 1, none⟩ (.int .i64 y)) len f x y :=
  ⟨(h.bel.setCell (p := ⟨w.heap.size + 1, 0, none⟩) (Nat.le_succ _) _).setCell (p := ⟨w.heap.size + 1, 1, none⟩) (Nat.le_succ _) _, rowIs_keep h.row (fun _ _ hB => Blk.other (Blk.other hB (by omega) _ _) (by omega) _ _), (h.st.set 0 _).set 1 _⟩
theorem RO.drew1 (h : RO w wr len f s g) : RO w wr.drew len f s g := h.keep (Below.refl _ _).drew
theorem RO.asRow {cap : Nat} (h : RO w wr len f s g) (hm : len ≤ maxLen) (hf : ∀ j, In64 (f j)) : Row wr (.slice (some ⟨w.heap.size, 0, none⟩) len cap) ((List.range len).map f) := by
  by_cases h0 : len = 0
  · subst h0; exact Or.inl ⟨_, cap, rfl, rfl⟩
  · refine Or.inr ⟨w.heap.size, 0, cap, by simp, by simp; omega, by simpa using hm, fun j hj => ?_, fun z hz => ?_⟩
    · have hj' : j < len := by simpa using hj
      rw [Nat.zero_add, h.row.cell hj']
      simp [List.getD, hj']
    · obtain ⟨j, _, rfl⟩ := List.mem_map.1 hz
      exact hf j
end
end Go.Proofs.Ytifdabmdacpmgaa
