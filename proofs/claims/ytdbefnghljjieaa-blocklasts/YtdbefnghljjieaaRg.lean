/- Rows of structs of one-cell values: such as come in, such as are appended to. -/
import Derived.Test.YtdbefnghljjieaaBas
namespace Go.Proofs.Ytdbefnghljjieaa
open Go.RowKit
set_option linter.unusedVariables false
set_option linter.unusedSimpArgs false
/-- Elements of m one-cell values each. -/
def Fit (m : Nat) (l : List (List Value)) : Prop := ∀ f ∈ l, f.length = m ∧ ∀ x ∈ f, x.oneCell' = true
abbrev getG (l : List (List Value)) (j t : Nat) : Value := (l.getD j []).getD t undef
/-- The slice value v leads, in the world w, to the elements l (a nil or empty one to none). -/
def RowG (m : Nat) (w : World) (v : Value) (l : List (List Value)) : Prop :=
  (∃ a cap, v = .slice a 0 cap ∧ l = [] ∧ (a = none → cap = 0)) ∨
  ∃ b off cap, v = .slice (some ⟨b, off, none⟩) l.length cap ∧ 0 < l.length ∧ l.length ≤ cap ∧ cap ≤ maxLen ∧ (∀ j, j < l.length → ∀ t, t < m → w.cell? ⟨b, off + j * m + t, none⟩ = some (getG l j t)) ∧ Fit m l
section
variable {m : Nat} {w w' : World} {v : Value} {l : List (List Value)}
theorem rowG_slice (h : RowG m w v l) : ∃ a cap, v = .slice a l.length cap := by
  rcases h with ⟨a, cap, rfl, rfl, _⟩ | ⟨b, off, cap, rfl, _⟩
  · exact ⟨a, cap, rfl⟩
  · exact ⟨_, cap, rfl⟩
theorem rowG_len {a : Option Addr} {n c : Nat} (h : RowG m w (.slice a n c) l) : n = l.length := by
  obtain ⟨a', c', e⟩ := rowG_slice h
  cases e
  rfl
theorem RowG.fit (h : RowG m w v l) : Fit m l := by
  rcases h with ⟨a, cap, rfl, rfl, _⟩ | ⟨b, off, cap, rfl, _, _, _, _, h⟩
  · intro f hf; cases hf
  · exact h
theorem RowG.keep (h : RowG m w v l) (hb : Below w.heap.size w w') : RowG m w' v l := by
  rcases h with h | ⟨b, off, cap, h1, h2, h3, h6, h4, h5⟩
  · exact Or.inl h
  · exact Or.inr ⟨b, off, cap, h1, h2, h3, h6, fun j hj t ht => (hb.cell (p := ⟨b, off + j * m + t, none⟩) (lt_of_cell (h4 j hj t ht))).trans (h4 j hj t ht), h5⟩
theorem RowG.alloc (h : RowG m w v l) (o : Obj) : RowG m (w.alloc o) v l := h.keep ((Below.refl w.heap.size w).alloc (Nat.le_refl _) o)
theorem RowG.cells {b off n cap : Nat} (h : RowG m w (.slice (some ⟨b, off, none⟩) n cap) l) {j t : Nat} (hj : j < l.length) (ht : t < m) : w.cell? ⟨b, off + j * m + t, none⟩ = some (getG l j t) := by
  rcases h with ⟨a, c, h1, h2, _⟩ | ⟨b', off', c, h1, _, _, _, h2, _⟩
  · rw [h2] at hj; exact absurd hj (Nat.not_lt_zero j)
  · cases h1
    exact h2 j hj t ht
theorem RowG.open (h : RowG m w v l) (h0 : 0 < l.length) : ∃ b off cap, v = .slice (some ⟨b, off, none⟩) l.length cap ∧ l.length ≤ cap ∧ cap ≤ maxLen := by
  rcases h with ⟨a, c, h1, h2, _⟩ | ⟨b', off', c, h1, _, h2, h3, _⟩
  · rw [h2] at h0; exact absurd h0 (Nat.not_lt_zero _)
  · exact ⟨b', off', c, h1, h2, h3⟩
end
theorem flat_len {m : Nat} {l : List (List Value)} (h : Fit m l) : l.flatten.length = l.length * m := by
  induction l with
  | nil => simp
  | cons f r ih =>
    have h1 := (h f List.mem_cons_self).1
    have h2 := ih (fun g hg => h g (List.mem_cons_of_mem _ hg))
    simp only [List.flatten_cons, List.length_append, List.length_cons, h1, h2, Nat.add_mul]
    omega
theorem flat_at {m : Nat} {l : List (List Value)} (h : Fit m l) : ∀ j t, j < l.length → t < m → l.flatten[j * m + t]? = some (getG l j t) := by
  induction l with
  | nil => intro j t hj; simp at hj
  | cons f r ih =>
    intro j t hj ht
    have h1 := (h f List.mem_cons_self).1
    cases j with
    | zero =>
      have : t < f.length := by omega
      rw [Nat.zero_mul, Nat.zero_add]
      simp only [List.flatten_cons]
      rw [List.getElem?_append_left this]
      simp [getG, List.getD, this]
    | succ j =>
      have hi := ih (fun g hg => h g (List.mem_cons_of_mem _ hg)) j t (by simpa using hj) ht
      simp only [List.flatten_cons]
      rw [List.getElem?_append_right (by simp [h1, Nat.add_mul]; omega)]
      have e : (j + 1) * m + t - f.length = j * m + t := by simp [h1, Nat.add_mul]; omega
      rw [e, hi]
      simp [getG, List.getD]
theorem flat_one {m : Nat} {l : List (List Value)} (h : Fit m l) : ∀ u ∈ l.flatten, u.oneCell' = true := by
  intro u hu
  obtain ⟨f, hf, hx⟩ := List.mem_flatten.1 hu
  exact (h f hf).2 u hx
theorem Fit.append {m : Nat} {l k : List (List Value)} (h : Fit m l) (h' : Fit m k) : Fit m (l ++ k) := fun f hf => by
  rcases List.mem_append.1 hf with hf | hf
  · exact h f hf
  · exact h' f hf
/-- Since the world w, below its end nothing has turned; the slice value v owns the elements l, in memory that is new since; their type is E. -/
structure GrowG (E : TypeId) (m : Nat) (w wr : World) (v : Value) (l : List (List Value)) : Prop where
  below : Below w.heap.size w wr
  owns : wr.ownsRow w.heap.size E m v l.length l.flatten
  fit : Fit m l
section
variable {E : TypeId} {m : Nat} {w wr wr' : World} {v : Value} {l : List (List Value)}
theorem GrowG.nil (E : TypeId) (m : Nat) (w wr : World) (h : Below w.heap.size w wr) : GrowG E m w wr (.slice none 0 0) [] :=
  ⟨h, World.ownsRow_nil _ _ _ _, fun f hf => by cases hf⟩
theorem GrowG.keep (h : GrowG E m w wr v l) (hb : Below wr.heap.size wr wr') : GrowG E m w wr' v l := by
  obtain ⟨h1, ⟨h2, h3⟩, h4⟩ := h
  refine ⟨below_via h1 hb, ⟨h2, ?_⟩, h4⟩
  rcases h3 with h3 | ⟨g, cap, cur, e1, e2, e3, e4⟩
  · exact Or.inl h3
  · exact Or.inr ⟨g, cap, cur, e1, e2, (hb.block g (Array.getElem?_eq_some_iff.1 e3).1).trans e3, e4⟩
theorem GrowG.alloc (h : GrowG E m w wr v l) (o : Obj) : GrowG E m w (wr.alloc o) v l := h.keep ((Below.refl wr.heap.size wr).alloc (Nat.le_refl _) o)
theorem GrowG.row (h : GrowG E m w wr v l) : RowG m wr v l := by
  obtain ⟨h1, h2⟩ := h.owns
  rcases h2 with ⟨rfl, h0⟩ | ⟨g, cap, cur, rfl, _, _, h5, h6, _⟩
  · exact Or.inl ⟨none, 0, rfl, List.eq_nil_of_length_eq_zero h0, fun _ => rfl⟩
  · by_cases h0 : l.length = 0
    · rw [h0]; exact Or.inl ⟨_, cap, rfl, List.eq_nil_of_length_eq_zero h0, fun c => (by cases c)⟩
    · refine Or.inr ⟨g, 0, cap, rfl, by omega, h5, h6, fun j hj t ht => ?_, h.fit⟩
      have hlt : j * m + t < l.length * m := by
        have : (j + 1) * m ≤ l.length * m := Nat.mul_le_mul_right m (by omega)
        rw [Nat.add_mul] at this
        omega
      rw [Nat.zero_add, h.owns.cellAt (j * m + t) (by omega)]
      exact flat_at h.fit j t hj ht
end
/-- Append of elements, that lie in memory at a. -/
theorem pushG_law {ops : Array Oper} {rest : List Oper} {o : Oper} {a : Act} {Q : Exit → Act → World → Prop} (E T : TypeId) (m bytes : Nat) (z : Value) (hm : 0 < m) (hb : bytes ≤ 1000) (hz : z.cells.size = m) (hu : Try.prog.underlying T = some (.slice E)) (hinfo : (Try.prog.info? E).map (fun i => (i.zero, i.size, i.bytes)) = some (some z, m, bytes))
    (hgd : o.guard = none) (s x : Operand)
    (ho : o.op = .call { callee := .builtin .append, args := #[s, x], argTypes := #[T, T] })
    (w wr : World) (v : Value) (l k : List (List Value)) {ad : Addr} {c n : Nat} (hG : GrowG E m w wr v l) (hs : a.eval s = v) (hn : n = k.length) (hk : 0 < k.length) (hx : a.eval x = .slice (some ad) n c)
    (hc : ∀ j u, k.flatten[j]? = some u → wr.cell? (ad.add j) = some u) (hf : Fit m k) (hlen : l.length + k.length ≤ 1000000)
    (h : ∀ v' w', GrowG E m w w' v' (l ++ k) → wr.grownBy w' v.ownBlock → wpList Try.prog ops Q rest (a.put o.dst v') w') : wpList Try.prog ops Q (o :: rest) a wr := by
  obtain ⟨i0, hi, hz0, hz1, hz2⟩ := info_parts hinfo
  have hsize := hG.below.size
  have hb2 : (l.length + k.length) * bytes ≤ 140737488355328 := Nat.le_trans (Nat.mul_le_mul hlen hb) (by decide)
  subst hn
  refine wpList_append_lies _ hgd s x T ho w.heap.size E i0 z m bytes hu hi hz0 hz1 hz2 hz hm v l.length _ hs hG.owns ad k.length c k.flatten hx (flat_len hf) hc (flat_one hf) hk (by unfold maxLen; omega) hb2 (by omega) wr.heap.size rfl ?_
  intro g cap w' hown hgrow hg _
  refine h _ w' ⟨?_, ?_, hG.fit.append hf⟩ hgrow
  · exact hG.below.grown hgrow hG.below.size (fun k hk => (hG.owns.lt k hk).1)
  · rw [List.flatten_append, List.length_append]
    exact hown
/-- One element, in a block of its own. -/
theorem one_cells {w : World} {b : Nat} {cs : Array Value} {T : TypeId} (h : Blk w b cs T) : ∀ j u, [cs.toList].flatten[j]? = some u → w.cell? ((⟨b, 0, none⟩ : Addr).add j) = some u := fun j u hu => by
  have e : [cs.toList].flatten = cs.toList := by simp
  rw [e] at hu
  exact World.news_of_block h j u hu
theorem row_cells {m : Nat} {w : World} {b off n cap : Nat} {l : List (List Value)} (h : RowG m w (.slice (some ⟨b, off, none⟩) n cap) l) (hm : 0 < m) : ∀ j u, l.flatten[j]? = some u → w.cell? ((⟨b, off, none⟩ : Addr).add j) = some u := fun j u hu => by
  have hl : j < l.length * m := by
    rw [← flat_len h.fit]
    exact (List.getElem?_eq_some_iff.1 hu).1
  have hd : j / m < l.length := Nat.div_lt_of_lt_mul (by rw [Nat.mul_comm]; exact hl)
  have ht : j % m < m := Nat.mod_lt _ hm
  have e : j / m * m + j % m = j := by rw [Nat.mul_comm]; exact Nat.div_add_mod j m
  have f := flat_at h.fit (j / m) (j % m) hd ht
  have c := h.cells hd ht
  rw [e, hu] at f
  rw [Nat.add_assoc, e] at c
  have g := Option.some.inj f
  rw [Addr.add_lit, c, g]
theorem take_getD {α : Type} {l : List α} {d : α} {k : Nat} (h : k < l.length) : l.take k ++ [l.getD k d] = l.take (k + 1) := by
  rw [List.take_succ_eq_append_getElem h]
  simp [List.getD, h]
end Go.Proofs.Ytdbefnghljjieaa
