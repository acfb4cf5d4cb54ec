/- What is kept but some blocks; many cells by ranges; a store's blocks. -/
import Derived.Test.YtdbefnghljjieaaRg
import Derived.Deep.MidRow
namespace Go.Proofs.Ytdbefnghljjieaa
open Go.RowKit
set_option linter.unusedVariables false
set_option linter.unusedSimpArgs false
/-- But the blocks F nothing has turned. -/
structure But (F : Nat → Prop) (w w' : World) : Prop where
  os : w'.os = w.os
  tape : w'.tape = w.tape
  output : w'.output = w.output
  size : w.heap.size ≤ w'.heap.size
  block : ∀ k, k < w.heap.size → ¬ F k → w'.heap[k]? = w.heap[k]?
section
variable {F G : Nat → Prop} {a b c w w' : World}
theorem But.refl (F : Nat → Prop) (w : World) : But F w w := ⟨rfl, rfl, rfl, Nat.le_refl _, fun _ _ _ => rfl⟩
theorem But.trans (h : But F a b) (k : But G b c) (hF : ∀ x, G x → F x ∨ a.heap.size ≤ x) : But F a c :=
  ⟨k.os.trans h.os, k.tape.trans h.tape, k.output.trans h.output, Nat.le_trans h.size k.size, fun x hx hn => (k.block x (Nat.lt_of_lt_of_le hx h.size) (fun g => (hF x g).elim hn (fun e => by omega))).trans (h.block x hx hn)⟩
theorem but_of (h : Below w.heap.size w w') (F : Nat → Prop) : But F w w' := ⟨h.os, h.tape, h.output, h.size, fun k hk _ => h.block k hk⟩
theorem But.below (h : But F w w') {B : Nat} (hF : ∀ k, F k → B ≤ k) (hB : B ≤ w.heap.size) : Below B w w' := ⟨h.os, h.tape, h.output, h.size, fun k hk => h.block k (by omega) (fun f => by have := hF k f; omega)⟩
theorem But.blk {x : Nat} {cs : Array Value} {T : TypeId} (h : But F w w') (hB : Blk w x cs T) (hn : ¬ F x) : Blk w' x cs T := (h.block x hB.lt hn).trans hB
theorem But.mono (h : But F w w') (hG : ∀ k, k < w.heap.size → F k → G k) : But G w w' := ⟨h.os, h.tape, h.output, h.size, fun k hk hn => h.block k hk (fun f => hn (hG k hk f))⟩
theorem But.cell {p : Addr} (h : But F w w') (hp : p.block < w.heap.size) (hn : ¬ F p.block) : w'.cell? p = w.cell? p := World.cell?_of_block (w := w) (h.block _ hp hn)
end
theorem but_grown {w w' : World} {v : Value} (h : w.grownBy w' v.ownBlock) : But (fun k => v.ownBlock = some k) w w' := ⟨h.os, h.tape, h.output, h.size, fun k hk hn => h.block k hk (fun e => hn e.symm)⟩
theorem setCells_size (b : Nat) : ∀ (vs : List Value) (o : Nat) (w : World), (w.setCells b o vs).heap.size = w.heap.size
  | [], _, _ => rfl
  | v :: vs, o, w => by rw [World.setCells, setCells_size b vs]; simp [World.setCell]
theorem but_setCells {b : Nat} : ∀ (vs : List Value) (o : Nat) (w : World), But (fun k => k = b) w (w.setCells b o vs)
  | [], _, w => But.refl _ _
  | v :: vs, o, w => by
    have h : But (fun k => k = b) w (w.setCell ⟨b, o, none⟩ v) := ⟨rfl, rfl, rfl, by simp [World.setCell], fun k _ hk => Below.heap_setCell w _ v k hk⟩
    rw [World.setCells]
    exact h.trans (but_setCells vs (o + 1) _) (fun x hx => Or.inl hx)
section
variable {w w' : World} {b o : Nat} {xs ys : List Value}
theorem range_left (h : w.rangeAt b o (xs ++ ys)) : w.rangeAt b o xs := fun j v hv => h j v (by rw [List.getElem?_append_left (List.getElem?_eq_some_iff.1 hv).1]; exact hv)
theorem range_right (h : w.rangeAt b o (xs ++ ys)) : w.rangeAt b (o + xs.length) ys := fun j v hv => by
  rw [Nat.add_assoc]
  exact h (xs.length + j) v (by rw [List.getElem?_append_right (Nat.le_add_right _ _), Nat.add_sub_cancel_left]; exact hv)
theorem range_tail {x : Value} (h : w.rangeAt b o (x :: ys)) : w.rangeAt b (o + 1) ys := range_right (xs := [x]) h
theorem range_head {x : Value} (h : w.rangeAt b o (x :: ys)) : w.cell? ⟨b, o, none⟩ = some x := h 0 x rfl
end
theorem Blk.rg {w : World} {b : Nat} {l : List Value} {T : TypeId} (h : Blk w b l.toArray T) : w.rangeAt b 0 l := by
  have := h.range
  simpa using this
theorem Blk.part {w : World} {b : Nat} {l : List Value} {T : TypeId} (h : Blk w b l.toArray T) {o : Nat} {xs : List Value} (hx : ∀ j v, xs[j]? = some v → l[o + j]? = some v) : w.rangeAt b o xs := fun j v hv => by
  rw [cell_of_row w b (o + j) _ _ _ h]
  simpa using hx j v hv
theorem Blk.thereAt {w : World} {b : Nat} {cs : Array Value} {T : TypeId} (h : Blk w b cs T) {o n : Nat} (hn : o + n ≤ cs.size) : w.there b o n := fun j hj => by
  rw [cell_of_row w b (o + j) _ _ _ h, Array.getElem?_eq_getElem (by omega)]
  exact ⟨rfl, h.fz _⟩
/-- A load of many cells. -/
theorem load_rg {ops : Array Oper} {rest : List Oper} {op : Oper} {a : Act} {w : World} {Q : Exit → Act → World → Prop} (hgd : op.guard = none) (ty : TypeId) (x : Operand) (ho : op.op = .load ty x) {b o : Nat} {l : List Value} (hR : w.rangeAt b o l) (hx : a.eval x = .pointer (some ⟨b, o, none⟩)) (hr : isRowB Try.prog ty = true) {n : Nat} (hi : (Try.prog.info? ty).map (·.size) = some n) (hn : l.length = n)
    (h : wpList Try.prog ops Q rest (a.put op.dst (.agg l.toArray)) w) : wpList Try.prog ops Q (op :: rest) a w := by
  unfold isRowB at hr
  split at hr
  · next d hu => exact wpList_load_mid hgd ty x ho b o hx l d hR hu hr (by rw [hi, hn]) h
  · cases hr
theorem ylo_rg {ops : Array Oper} {S : World → Prop} {op : Oper} {a : Act} (hw : Region.wanted op (yielded ops a.tmps) = true) (ty : TypeId) (x : Operand) (ho : op.op = .load ty x) {b o : Nat} {l : List Value} (hx : a.eval x = .pointer (some ⟨b, o, none⟩)) (hS : ∀ W, S W → W.rangeAt b o l) (hr : isRowB Try.prog ty = true) {n : Nat} (hi : (Try.prog.info? ty).map (·.size) = some n) (hn : l.length = n) : YieldsIf Try.prog ops S op (.agg l.toArray) a := by
  unfold isRowB at hr
  split at hr
  · next d hu => exact yieldsIf_load_mid hw ty x ho b o hx l d hS hu hr (by rw [hi, hn])
  · cases hr
def One (l : List Value) : Prop := ∀ v ∈ l, v.oneCell' = true
/-- A store of a whole block. -/
theorem store_all {ops : Array Oper} {rest : List Oper} {op : Oper} {a : Act} {w : World} {Q : Exit → Act → World → Prop} (hgd : op.guard = none) (ty : TypeId) (x y : Operand) (ho : op.op = .store ty x y) {b : Nat} {T : TypeId} {old : Array Value} {l : List Value} (hB : Blk w b old T) (hx : a.eval x = .pointer (some ⟨b, 0, none⟩)) (hy : a.eval y = .agg l.toArray) {n : Nat} (hi : (Try.prog.info? ty).map (·.size) = some n) (ho' : old.size = n) (hn : l.length = n) (h1 : One l)
    (h : ∀ W, Blk W b l.toArray T → But (fun k => k = b) w W → wpList Try.prog ops Q rest (a.put op.dst undef) W) : wpList Try.prog ops Q (op :: rest) a w :=
  wpList_store_mid hgd ty x y ho b 0 l.toArray hx hy (hB.there (by simp [ho', hn])) (hi.trans (by simp [hn])) (all_oneCell_toArray h1) (h _ (by have k := blk_setCells l 0 hB; have e := sets_all (cs := old) (vs := l.toArray) (by simp [ho', hn]); simp only [] at e; rw [e] at k; exact k) (by simpa using but_setCells l 0 w))
/-- A store of many cells within a block. -/
theorem store_mid {ops : Array Oper} {rest : List Oper} {op : Oper} {a : Act} {w : World} {Q : Exit → Act → World → Prop} (hgd : op.guard = none) (ty : TypeId) (x y : Operand) (ho : op.op = .store ty x y) {b o : Nat} {T : TypeId} {old : Array Value} {l : List Value} (hB : Blk w b old T) (hx : a.eval x = .pointer (some ⟨b, o, none⟩)) (hy : a.eval y = .agg l.toArray) {n : Nat} (hi : (Try.prog.info? ty).map (·.size) = some n) (ho' : o + n ≤ old.size) (hn : l.length = n) (h1 : One l)
    (h : ∀ W, Blk W b (setsN old o l) T → But (fun k => k = b) w W → wpList Try.prog ops Q rest (a.put op.dst undef) W) : wpList Try.prog ops Q (op :: rest) a w :=
  wpList_store_mid hgd ty x y ho b o l.toArray hx hy (hB.thereAt (by simp [hn]; omega)) (hi.trans (by simp [hn])) (all_oneCell_toArray h1) (h _ (by simpa using blk_setCells l o hB) (by simpa using but_setCells l o w))
theorem storeO_mid {op : Oper} {a : Act} {w : World} {K : Act → World → Prop} {Q : Exit → Act → World → Prop} (ty : TypeId) (x y : Operand) (ho : op.op = .store ty x y) {b o : Nat} {T : TypeId} {old : Array Value} {l : List Value} (hB : Blk w b old T) (hx : a.eval x = .pointer (some ⟨b, o, none⟩)) (hy : a.eval y = .agg l.toArray) {n : Nat} (hi : (Try.prog.info? ty).map (·.size) = some n) (ho' : o + n ≤ old.size) (hn : l.length = n) (h1 : One l)
    (h : ∀ W, Blk W b (setsN old o l) T → But (fun k => k = b) w W → K (a.put op.dst undef) W) : op.wp Try.prog a w K Q :=
  wp_store_mid ty x y ho b o l.toArray hx hy (hB.thereAt (by simp [hn]; omega)) (hi.trans (by simp [hn])) (all_oneCell_toArray h1) (h _ (by simpa using blk_setCells l o hB) (by simpa using but_setCells l o w))
theorem sets_flat {m : Nat} {L : List (List Value)} (hL : ∀ f ∈ L, f.length = m) {k : Nat} (hk : k < L.length) {f : List Value} (hf : f.length = m) : setsN L.flatten.toArray (k * m) f = ((L.set k f).flatten).toArray := by
  have len : ∀ K : List (List Value), (∀ f ∈ K, f.length = m) → K.flatten.length = K.length * m := fun K hK => by
    induction K with
    | nil => simp
    | cons g r ih => rw [List.flatten_cons, List.length_append, hK g List.mem_cons_self, ih (fun x hx => hK x (List.mem_cons_of_mem _ hx)), List.length_cons, Nat.add_mul]; omega
  have hm : k * m + m ≤ L.length * m := by
    have := Nat.mul_le_mul_right m (show k + 1 ≤ L.length by omega)
    rwa [Nat.add_mul, Nat.one_mul] at this
  have e1 : L.flatten = (L.take k).flatten ++ L[k] ++ (L.drop (k + 1)).flatten := by
    have h := List.take_append_drop k L
    rw [List.drop_eq_getElem_cons hk] at h
    have e := congrArg List.flatten h
    rw [List.flatten_append, List.flatten_cons] at e
    rw [List.append_assoc]
    exact e.symm
  have e2 : (L.set k f).flatten = (L.take k).flatten ++ f ++ (L.drop (k + 1)).flatten := by
    rw [List.set_eq_take_append_cons_drop, if_pos hk]
    simp
  have l1 : (L.take k).flatten.length = k * m := by
    rw [len _ (fun x hx => hL x (List.mem_of_mem_take hx)), List.length_take, Nat.min_eq_left (by omega)]
  have l2 : L[k].length = m := hL _ (List.getElem_mem hk)
  apply Array.ext_getElem?
  intro j
  rw [sets_get _ _ _ _ (by simp only [List.size_toArray, len L hL]; omega)]
  simp only [List.getElem?_toArray]
  rw [e1, e2]
  by_cases h : k * m ≤ j ∧ j < k * m + f.length
  · rw [if_pos h, List.append_assoc, List.getElem?_append_right (by omega), l1, List.getElem?_append_left (by omega)]
  · rw [if_neg h, List.append_assoc, List.append_assoc]
    by_cases h2 : j < k * m
    · rw [List.getElem?_append_left (by omega), List.getElem?_append_left (by omega)]
    · rw [List.getElem?_append_right (by omega), List.getElem?_append_right (by omega), List.getElem?_append_right (by omega), List.getElem?_append_right (by omega), l1, l2, hf]
theorem flat_part {m : Nat} {L : List (List Value)} (hL : ∀ f ∈ L, f.length = m) {k : Nat} {f : List Value} (hk : L[k]? = some f) : ∀ j v, f[j]? = some v → L.flatten[k * m + j]? = some v := by
  induction L generalizing k with
  | nil => simp at hk
  | cons g r ih =>
    intro j v hv
    have hg := hL g List.mem_cons_self
    cases k with
    | zero =>
      simp at hk
      subst hk
      rw [Nat.zero_mul, Nat.zero_add, List.flatten_cons, List.getElem?_append_left (List.getElem?_eq_some_iff.1 hv).1]
      exact hv
    | succ k =>
      simp at hk
      rw [List.flatten_cons, List.getElem?_append_right (by rw [hg, Nat.add_mul]; omega), hg, Nat.add_mul, show k * m + 1 * m + j - m = k * m + j by omega]
      exact ih (fun x hx => hL x (List.mem_cons_of_mem _ hx)) hk j v hv
/-- Bytes, blocks, writes. -/
def byv (l : List Nat) : List Value := l.map fun n : Nat => Value.int .u8 (n : Int)
theorem byv_len (l : List Nat) : (byv l).length = l.length := List.length_map ..
theorem one_byv (l : List Nat) : One (byv l) := fun v hv => by
  obtain ⟨x, _, rfl⟩ := List.mem_map.1 hv
  rfl
abbrev bk (l : List Nat) : Value := .agg (byv l).toArray
def zs64 : List Nat := List.replicate 64 0
def wrV (q : Nat × List Nat) : List Value := .int .i64 (q.1 : Int) :: byv q.2
theorem wrV_len (q : Nat × List Nat) : (wrV q).length = q.2.length + 1 := by rw [wrV, List.length_cons, byv_len]
theorem one_cons {x : Value} {l : List Value} (hx : x.oneCell' = true) (h : One l) : One (x :: l) := fun v hv => by
  rcases List.mem_cons.1 hv with rfl | hv
  · exact hx
  · exact h v hv
theorem one_app {k l : List Value} (hk : One k) (h : One l) : One (k ++ l) := fun v hv => by
  rcases List.mem_append.1 hv with hv | hv
  · exact hk v hv
  · exact h v hv
theorem one_wrV (q : Nat × List Nat) : One (wrV q) := one_cons rfl (one_byv _)
def plV : Option (List Nat) → List Value
  | none => .bool true :: byv zs64
  | some l => .bool false :: byv l
def rbV : Option (List Nat) → List Value
  | none => byv zs64 ++ [.bool true]
  | some l => byv l ++ [.bool false]
def Good64 : Option (List Nat) → Prop
  | none => True
  | some l => l.length = 64
/-- The blocks that last (none: torn), and what waits. -/
structure Stt where
  L : List (Option (List Nat))
  W : List (Nat × List Nat)
structure Good (A : Stt) : Prop where
  n0 : 0 < A.L.length
  n1 : A.L.length ≤ 4096
  l : ∀ x ∈ A.L, Good64 x
  w : ∀ q ∈ A.W, q.1 < A.L.length ∧ q.2.length = 64
  n2 : A.W.length ≤ 4096
def Foot (bs bp : Nat) (vq : Value) (k : Nat) : Prop := k = bs ∨ k = bp ∨ vq.ownBlock = some k
structure Lay where
  TS : TypeId
  TP : TypeId
  TW : TypeId
  pc : Option (List Nat) → List Value
  pl : ∀ x, Good64 x → (pc x).length = 65
  p1 : ∀ x, One (pc x)
theorem one_plV : ∀ x, One (plV x)
  | none => one_cons rfl (one_byv _)
  | some _ => one_cons rfl (one_byv _)
theorem one_rbV : ∀ x, One (rbV x)
  | none => one_app (one_byv _) (one_cons rfl (fun _ h => by cases h))
  | some _ => one_app (one_byv _) (one_cons rfl (fun _ h => by cases h))
theorem zs_len : zs64.length = 64 := List.length_replicate
theorem plV_len : ∀ x, Good64 x → (plV x).length = 65
  | none, _ => by rw [plV, List.length_cons, byv_len, zs_len]
  | some l, h => by rw [plV, List.length_cons, byv_len, show l.length = 64 from h]
theorem rbV_len : ∀ x, Good64 x → (rbV x).length = 65
  | none, _ => by rw [rbV, List.length_append, byv_len, zs_len]; rfl
  | some l, h => by rw [rbV, List.length_append, byv_len, show l.length = 64 from h]; rfl
abbrev LP : Lay := ⟨64, 76, 70, plV, plV_len, one_plV⟩
abbrev LR : Lay := ⟨44, 68, 66, rbV, rbV_len, one_rbV⟩
/-- A store's blocks. -/
structure Sto (Y : Lay) (w : World) (bs bp : Nat) (vq : Value) (A : Stt) : Prop where
  s : Blk w bs #[.slice (some ⟨bp, 0, none⟩) A.L.length A.L.length, vq] Y.TS
  p : Blk w bp ((A.L.map Y.pc).flatten).toArray Y.TP
  q : w.ownsRow 0 Y.TW 65 vq A.W.length (A.W.map wrV).flatten
  n1 : bs ≠ bp
  n2 : vq.ownBlock ≠ some bs
  n3 : vq.ownBlock ≠ some bp
  good : Good A
theorem own_keep {F : Nat → Prop} {w w' : World} {E : TypeId} {v : Value} {n m B : Nat} {xs : List Value} (h : w.ownsRow B E m v n xs) (hb : But F w w') (hn : ∀ k, v.ownBlock = some k → ¬ F k) : w'.ownsRow B E m v n xs := by
  obtain ⟨h2, h3⟩ := h
  refine ⟨h2, ?_⟩
  rcases h3 with h3 | ⟨g, cap, cur, e1, e2, e3, e4⟩
  · exact Or.inl h3
  · exact Or.inr ⟨g, cap, cur, e1, e2, (hb.block g (Array.getElem?_eq_some_iff.1 e3).1 (hn g (by rw [e1]; rfl))).trans e3, e4⟩
section
variable {Y : Lay} {F : Nat → Prop} {w w' : World} {bs bp : Nat} {vq : Value} {A : Stt}
theorem Sto.keep (h : Sto Y w bs bp vq A) (hb : But F w w') (hF : ∀ k, Foot bs bp vq k → ¬ F k) : Sto Y w' bs bp vq A :=
  ⟨hb.blk h.s (hF _ (Or.inl rfl)), hb.blk h.p (hF _ (Or.inr (Or.inl rfl))), own_keep h.q hb (fun k e => hF k (Or.inr (Or.inr e))), h.n1, h.n2, h.n3, h.good⟩
theorem Sto.below (h : Sto Y w bs bp vq A) (hb : Below w.heap.size w w') : Sto Y w' bs bp vq A := h.keep (but_of hb (fun _ => False)) (fun _ _ h => h)
theorem Sto.lt (h : Sto Y w bs bp vq A) : ∀ k, Foot bs bp vq k → k < w.heap.size := fun k hk => by
  rcases hk with rfl | rfl | hk
  · exact h.s.lt
  · exact h.p.lt
  · exact (h.q.lt k hk).2
theorem fit_map {Y : Lay} {l : List (Option (List Nat))} (h : ∀ x ∈ l, Good64 x) : ∀ f ∈ l.map Y.pc, f.length = 65 := fun f hf => by
  obtain ⟨x, hx, rfl⟩ := List.mem_map.1 hf
  exact Y.pl x (h x hx)
theorem Sto.place (h : Sto Y w bs bp vq A) {j : Nat} {x : Option (List Nat)} (hj : A.L[j]? = some x) : w.rangeAt bp (j * 65) (Y.pc x) :=
  h.p.part (flat_part (fit_map h.good.l) (by rw [List.getElem?_map, hj]; rfl))
theorem fit_wr {l : List (Nat × List Nat)} {n : Nat} (h : ∀ q ∈ l, q.1 < n ∧ q.2.length = 64) : ∀ f ∈ l.map wrV, f.length = 65 := fun f hf => by
  obtain ⟨q, hq, rfl⟩ := List.mem_map.1 hf
  rw [wrV_len, (h q hq).2]
/-- A queue's item. -/
theorem own_item {w : World} {E : TypeId} {g cap B : Nat} {l : List (Nat × List Nat)} (h : w.ownsRow B E 65 (.slice (some ⟨g, 0, none⟩) l.length cap) l.length (l.map wrV).flatten) (hl : ∀ q ∈ l, q.2.length = 64) {j : Nat} {q : Nat × List Nat} (hj : l[j]? = some q) : w.rangeAt g (j * 65) (wrV q) := fun i v hv => by
  have hlt : j < l.length := (List.getElem?_eq_some_iff.1 hj).1
  have hq : q ∈ l := List.mem_of_getElem? hj
  have hfit : ∀ f ∈ l.map wrV, f.length = 65 := fun f hf => by
    obtain ⟨q, hq, rfl⟩ := List.mem_map.1 hf
    rw [wrV_len, hl q hq]
  have hi : i < 65 := by
    have := (List.getElem?_eq_some_iff.1 hv).1
    rw [wrV_len, hl q hq] at this
    omega
  have hlt2 : j * 65 + i < l.length * 65 := by omega
  have hc := h.cellAt (j * 65 + i) hlt2
  rw [hc]
  exact flat_part hfit (by rw [List.getElem?_map, hj]; rfl) i v hv
theorem own_slice {w : World} {E : TypeId} {v : Value} {n B m : Nat} {xs : List Value} (h : w.ownsRow B E m v n xs) (h0 : 0 < n) : ∃ g cap, v = .slice (some ⟨g, 0, none⟩) n cap ∧ n ≤ cap ∧ cap ≤ maxLen := by
  rcases h.2 with ⟨_, h3⟩ | ⟨g, cap, cur, e1, e2, e3, e4, e5, _⟩
  · omega
  · exact ⟨g, cap, e1, e4, e5⟩
theorem own_form {w : World} {E : TypeId} {v : Value} {n B m : Nat} {xs : List Value} (h : w.ownsRow B E m v n xs) : ∃ a cap, v = .slice a n cap := by
  rcases h.2 with ⟨h2, h3⟩ | ⟨g, cap, cur, e1, _⟩
  · subst h3; exact ⟨_, _, h2⟩
  · exact ⟨_, _, e1⟩
end
end Go.Proofs.Ytdbefnghljjieaa
