/- The document's Get: two drawn regions, by themselves. -/
import Derived.Test.YtfahgphkceilkaaGr
import Derived.Test.YtfahgphkceilkaaRv
import Derived.Test.YtfahgphkceilkaaPq
namespace Go.Proofs.Ytfahgphkceilkaa
open Go.RowKit
set_option linter.unusedVariables false
set_option linter.unusedSimpArgs false
structure OwnG (E m B : Nat) (wr : World) (v : Value) (l : List (List Value)) : Prop where
  owns : wr.ownsRow B E m v l.length l.flatten
  fit : Fit m l
theorem OwnG.nil (E m B : Nat) (wr : World) : OwnG E m B wr (.slice none 0 0) [] := ⟨World.ownsRow_nil _ _ _ _, fun f hf => by cases hf⟩
theorem OwnG.keep {E m B : Nat} {wr w' : World} {v : Value} {l : List (List Value)} (h : OwnG E m B wr v l) (hb : ∀ g, g < wr.heap.size → B ≤ g → w'.heap[g]? = wr.heap[g]?) : OwnG E m B w' v l := by
  obtain ⟨⟨h2, h3⟩, h4⟩ := h
  refine ⟨⟨h2, ?_⟩, h4⟩
  rcases h3 with h3 | ⟨g, cap, cur, e1, e2, e3, e4⟩
  · exact Or.inl h3
  · exact Or.inr ⟨g, cap, cur, e1, e2, (hb g (Array.getElem?_eq_some_iff.1 e3).1 e2).trans e3, e4⟩
theorem OwnG.below {E m B : Nat} {wr w' : World} {v : Value} {l : List (List Value)} (h : OwnG E m B wr v l) (hb : Below wr.heap.size wr w') : OwnG E m B w' v l := h.keep (fun g hg _ => hb.block g hg)
theorem OwnG.alloc {E m B : Nat} {wr : World} {v : Value} {l : List (List Value)} (h : OwnG E m B wr v l) (o : Obj) : OwnG E m B (wr.alloc o) v l := h.below (below1 wr o)
theorem OwnG.set {E m B : Nat} {wr : World} {v u : Value} {l : List (List Value)} {b j : Nat} (h : OwnG E m B wr v l) (hb : b < B) : OwnG E m B (wr.setCell ⟨b, j, none⟩ u) v l := h.keep (fun g _ hB => Go.heap_setCell_other wr ⟨b, j, none⟩ g u (by show g ≠ b; omega))
theorem OwnG.grow {E m B : Nat} {w wr : World} {v : Value} {l : List (List Value)} (h : OwnG E m B wr v l) (hB : w.heap.size ≤ B) (hb : Below w.heap.size w wr) : GrowG E m w wr v l := by
  obtain ⟨⟨h2, h3⟩, h4⟩ := h
  refine ⟨hb, ⟨h2, ?_⟩, h4⟩
  rcases h3 with h3 | ⟨g, cap, cur, e1, e2, e3⟩
  · exact Or.inl h3
  · exact Or.inr ⟨g, cap, cur, e1, Nat.le_trans hB e2, e3⟩
theorem OwnG.ne {E m B : Nat} {wr : World} {v : Value} {l : List (List Value)} (h : OwnG E m B wr v l) {b : Nat} (hb : b < B) : some b ≠ v.ownBlock := by
  obtain ⟨⟨_, h3⟩, _⟩ := h
  rcases h3 with ⟨rfl, _⟩ | ⟨g, cap, cur, rfl, e2, _⟩
  · intro e; cases e
  · intro e
    simp [Value.ownBlock] at e
    omega
theorem OwnG.form {E m B : Nat} {wr : World} {v : Value} {l : List (List Value)} (h : OwnG E m B wr v l) : ∃ x n c, v = .slice x n c := by
  obtain ⟨⟨_, h3⟩, _⟩ := h
  rcases h3 with ⟨rfl, _⟩ | ⟨g, cap, cur, rfl, _⟩
  · exact ⟨_, _, _, rfl⟩
  · exact ⟨_, _, _, rfl⟩
/-- Append of any row to an owned one, at the operation. -/
theorem wp_pushO {o : Oper} {a : Act} {K : Act → World → Prop} {Q : Exit → Act → World → Prop} (E T : TypeId) (m bytes : Nat) (z : Value) (hm : 0 < m) (hb : bytes ≤ 1000) (hz : z.cells.size = m) (hu : Try.prog.underlying T = some (.slice E)) (hinfo : (Try.prog.info? E).map (fun i => (i.zero, i.size, i.bytes)) = some (some z, m, bytes))
    (s x : Operand) (ho : o.op = .call { callee := .builtin .append, args := #[s, x], argTypes := #[T, T] })
    (B : Nat) (wr : World) (v u : Value) (l k : List (List Value)) (hG : OwnG E m B wr v l) (hB : B ≤ wr.heap.size) (hs : a.eval s = v) (hx : a.eval x = u) (hR : RowG m wr u k) (hk : 0 < k.length) (hlen : l.length + k.length ≤ 1000000)
    (h : ∀ v' w', OwnG E m B w' v' (l ++ k) → wr.grownBy w' v.ownBlock → (∀ g, v.ownBlock = some g → B ≤ g) → K (a.put o.dst v') w') : o.wp Try.prog a wr K Q := by
  obtain ⟨i0, hi, hz0, hz1, hz2⟩ := info_parts hinfo
  have hb2 : (l.length + k.length) * bytes ≤ 140737488355328 := Nat.le_trans (Nat.mul_le_mul hlen hb) (by decide)
  obtain ⟨bb, off, cap, e, _, _⟩ := hR.open hk
  subst e
  obtain ⟨v', w', hr, h2, h3, h4, h5⟩ := run_append_own_at (P := Try.prog) wr B T o.type E i0 z m bytes hu hi hz0 hz1 hz2 hz hm v l.length _ hG.owns ⟨bb, off, none⟩ k.length cap k.flatten (flat_len hR.fit) (row_cells hR hm) (flat_one hR.fit) (by unfold maxLen; omega) hb2 hB
  unfold Oper.wp execOp
  simp only [ho, resolve, invoke, builtin, Sem.run_bind, Sem.run_pure, Result.andThen_ok, List.map_toArray, List.map_cons, List.map_nil, hs, hx, hr]
  refine h v' w' ⟨?_, hG.fit.append hR.fit⟩ h3 (fun g hg => (hG.owns.lt g hg).1)
  rw [List.flatten_append, List.length_append]
  exact h2
set_option maxRecDepth 20000 in
set_option maxHeartbeats 32000000 in
theorem rreg11 {Q : Exit → Act → World → Prop} {x1 x2 x3 x4 x6 x7 x8 x9 x10 x11 x12 x13 x14 x15 x16 x17 x18 x19 x20 x21 x22 x23 x24 x25 x26 x27 x28 x29 x30 x31 x32 x33 x34 x35 x36 x37 x38 x39 x40 x41 x42 x43 x44 x45 x46 x47 x48 x49 x50 x51 x52 x53 x54 x55 x56 x57 x58 x59 x60 x61 x62 x63 x64 x65 x66 x67 x68 x69 x70 x71 x72 x73 x74 x75 x76 x77 x78 x79 x80 x81 x82 x83 x84 x85 x86 x87 x88 x89 x90 x91 x92 x93 x94 x95 x96 : Value} {x : Option Addr} {n cap j4 m4 A B : Nat} {c : Bool} {V : World}
    (hj : j4 ≤ n) (hj2 : j4 ≤ cap) (hm : n - j4 = m4) (hB : IntKind.u64.wrap (B : Int) = (B : Int)) (hc : ((A : Int) != (B : Int)) = c)
    (h1 : ∀ W, Below V.heap.size V W → Calls Try.prog 34 #[.slice (loA 1 x j4 cap) m4 (cap - j4)] W fun e w' => e = .returned (.int .u64 (A : Int)) ∧ w' = W)
    (h2 : ∀ W, Below V.heap.size V W → Calls Try.prog 17 #[.slice x j4 cap] W fun e w' => e = .returned (.int .u32 (B : Int)) ∧ w' = W)
    (h : ∀ (s1 s2 : Value) (W : World), Below V.heap.size V W → Q .normal ⟨List.toArray ((.slice x n cap : Value) :: x1 :: x2 :: x3 :: x4 :: (.int .i64 (j4 : Int) : Value) :: x6 :: x7 :: x8 :: x9 :: x10 :: x11 :: x12 :: x13 :: x14 :: x15 :: x16 :: x17 :: x18 :: x19 :: x20 :: x21 :: x22 :: x23 :: x24 :: x25 :: x26 :: x27 :: x28 :: x29 :: x30 :: x31 :: x32 :: x33 :: x34 :: x35 :: x36 :: x37 :: x38 :: x39 :: x40 :: x41 :: x42 :: x43 :: x44 :: (.slice x n cap : Value) :: (.int .i64 (j4 : Int) : Value) :: (s1 : Value) :: (.int .u64 (A : Int) : Value) :: (.slice x n cap : Value) :: (.int .i64 (j4 : Int) : Value) :: (s2 : Value) :: (.int .u32 (B : Int) : Value) :: (.int .u64 (B : Int) : Value) :: (.bool c : Value) :: x55 :: x56 :: x57 :: x58 :: x59 :: x60 :: x61 :: x62 :: x63 :: x64 :: x65 :: x66 :: x67 :: x68 :: x69 :: x70 :: x71 :: x72 :: x73 :: x74 :: x75 :: x76 :: x77 :: x78 :: x79 :: x80 :: x81 :: x82 :: x83 :: x84 :: x85 :: x86 :: x87 :: x88 :: x89 :: x90 :: x91 :: x92 :: x93 :: x94 :: x95 :: x96 :: []), []⟩ W) :
    Code.wp Try.prog ((Try.f19.body.bind (regionAt 11)).getD .skip) Q ⟨List.toArray ((.slice x n cap : Value) :: x1 :: x2 :: x3 :: x4 :: (.int .i64 (j4 : Int) : Value) :: x6 :: x7 :: x8 :: x9 :: x10 :: x11 :: x12 :: x13 :: x14 :: x15 :: x16 :: x17 :: x18 :: x19 :: x20 :: x21 :: x22 :: x23 :: x24 :: x25 :: x26 :: x27 :: x28 :: x29 :: x30 :: x31 :: x32 :: x33 :: x34 :: x35 :: x36 :: x37 :: x38 :: x39 :: x40 :: x41 :: x42 :: x43 :: x44 :: x45 :: x46 :: x47 :: x48 :: x49 :: x50 :: x51 :: x52 :: x53 :: x54 :: x55 :: x56 :: x57 :: x58 :: x59 :: x60 :: x61 :: x62 :: x63 :: x64 :: x65 :: x66 :: x67 :: x68 :: x69 :: x70 :: x71 :: x72 :: x73 :: x74 :: x75 :: x76 :: x77 :: x78 :: x79 :: x80 :: x81 :: x82 :: x83 :: x84 :: x85 :: x86 :: x87 :: x88 :: x89 :: x90 :: x91 :: x92 :: x93 :: x94 :: x95 :: x96 :: []), []⟩ V := by
  have H := hide h
  clear h
  conv => arg 2; whnf
  refine wp_region_noPanic ?_
  have H1 := hide h1
  have H2 := hide h2
  clear h1 h2
  refine wp_region_held_drew (S := fun W => Below V.heap.size V W) (by kernel_rfl) (Below.refl _ _).drew (fun hS => ?_)
  generalize hV : V.drew = V0 at *
  clear hV
  refine anyH_at (i := 0) (v := .slice x n cap) 45 rfl (by kernel_rfl) (by kernel_rfl) (by kernel_rfl) (by kernel_rfl) (fun _ _ _ h => h) (Or.inl ⟨by kernel_rfl, fun W hS => by go_simp⟩) hS ?_
  try simp only [Act.put, List.setIfInBounds_toArray, List.set_cons_zero, List.set_cons_succ]
  refine anyH_at (i := 1) (v := .int .i64 (j4 : Int)) 46 rfl (by kernel_rfl) (by kernel_rfl) (by kernel_rfl) (by kernel_rfl) (fun _ _ _ h => h) (Or.inl ⟨by kernel_rfl, fun W hS => by go_simp⟩) hS ?_
  try simp only [Act.put, List.setIfInBounds_toArray, List.set_cons_zero, List.set_cons_succ]
  refine anyH_at (i := 2) (v := .slice (loA 1 x j4 cap) m4 (cap - j4)) 47 rfl (by kernel_rfl) (by kernel_rfl) (by kernel_rfl) (by kernel_rfl) (fun _ _ _ h => h) (Or.inl ⟨by kernel_rfl, fun W hS => by have q1 : (j4 : Int) ≤ (n : Int) := (by omega); (go_simp; try simp [q1, hj, hm, loA, Addr.add])⟩) hS ?_
  try simp only [Act.put, List.setIfInBounds_toArray, List.set_cons_zero, List.set_cons_succ]
  refine anyH_at (i := 4) (v := .slice x n cap) 49 rfl (by kernel_rfl) (by kernel_rfl) (by kernel_rfl) (by kernel_rfl) (fun _ _ _ h => h) (Or.inl ⟨by kernel_rfl, fun W hS => by go_simp⟩) hS ?_
  try simp only [Act.put, List.setIfInBounds_toArray, List.set_cons_zero, List.set_cons_succ]
  refine anyH_at (i := 5) (v := .int .i64 (j4 : Int)) 50 rfl (by kernel_rfl) (by kernel_rfl) (by kernel_rfl) (by kernel_rfl) (fun _ _ _ h => h) (Or.inl ⟨by kernel_rfl, fun W hS => by go_simp⟩) hS ?_
  try simp only [Act.put, List.setIfInBounds_toArray, List.set_cons_zero, List.set_cons_succ]
  refine anyH_at (i := 6) (v := .slice x j4 cap) 51 rfl (by kernel_rfl) (by kernel_rfl) (by kernel_rfl) (by kernel_rfl) (fun _ _ _ h => h) (Or.inl ⟨by kernel_rfl, fun W hS => by have q1 : (j4 : Int) ≤ (cap : Int) := (by omega); (go_simp; try simp [q1, hj2])⟩) hS ?_
  try simp only [Act.put, List.setIfInBounds_toArray, List.set_cons_zero, List.set_cons_succ]
  clear hj hj2 hm
  refine wpAnyH_all (rs := [3]) (by kernel_rfl) (by simp) (AllReadyH.cons (i := 3) rfl (fun KK hK => ?_) AllReadyH.nil)
  rw [if_pos (by kernel_rfl)]
  have hQ := hide (unhide H1 V0 hS)
  have hS1 := hide hS
  clear hS
  go_wp2_with fail
  refine (unhide hQ).mono ?_
  rintro r VV ⟨rfl, hVV⟩
  replace hVV := hVV.symm
  subst hVV
  clear hQ
  go_wp2_with fail
  refine hK.out _ _ (unhide hS1) (fun hS => ?_)
  clear hK hS1
  try simp only [Act.put, List.setIfInBounds_toArray, List.set_cons_zero, List.set_cons_succ]
  refine wpAnyH_all (rs := [7]) (by kernel_rfl) (by simp) (AllReadyH.cons (i := 7) rfl (fun KK hK => ?_) AllReadyH.nil)
  rw [if_pos (by kernel_rfl)]
  have hQ := hide (unhide H2 V0 hS)
  have hS1 := hide hS
  clear hS
  go_wp2_with fail
  refine (unhide hQ).mono ?_
  rintro r VV ⟨rfl, hVV⟩
  replace hVV := hVV.symm
  subst hVV
  clear hQ
  go_wp2_with fail
  refine hK.out _ _ (unhide hS1) (fun hS => ?_)
  clear hK hS1
  try simp only [Act.put, List.setIfInBounds_toArray, List.set_cons_zero, List.set_cons_succ]
  refine anyH_at (i := 8) (v := .int .u64 (B : Int)) 53 rfl (by kernel_rfl) (by kernel_rfl) (by kernel_rfl) (by kernel_rfl) (fun _ _ _ h => h) (Or.inl ⟨by kernel_rfl, fun W hS => by have f1 := hB; go_simp⟩) hS ?_
  try simp only [Act.put, List.setIfInBounds_toArray, List.set_cons_zero, List.set_cons_succ]
  refine anyH_at (i := 9) (v := .bool c) 54 rfl (by kernel_rfl) (by kernel_rfl) (by kernel_rfl) (by kernel_rfl) (fun _ _ _ h => h) (Or.inl ⟨by kernel_rfl, fun W hS => by have f1 := hc; go_simp⟩) hS ?_
  try simp only [Act.put, List.setIfInBounds_toArray, List.set_cons_zero, List.set_cons_succ]
  refine wpAnyH_done (by kernel_rfl) ?_ _
  exact unhide H _ _ _ hS
theorem bd24z (s e : Int) (w : World) : Sem.run Try.prog (Instr.build 24 #[(0, .int .i64 s), (1, .int .i64 e)]) w = .ok (.agg #[.int .i64 s, .int .i64 e, .slice none 0 0]) w := by kernel_rfl
set_option maxRecDepth 20000 in
set_option maxHeartbeats 32000000 in
theorem rreg13 {Q : Exit → Act → World → Prop} {x1 x2 x3 x4 x5 x6 x7 x8 x9 x10 x11 x12 x13 x14 x15 x16 x17 x18 x19 x20 x21 x22 x23 x24 x25 x26 x27 x28 x29 x30 x31 x32 x33 x34 x35 x36 x37 x38 x39 x40 x41 x42 x43 x44 x45 x46 x47 x48 x49 x50 x51 x52 x53 x54 x55 x56 x57 x58 x59 x60 x61 x62 x63 x64 x65 x66 x67 x68 x69 x70 x71 x72 x73 x74 x75 x76 x77 x78 x79 x80 x81 x82 x83 x84 x85 x86 x87 x88 x89 x90 x91 x92 x93 x94 x95 x96 : Value} {x : Option Addr} {n cap A B : Nat} {V : World}
    (hn : 15 ≤ n) (hc : n ≤ cap) (hA : IntKind.i64.wrap (A : Int) = (A : Int)) (hB : IntKind.i64.wrap (B : Int) = (B : Int))
    (h1 : ∀ W, Below V.heap.size V W → Calls Try.prog 34 #[.slice (loA 1 x 2 cap) 4 (cap - 2)] W fun e w' => e = .returned (.int .u64 (A : Int)) ∧ w' = W)
    (h2 : ∀ W, Below V.heap.size V W → Calls Try.prog 34 #[.slice (loA 1 x 6 cap) 4 (cap - 6)] W fun e w' => e = .returned (.int .u64 (B : Int)) ∧ w' = W)
    (h : ∀ (s1 s2 : Value) (cb : Nat) (W : World), V.heap.size ≤ cb → Blk W cb #[.int .i64 (A : Int), .int .i64 (B : Int), .slice none 0 0] 24 → Below V.heap.size V W → Q .normal ⟨List.toArray ((.slice x n cap : Value) :: x1 :: x2 :: x3 :: x4 :: x5 :: (.pointer (some ⟨cb, 0, none⟩) : Value) :: x7 :: x8 :: x9 :: x10 :: x11 :: x12 :: x13 :: x14 :: x15 :: x16 :: x17 :: x18 :: x19 :: x20 :: x21 :: x22 :: x23 :: x24 :: x25 :: x26 :: x27 :: x28 :: x29 :: x30 :: x31 :: x32 :: x33 :: x34 :: x35 :: x36 :: x37 :: x38 :: x39 :: x40 :: x41 :: x42 :: x43 :: x44 :: x45 :: x46 :: x47 :: x48 :: x49 :: x50 :: x51 :: x52 :: x53 :: x54 :: x55 :: (.slice x n cap : Value) :: (s1 : Value) :: (.int .u64 (A : Int) : Value) :: (.int .i64 (A : Int) : Value) :: (.slice x n cap : Value) :: (s2 : Value) :: (.int .u64 (B : Int) : Value) :: (.int .i64 (B : Int) : Value) :: (.agg #[.int .i64 (A : Int), .int .i64 (B : Int), .slice none 0 0] : Value) :: x65 :: x66 :: x67 :: x68 :: x69 :: x70 :: x71 :: x72 :: x73 :: x74 :: x75 :: x76 :: x77 :: x78 :: x79 :: x80 :: x81 :: x82 :: x83 :: x84 :: x85 :: x86 :: x87 :: x88 :: x89 :: x90 :: x91 :: x92 :: x93 :: x94 :: x95 :: x96 :: []), []⟩ W) :
    Code.wp Try.prog ((Try.f19.body.bind (regionAt 13)).getD .skip) Q ⟨List.toArray ((.slice x n cap : Value) :: x1 :: x2 :: x3 :: x4 :: x5 :: x6 :: x7 :: x8 :: x9 :: x10 :: x11 :: x12 :: x13 :: x14 :: x15 :: x16 :: x17 :: x18 :: x19 :: x20 :: x21 :: x22 :: x23 :: x24 :: x25 :: x26 :: x27 :: x28 :: x29 :: x30 :: x31 :: x32 :: x33 :: x34 :: x35 :: x36 :: x37 :: x38 :: x39 :: x40 :: x41 :: x42 :: x43 :: x44 :: x45 :: x46 :: x47 :: x48 :: x49 :: x50 :: x51 :: x52 :: x53 :: x54 :: x55 :: x56 :: x57 :: x58 :: x59 :: x60 :: x61 :: x62 :: x63 :: x64 :: x65 :: x66 :: x67 :: x68 :: x69 :: x70 :: x71 :: x72 :: x73 :: x74 :: x75 :: x76 :: x77 :: x78 :: x79 :: x80 :: x81 :: x82 :: x83 :: x84 :: x85 :: x86 :: x87 :: x88 :: x89 :: x90 :: x91 :: x92 :: x93 :: x94 :: x95 :: x96 :: []), []⟩ V := by
  have H := hide h
  clear h
  conv => arg 2; whnf
  refine wp_region_noPanic ?_
  have H1 := hide h1
  have H2 := hide h2
  clear h1 h2
  refine wp_region_held_drew (S := fun W => Below V.heap.size V W) (by kernel_rfl) (Below.refl _ _).drew (fun hS => ?_)
  generalize hV : V.drew = V0 at *
  clear hV
  refine anyH_at (i := 0) (v := .slice x n cap) 56 rfl (by kernel_rfl) (by kernel_rfl) (by kernel_rfl) (by kernel_rfl) (fun _ _ _ h => h) (Or.inl ⟨by kernel_rfl, fun W hS => by go_simp⟩) hS ?_
  try simp only [Act.put, List.setIfInBounds_toArray, List.set_cons_zero, List.set_cons_succ]
  refine anyH_at (i := 1) (v := .slice (loA 1 x 2 cap) 4 (cap - 2)) 57 rfl (by kernel_rfl) (by kernel_rfl) (by kernel_rfl) (by kernel_rfl) (fun _ _ _ h => h) (Or.inl ⟨by kernel_rfl, fun W hS => by have q2 : (6 : Int) ≤ (cap : Int) := (by omega); (go_simp; try simp [q2, loA, Addr.add])⟩) hS ?_
  try simp only [Act.put, List.setIfInBounds_toArray, List.set_cons_zero, List.set_cons_succ]
  refine anyH_at (i := 4) (v := .slice x n cap) 60 rfl (by kernel_rfl) (by kernel_rfl) (by kernel_rfl) (by kernel_rfl) (fun _ _ _ h => h) (Or.inl ⟨by kernel_rfl, fun W hS => by go_simp⟩) hS ?_
  try simp only [Act.put, List.setIfInBounds_toArray, List.set_cons_zero, List.set_cons_succ]
  refine anyH_at (i := 5) (v := .slice (loA 1 x 6 cap) 4 (cap - 6)) 61 rfl (by kernel_rfl) (by kernel_rfl) (by kernel_rfl) (by kernel_rfl) (fun _ _ _ h => h) (Or.inl ⟨by kernel_rfl, fun W hS => by have q2 : (10 : Int) ≤ (cap : Int) := (by omega); (go_simp; try simp [q2, loA, Addr.add])⟩) hS ?_
  try simp only [Act.put, List.setIfInBounds_toArray, List.set_cons_zero, List.set_cons_succ]
  clear hn hc
  refine wpAnyH_all (rs := [2, 9]) (by kernel_rfl) (by simp) (AllReadyH.cons (i := 2) rfl (fun KK hK => ?_) (AllReadyH.cons (i := 9) rfl (fun KK hK => ?_) AllReadyH.nil))
  · rw [if_pos (by kernel_rfl)]
    have hQ := hide (unhide H1 V0 hS)
    have hS1 := hide hS
    clear hS
    go_wp2_with fail
    refine (unhide hQ).mono ?_
    rintro r VV ⟨rfl, hVV⟩
    replace hVV := hVV.symm
    subst hVV
    clear hQ
    go_wp2_with fail
    refine hK.out _ _ (unhide hS1) (fun hS => ?_)
    clear hK hS1
    try simp only [Act.put, List.setIfInBounds_toArray, List.set_cons_zero, List.set_cons_succ]
    refine anyH_at (i := 3) (v := .int .i64 (A : Int)) 59 rfl (by kernel_rfl) (by kernel_rfl) (by kernel_rfl) (by kernel_rfl) (fun _ _ _ h => h) (Or.inl ⟨by kernel_rfl, fun W hS => by have f1 := hA; go_simp⟩) hS ?_
    try simp only [Act.put, List.setIfInBounds_toArray, List.set_cons_zero, List.set_cons_succ]
    refine wpAnyH_all (rs := [6, 9]) (by kernel_rfl) (by simp) (AllReadyH.cons (i := 6) rfl (fun KK hK => ?_) (AllReadyH.cons (i := 9) rfl (fun KK hK => ?_) AllReadyH.nil))
    · rw [if_pos (by kernel_rfl)]
      have hQ := hide (unhide H2 V0 hS)
      have hS1 := hide hS
      clear hS
      go_wp2_with fail
      refine (unhide hQ).mono ?_
      rintro r VV ⟨rfl, hVV⟩
      replace hVV := hVV.symm
      subst hVV
      clear hQ
      go_wp2_with fail
      refine hK.out _ _ (unhide hS1) (fun hS => ?_)
      clear hK hS1
      try simp only [Act.put, List.setIfInBounds_toArray, List.set_cons_zero, List.set_cons_succ]
      refine anyH_at (i := 7) (v := .int .i64 (B : Int)) 63 rfl (by kernel_rfl) (by kernel_rfl) (by kernel_rfl) (by kernel_rfl) (fun _ _ _ h => h) (Or.inl ⟨by kernel_rfl, fun W hS => by have f1 := hB; go_simp⟩) hS ?_
      try simp only [Act.put, List.setIfInBounds_toArray, List.set_cons_zero, List.set_cons_succ]
      refine anyH_at (i := 8) (v := .agg #[.int .i64 (A : Int), .int .i64 (B : Int), .slice none 0 0]) 64 rfl (by kernel_rfl) (by kernel_rfl) (by kernel_rfl) (by kernel_rfl) (fun _ _ _ h => h) (Or.inl ⟨by kernel_rfl, fun W hS => by have f1 := bd24z (A : Int) (B : Int) W; go_simp⟩) hS ?_
      try simp only [Act.put, List.setIfInBounds_toArray, List.set_cons_zero, List.set_cons_succ]
      refine wpAnyH_all (rs := [9]) (by kernel_rfl) (by simp) (AllReadyH.cons (i := 9) rfl (fun KK hK => ?_) AllReadyH.nil)
      rw [if_pos (by kernel_rfl)]
      have hS1 := hide (below_via hS (below1 V0 (.cells #[.int .i64 0, .int .i64 0, .slice none 0 0] 24)))
      have HY := hide (Blk.new V0 #[.int .i64 0, .int .i64 0, .slice none 0 0] 24)
      have hcb := hide hS.size
      clear hS
      go_wp2_with fail
      refine hK.out _ _ (unhide hS1) (fun hS => ?_)
      clear hK hS1
      try simp only [Act.put, List.setIfInBounds_toArray, List.set_cons_zero, List.set_cons_succ]
      generalize V0.alloc (.cells #[.int .i64 0, .int .i64 0, .slice none 0 0] 24) = VA at *
      generalize V0.heap.size = cb at *
      refine wpAnyH_all (rs := [10]) (by kernel_rfl) (by simp) (AllReadyH.cons (i := 10) rfl (fun KK hK => ?_) AllReadyH.nil)
      rw [if_pos (by kernel_rfl)]
      refine storeO_blk 24 _ _ rfl (show Blk _ _ _ _ from unhide HY) rfl rfl size24 rfl rfl rfl ?_
      intro V2 k2 kp
      have hS1 := hide (show Below V.heap.size V V2 from kp.bel (unhide hcb) hS)
      clear kp hS HY
      refine hK.out _ _ (unhide hS1) (fun hS => ?_)
      clear hK hS1
      refine wpAnyH_done (by kernel_rfl) ?_ _
      exact unhide H _ _ _ _ (unhide hcb) k2 hS
    · rw [if_pos (by kernel_rfl)]
      have hS1 := hide (below_via hS (below1 V0 (.cells #[.int .i64 0, .int .i64 0, .slice none 0 0] 24)))
      have HY := hide (Blk.new V0 #[.int .i64 0, .int .i64 0, .slice none 0 0] 24)
      have hcb := hide hS.size
      clear hS
      go_wp2_with fail
      refine hK.out _ _ (unhide hS1) (fun hS => ?_)
      clear hK hS1
      try simp only [Act.put, List.setIfInBounds_toArray, List.set_cons_zero, List.set_cons_succ]
      generalize V0.alloc (.cells #[.int .i64 0, .int .i64 0, .slice none 0 0] 24) = VA at *
      generalize V0.heap.size = cb at *
      refine wpAnyH_all (rs := [6]) (by kernel_rfl) (by simp) (AllReadyH.cons (i := 6) rfl (fun KK hK => ?_) AllReadyH.nil)
      rw [if_pos (by kernel_rfl)]
      have hQ := hide (unhide H2 VA hS)
      have hS1 := hide hS
      clear hS
      go_wp2_with fail
      refine (unhide hQ).mono ?_
      rintro r VV ⟨rfl, hVV⟩
      replace hVV := hVV.symm
      subst hVV
      clear hQ
      go_wp2_with fail
      refine hK.out _ _ (unhide hS1) (fun hS => ?_)
      clear hK hS1
      try simp only [Act.put, List.setIfInBounds_toArray, List.set_cons_zero, List.set_cons_succ]
      refine anyH_at (i := 7) (v := .int .i64 (B : Int)) 63 rfl (by kernel_rfl) (by kernel_rfl) (by kernel_rfl) (by kernel_rfl) (fun _ _ _ h => h) (Or.inl ⟨by kernel_rfl, fun W hS => by have f1 := hB; go_simp⟩) hS ?_
      try simp only [Act.put, List.setIfInBounds_toArray, List.set_cons_zero, List.set_cons_succ]
      refine anyH_at (i := 8) (v := .agg #[.int .i64 (A : Int), .int .i64 (B : Int), .slice none 0 0]) 64 rfl (by kernel_rfl) (by kernel_rfl) (by kernel_rfl) (by kernel_rfl) (fun _ _ _ h => h) (Or.inl ⟨by kernel_rfl, fun W hS => by have f1 := bd24z (A : Int) (B : Int) W; go_simp⟩) hS ?_
      try simp only [Act.put, List.setIfInBounds_toArray, List.set_cons_zero, List.set_cons_succ]
      refine wpAnyH_all (rs := [10]) (by kernel_rfl) (by simp) (AllReadyH.cons (i := 10) rfl (fun KK hK => ?_) AllReadyH.nil)
      rw [if_pos (by kernel_rfl)]
      refine storeO_blk 24 _ _ rfl (show Blk _ _ _ _ from unhide HY) rfl rfl size24 rfl rfl rfl ?_
      intro V2 k2 kp
      have hS1 := hide (show Below V.heap.size V V2 from kp.bel (unhide hcb) hS)
      clear kp hS HY
      refine hK.out _ _ (unhide hS1) (fun hS => ?_)
      clear hK hS1
      refine wpAnyH_done (by kernel_rfl) ?_ _
      exact unhide H _ _ _ _ (unhide hcb) k2 hS
  · rw [if_pos (by kernel_rfl)]
    have hS1 := hide (below_via hS (below1 V0 (.cells #[.int .i64 0, .int .i64 0, .slice none 0 0] 24)))
    have HY := hide (Blk.new V0 #[.int .i64 0, .int .i64 0, .slice none 0 0] 24)
    have hcb := hide hS.size
    clear hS
    go_wp2_with fail
    refine hK.out _ _ (unhide hS1) (fun hS => ?_)
    clear hK hS1
    try simp only [Act.put, List.setIfInBounds_toArray, List.set_cons_zero, List.set_cons_succ]
    generalize V0.alloc (.cells #[.int .i64 0, .int .i64 0, .slice none 0 0] 24) = VA at *
    generalize V0.heap.size = cb at *
    refine wpAnyH_all (rs := [2]) (by kernel_rfl) (by simp) (AllReadyH.cons (i := 2) rfl (fun KK hK => ?_) AllReadyH.nil)
    rw [if_pos (by kernel_rfl)]
    have hQ := hide (unhide H1 VA hS)
    have hS1 := hide hS
    clear hS
    go_wp2_with fail
    refine (unhide hQ).mono ?_
    rintro r VV ⟨rfl, hVV⟩
    replace hVV := hVV.symm
    subst hVV
    clear hQ
    go_wp2_with fail
    refine hK.out _ _ (unhide hS1) (fun hS => ?_)
    clear hK hS1
    try simp only [Act.put, List.setIfInBounds_toArray, List.set_cons_zero, List.set_cons_succ]
    refine anyH_at (i := 3) (v := .int .i64 (A : Int)) 59 rfl (by kernel_rfl) (by kernel_rfl) (by kernel_rfl) (by kernel_rfl) (fun _ _ _ h => h) (Or.inl ⟨by kernel_rfl, fun W hS => by have f1 := hA; go_simp⟩) hS ?_
    try simp only [Act.put, List.setIfInBounds_toArray, List.set_cons_zero, List.set_cons_succ]
    refine wpAnyH_all (rs := [6]) (by kernel_rfl) (by simp) (AllReadyH.cons (i := 6) rfl (fun KK hK => ?_) AllReadyH.nil)
    rw [if_pos (by kernel_rfl)]
    have hQ := hide (unhide H2 VA hS)
    have hS1 := hide hS
    clear hS
    go_wp2_with fail
    refine (unhide hQ).mono ?_
    rintro r VV ⟨rfl, hVV⟩
    replace hVV := hVV.symm
    subst hVV
    clear hQ
    go_wp2_with fail
    refine hK.out _ _ (unhide hS1) (fun hS => ?_)
    clear hK hS1
    try simp only [Act.put, List.setIfInBounds_toArray, List.set_cons_zero, List.set_cons_succ]
    refine anyH_at (i := 7) (v := .int .i64 (B : Int)) 63 rfl (by kernel_rfl) (by kernel_rfl) (by kernel_rfl) (by kernel_rfl) (fun _ _ _ h => h) (Or.inl ⟨by kernel_rfl, fun W hS => by have f1 := hB; go_simp⟩) hS ?_
    try simp only [Act.put, List.setIfInBounds_toArray, List.set_cons_zero, List.set_cons_succ]
    refine anyH_at (i := 8) (v := .agg #[.int .i64 (A : Int), .int .i64 (B : Int), .slice none 0 0]) 64 rfl (by kernel_rfl) (by kernel_rfl) (by kernel_rfl) (by kernel_rfl) (fun _ _ _ h => h) (Or.inl ⟨by kernel_rfl, fun W hS => by have f1 := bd24z (A : Int) (B : Int) W; go_simp⟩) hS ?_
    try simp only [Act.put, List.setIfInBounds_toArray, List.set_cons_zero, List.set_cons_succ]
    refine wpAnyH_all (rs := [10]) (by kernel_rfl) (by simp) (AllReadyH.cons (i := 10) rfl (fun KK hK => ?_) AllReadyH.nil)
    rw [if_pos (by kernel_rfl)]
    refine storeO_blk 24 _ _ rfl (show Blk _ _ _ _ from unhide HY) rfl rfl size24 rfl rfl rfl ?_
    intro V2 k2 kp
    have hS1 := hide (show Below V.heap.size V V2 from kp.bel (unhide hcb) hS)
    clear kp hS HY
    refine hK.out _ _ (unhide hS1) (fun hS => ?_)
    clear hK hS1
    refine wpAnyH_done (by kernel_rfl) ?_ _
    exact unhide H _ _ _ _ (unhide hcb) k2 hS
end Go.Proofs.Ytfahgphkceilkaa
