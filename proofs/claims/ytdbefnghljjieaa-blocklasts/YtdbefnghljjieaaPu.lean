/- put; operations on one cell, of a slice literal, of append. -/
import Derived.Test.YtdbefnghljjieaaWl
import Derived.Great.BuildSlice
namespace Go.Proofs.Ytdbefnghljjieaa
open Go.RowKit
set_option linter.unusedVariables false
set_option linter.unusedSimpArgs false
theorem loadO_cell {op : Oper} {a : Act} {w : World} {K : Act → World → Prop} {Q : Exit → Act → World → Prop} (ty : TypeId) (x : Operand) (ho : op.op = .load ty x) {p : Addr} {v : Value} (hx : a.eval x = .pointer (some p)) (hr : (Instr.loadAt ty (.pointer (some p))).run Try.prog w = .ok v w) (h : K (a.put op.dst v) w) : op.wp Try.prog a w K Q := by
  unfold Oper.wp execOp
  simp only [ho, hx, Sem.run_bind, hr, Result.andThen_ok, Sem.run_pure]
  exact h
theorem load60 {w : World} {p : Addr} {v : Value} (h : w.cell? p = some v) : (Instr.loadAt 60 (.pointer (some p))).run Try.prog w = .ok v w := by go_simp
theorem load42 {w : World} {p : Addr} {v : Value} (h : w.cell? p = some v) : (Instr.loadAt 42 (.pointer (some p))).run Try.prog w = .ok v w := by go_simp
theorem info70 : (Try.prog.info? 70).map (fun i => (i.zero, i.size, i.bytes)) = some (some (.agg (wrV (0, zs64)).toArray), 65, 72) := by kernel_rfl
theorem info66 : (Try.prog.info? 66).map (fun i => (i.zero, i.size, i.bytes)) = some (some (.agg (wrV (0, zs64)).toArray), 65, 72) := by kernel_rfl
theorem bs_run (T E : TypeId) (hu : Try.prog.underlying T = some (.slice E)) (hinfo : (Try.prog.info? E).map (fun i => (i.zero, i.size, i.bytes)) = some (some (.agg (wrV (0, zs64)).toArray), 65, 72)) (l : List Value) (hl : l.length = 65) (w : World) : (Instr.buildSlice T 1 #[(0, .agg l.toArray)]).run Try.prog w = .ok (.slice (some ⟨w.heap.size, 0, none⟩) 1 1) (w.alloc (.cells l.toArray E)) := by
  obtain ⟨i0, hi, hz0, hz1, hz2⟩ := info_parts hinfo
  refine run_buildSlice w T E 1 _ _ i0 _ hu hi hz0 (by rw [hz1]; decide) (by rw [hz1]; decide) ?_
  rw [hz1, fill_cons (vs := l) (off := 0) (n := 65) rfl rfl hl (by simp), Instr.fill]
  congr 1
  exact sets_all (vs := l.toArray) (by simp [hl])
theorem bsO {op : Oper} {a : Act} {w : World} {K : Act → World → Prop} {Q : Exit → Act → World → Prop} (T E : TypeId) (hu : Try.prog.underlying T = some (.slice E)) (hinfo : (Try.prog.info? E).map (fun i => (i.zero, i.size, i.bytes)) = some (some (.agg (wrV (0, zs64)).toArray), 65, 72)) (x : Operand) (ho : op.op = .buildSlice T 1 #[(0, x)]) {l : List Value} (hx : a.eval x = .agg l.toArray) (hl : l.length = 65)
    (h : ∀ W, Blk W w.heap.size l.toArray E → Below w.heap.size w W → K (a.put op.dst (.slice (some ⟨w.heap.size, 0, none⟩) 1 1)) W) : op.wp Try.prog a w K Q := by
  unfold Oper.wp execOp
  have e : (#[(0, x)] : Array (Nat × Operand)).map (fun (i, x) => (i, a.eval x)) = #[(0, .agg l.toArray)] := by simp [hx]
  simp only [ho, e, Sem.run_bind, bs_run T E hu hinfo l hl w, Result.andThen_ok, Sem.run_pure]
  exact h _ (Blk.new _ _ _) (below1 _ _)
theorem there_cell {w : World} {b k : Nat} {T : TypeId} {old : Array Value} (hB : Blk w b old T) (hk : k < old.size) : w.there b k 1 := hB.thereAt (by omega)
theorem run_cell {w : World} {b k : Nat} {ty : TypeId} {v : Value} (hT : w.there b k 1) (hi : (Try.prog.info? ty).map (·.size) = some 1) (h1 : v.oneCell' = true) : (storeVar ty ⟨b, k, none⟩ v).run Try.prog w = .ok () (w.setCells b k [v]) := by
  have hc : v.cells = #[v] := by cases v <;> first | rfl | cases h1
  have := run_storeCells_cells (P := Try.prog) b k [v] 0 w (fun j hj => by simpa using (hT j (by simpa using hj)).1) (fun j hj => by simpa using (hT j (by simpa using hj)).2) (fun x hx => by simp at hx; subst hx; exact h1)
  cases hq : Try.prog.info? ty with
  | none => simp [hq] at hi
  | some i =>
    have hs : i.size = 1 := by simpa [hq] using hi
    simp only [Nat.add_zero] at this
    simp [storeVar, sizeOf, typeInfo, hq, hc, hs, this]
theorem storeO_cell {op : Oper} {a : Act} {w : World} {K : Act → World → Prop} {Q : Exit → Act → World → Prop} (ty : TypeId) (x y : Operand) (ho : op.op = .store ty x y) {b k : Nat} {T : TypeId} {old new : Array Value} {v : Value} (hB : Blk w b old T) (hx : a.eval x = .pointer (some ⟨b, k, none⟩)) (hy : a.eval y = v) (hk : k < old.size) (hi : (Try.prog.info? ty).map (·.size) = some 1) (h1 : v.oneCell' = true) (hn : old.setIfInBounds k v = new)
    (h : ∀ W, Blk W b new T → But (fun x => x = b) w W → K (a.put op.dst undef) W) : op.wp Try.prog a w K Q := by
  unfold Oper.wp execOp
  simp only [ho, hx, hy, Instr.storeAt, Instr.sureAddr, Sem.run_bind, Sem.run_pure, Result.andThen_ok, run_cell (there_cell hB hk) hi h1]
  exact h _ (by rw [← hn]; exact hB.set k v) (but_setCells [v] k w)
theorem store_cell {ops : Array Oper} {rest : List Oper} {op : Oper} {a : Act} {w : World} {Q : Exit → Act → World → Prop} (hgd : op.guard = none) (ty : TypeId) (x y : Operand) (ho : op.op = .store ty x y) {b k : Nat} {T : TypeId} {old new : Array Value} {v : Value} (hB : Blk w b old T) (hx : a.eval x = .pointer (some ⟨b, k, none⟩)) (hy : a.eval y = v) (hk : k < old.size) (hi : (Try.prog.info? ty).map (·.size) = some 1) (h1 : v.oneCell' = true) (hn : old.setIfInBounds k v = new)
    (h : ∀ W, Blk W b new T → But (fun x => x = b) w W → wpList Try.prog ops Q rest (a.put op.dst undef) W) : wpList Try.prog ops Q (op :: rest) a w :=
  wpList_plain hgd fun _ hK => storeO_cell ty x y ho hB hx hy hk hi h1 hn (fun W h1 h2 => hK _ _ (h W h1 h2))
theorem size60 : (Try.prog.info? 60).map (·.size) = some 1 := by kernel_rfl
theorem size42 : (Try.prog.info? 42).map (·.size) = some 1 := by kernel_rfl
/-- Append of one write to a queue. -/
theorem appO {Y : Lay} {o : Oper} {a : Act} {w : World} {K : Act → World → Prop} {Q : Exit → Act → World → Prop} {bs bp : Nat} {vq : Value} {A : Stt} {q : Nat × List Nat} (T : TypeId) (hu : Try.prog.underlying T = some (.slice Y.TW)) (hinfo : (Try.prog.info? Y.TW).map (fun i => (i.zero, i.size, i.bytes)) = some (some (.agg (wrV (0, zs64)).toArray), 65, 72)) (s x : Operand)
    (ho : o.op = .call { callee := .builtin .append, args := #[s, x], argTypes := #[T, T] }) (h0 : Sto Y w bs bp vq A) (hs : a.eval s = vq) {g : Nat} (hx : a.eval x = .slice (some ⟨g, 0, none⟩) 1 1) (hg : Blk w g (wrV q).toArray Y.TW) (hq : q.1 < A.L.length ∧ q.2.length = 64) (hn : A.W.length < 4096)
    (h : ∀ v' w', But (fun k => vq.ownBlock = some k) w w' → w'.ownsRow 0 Y.TW 65 v' (A.W.length + 1) ((A.W ++ [q]).map wrV).flatten → v'.oneCell' = true → (∀ k, v'.ownBlock = some k → vq.ownBlock = some k ∨ w.heap.size ≤ k) → K (a.put o.dst v') w') : o.wp Try.prog a w K Q := by
  obtain ⟨i0, hi, hz0, hz1, hz2⟩ := info_parts hinfo
  refine wp_append_lies w s x T ho 0 Y.TW i0 _ 65 72 hu hi hz0 hz1 hz2 (by simp [Value.cells, wrV_len, zs_len]) (by decide) vq A.W.length _ hs h0.q ⟨g, 0, none⟩ 1 1 (wrV q) hx (by rw [wrV_len, hq.2]) (fun j u hu => World.news_of_block hg j u (by simpa using hu)) (one_wrV q) (by decide) (by unfold maxLen; omega) (by omega) (Nat.zero_le _) w.heap.size rfl ?_
  intro g' cap w' hown hgrow hor hlt
  refine h _ w' (but_grown hgrow) ?_ rfl (fun k hk => ?_)
  · rw [List.map_append, List.flatten_append]
    simpa using hown
  · have e : g' = k := by simpa [Value.ownBlock] using hk
    subst e
    rcases hor with e | e
    · exact Or.inl e
    · exact Or.inr (by omega)
set_option maxHeartbeats 2000000 in
set_option maxRecDepth 20000 in
theorem put_any (bs bp : Nat) (vq : Value) (A : Stt) (q : Nat × List Nat) (w : World) (h : Sto LP w bs bp vq A) (hq : q.1 < A.L.length ∧ q.2.length = 64) (hn : A.W.length < 4096) : Calls Try.prog 33 #[.pointer (some ⟨bs, 1, none⟩), .agg (wrV q).toArray] w fun e w' => e = .returned (.tuple #[]) ∧ ∃ v', Sto LP w' bs bp v' ⟨A.L, A.W ++ [q]⟩ ∧ But (Foot bs bp vq) w w' ∧ ∀ k, v'.ownBlock = some k → vq.ownBlock = some k ∨ w.heap.size ≤ k := by
  have HK := hide h
  have HQ := hide hq
  have Hn := hide hn
  have Hn2 := hide h.n2
  have Hn3 := hide h.n3
  have hw := hide (wrV_len q)
  rw [hq.2] at hw
  have hbs := h.s.lt
  have hbp := h.p.lt
  have hqb := hide (fun k e => (h.q.lt k e).2)
  clear h hq hn
  go_enter Try.func33, Try.ntmps33
  go_wp2_with (refine box_rg rfl 70 _ rfl (l := wrV q) rfl ?_)
  intro W HX hb
  have HX := hide HX
  have hqx : vq.ownBlock ≠ some w.heap.size := fun c => by have := unhide hqb _ c; omega
  have Hqx := hide hqx
  clear hqx hqb
  replace HK := hide ((unhide HK).below hb)
  have HN := hide (but_of hb (Foot bs bp vq))
  clear hb
  generalize hbxe : w.heap.size = bx at *
  go_wp2_with fail
  refine wp_region_noPanic ?_
  refine wp_region_held_drew (S := fun W => Blk W bx (wrV q).toArray 70) (by kernel_rfl) (unhide HX) (fun hS => ?_)
  replace HN := hide (but_drew (unhide HN))
  replace HK := hide ((unhide HK).below (Below.refl _ _).drew)
  have hz0 : w.heap.size ≤ W.drew.heap.size := (unhide HN).size
  have hbx : bx < W.drew.heap.size := hS.lt
  generalize W.drew = W0 at *
  refine anyH_at (i := 0) (v := .pointer (some ⟨bs, 1, none⟩)) 4 rfl (by kernel_rfl) (by kernel_rfl) (by kernel_rfl) (by kernel_rfl) (fun _ _ _ h => h) (Or.inl ⟨by kernel_rfl, fun W hS => by go_simp⟩) hS ?_
  try simp only [Act.put, List.setIfInBounds_toArray, List.set_cons_zero, List.set_cons_succ]
  refine anyH_at (i := 1) (v := .pointer (some ⟨bs, 1, none⟩)) 5 rfl (by kernel_rfl) (by kernel_rfl) (by kernel_rfl) (by kernel_rfl) (fun _ _ _ h => h) (Or.inl ⟨by kernel_rfl, fun W hS => by go_simp⟩) hS ?_
  try simp only [Act.put, List.setIfInBounds_toArray, List.set_cons_zero, List.set_cons_succ]
  refine anyH_at (i := 2) (v := .pointer (some ⟨bs, 1, none⟩)) 6 rfl (by kernel_rfl) (by kernel_rfl) (by kernel_rfl) (by kernel_rfl) (fun _ _ _ h => h) (Or.inl ⟨by kernel_rfl, fun W hS => by go_simp⟩) hS ?_
  try simp only [Act.put, List.setIfInBounds_toArray, List.set_cons_zero, List.set_cons_succ]
  refine anyH_at (i := 3) (v := .pointer (some ⟨bs, 1, none⟩)) 7 rfl (by kernel_rfl) (by kernel_rfl) (by kernel_rfl) (by kernel_rfl) (fun _ _ _ h => h) (Or.inl ⟨by kernel_rfl, fun W hS => by go_simp⟩) hS ?_
  try simp only [Act.put, List.setIfInBounds_toArray, List.set_cons_zero, List.set_cons_succ]
  refine anyH_at (i := 5) (v := .agg (wrV q).toArray) 9 rfl (by kernel_rfl) (by kernel_rfl) (by kernel_rfl) (by kernel_rfl) (fun _ _ _ h => h) (ylo_rg (by kernel_rfl) 70 _ rfl rfl (fun W hS => hS.rg) row70 size70 (unhide hw)) hS ?_
  try simp only [Act.put, List.setIfInBounds_toArray, List.set_cons_zero, List.set_cons_succ]
  refine anyH_two (i := 4) (j := 6) (by kernel_rfl) rfl rfl rfl rfl ?_ ?_
  · refine loadO_cell 60 _ rfl (by kernel_rfl) (load60 ((unhide HK).s.at 1 vq rfl)) ?_
    refine ⟨hS, ?_⟩
    try simp only [Act.put, List.setIfInBounds_toArray, List.set_cons_zero, List.set_cons_succ]
    refine anyH_op (i := 6) (by kernel_rfl) rfl rfl ?_
    refine bsO 60 70 Try.underlying60 info70 _ rfl (l := wrV q) (by kernel_rfl) (unhide hw) ?_
    intro W2 hg hb
    refine ⟨hS.keep hb, ?_⟩
    try simp only [Act.put, List.setIfInBounds_toArray, List.set_cons_zero, List.set_cons_succ]
    have hS := hS.keep hb
    have HK2 := hide ((unhide HK).below hb)
    have HN2 := hide ((unhide HN).trans (but_of hb (Foot bs bp vq)) (fun x hx => Or.inl hx))
    have hz := hb.size
    refine anyH_op (i := 7) (by kernel_rfl) rfl rfl ?_
    refine appO (Y := LP) (q := q) 60 Try.underlying60 info70 _ _ rfl (unhide HK2) (by kernel_rfl) (by kernel_rfl) hg (unhide HQ) (unhide Hn) ?_
    intro v3 W3 hb3 ho3 h13 hf3
    have hS3 : Blk W3 bx (wrV q).toArray 70 := hb3.blk hS (fun c => unhide Hqx c)
    refine ⟨hS3, ?_⟩
    try simp only [Act.put, List.setIfInBounds_toArray, List.set_cons_zero, List.set_cons_succ]
    clear hS
    have hS := hS3
    have HK3 := hide (show Sto LP W3 bs bp vq A ∨ True from Or.inr trivial)
    have hs3 := hide (hb3.blk (unhide HK2).s (unhide Hn2))
    have hp3 := hide (hb3.blk (unhide HK2).p (unhide Hn3))
    replace HN2 := hide ((unhide HN2).trans hb3 (fun x hx => Or.inl (Or.inr (Or.inr hx))))
    refine anyH_at (i := 8) (v := .pointer (some ⟨bs, 1, none⟩)) 12 rfl (by kernel_rfl) (by kernel_rfl) (by kernel_rfl) (by kernel_rfl) (fun _ _ _ h => h) (Or.inl ⟨by kernel_rfl, fun W hS => by go_simp⟩) hS ?_
    try simp only [Act.put, List.setIfInBounds_toArray, List.set_cons_zero, List.set_cons_succ]
    refine anyH_at (i := 9) (v := .pointer (some ⟨bs, 1, none⟩)) 13 rfl (by kernel_rfl) (by kernel_rfl) (by kernel_rfl) (by kernel_rfl) (fun _ _ _ h => h) (Or.inl ⟨by kernel_rfl, fun W hS => by go_simp⟩) hS ?_
    try simp only [Act.put, List.setIfInBounds_toArray, List.set_cons_zero, List.set_cons_succ]
    refine anyH_op (i := 10) (by kernel_rfl) rfl rfl ?_
    refine storeO_cell (k := 1) (v := v3) 60 _ _ rfl (unhide hs3) (by kernel_rfl) (by kernel_rfl) (Nat.lt_of_lt_of_eq (by decide : 1 < 2) rfl) size60 h13 rfl ?_
    intro W4 hs4 hb4
    have hf4 : ∀ k, v3.ownBlock = some k → vq.ownBlock = some k ∨ bx ≤ k := fun k hk => by
      rcases hf3 k hk with e | e
      · exact Or.inl e
      · exact Or.inr (by omega)
    have m2 : v3.ownBlock ≠ some bs := fun c => by
      rcases hf4 bs c with e | e
      · exact unhide Hn2 e
      · omega
    have m3 : v3.ownBlock ≠ some bp := fun c => by
      rcases hf4 bp c with e | e
      · exact unhide Hn3 e
      · omega
    refine ⟨hb4.blk hS (by omega), ?_⟩
    try simp only [Act.put, List.setIfInBounds_toArray, List.set_cons_zero, List.set_cons_succ]
    have HF : Hid (Sto LP W4 bs bp v3 ⟨A.L, A.W ++ [q]⟩) := hide ((unhide HK2).queue hs4 (hb4.blk (unhide hp3) (fun e => (unhide HK2).n1 e.symm)) (by rw [List.length_append]; exact own_keep ho3 hb4 (fun k e c => m2 (by rw [e, c]))) m2 m3 (fun y hy => by
      rcases List.mem_append.1 hy with hy | hy
      · exact (unhide HK2).good.w y hy
      · rw [List.mem_singleton.1 hy]; exact unhide HQ) (by rw [List.length_append]; simp; have := unhide Hn; omega))
    replace HN2 := hide ((unhide HN2).trans hb4 (fun x hx => Or.inl (Or.inl hx)))
    have HF4 := hide hf4
    clear hS hS3 hf4 hf3 m2 m3 hs4 hb4 hb3 ho3 h13 hs3 hp3 hg hb hz
    refine wpAnyH_done (by kernel_rfl) ?_ _
    refine noPanic_out ?_
    go_wp2_with fail
    go_end0
    exact ⟨rfl, _, unhide HF, unhide HN2, unhide HF4⟩
  · refine bsO 60 70 Try.underlying60 info70 _ rfl (l := wrV q) (by kernel_rfl) (unhide hw) ?_
    intro W2 hg hb
    refine ⟨hS.keep hb, ?_⟩
    try simp only [Act.put, List.setIfInBounds_toArray, List.set_cons_zero, List.set_cons_succ]
    refine anyH_op (i := 4) (by kernel_rfl) rfl rfl ?_
    refine loadO_cell 60 _ rfl (by kernel_rfl) (load60 (((unhide HK).below hb).s.at 1 vq rfl)) ?_
    refine ⟨hS.keep hb, ?_⟩
    try simp only [Act.put, List.setIfInBounds_toArray, List.set_cons_zero, List.set_cons_succ]
    have hS := hS.keep hb
    have HK2 := hide ((unhide HK).below hb)
    have HN2 := hide ((unhide HN).trans (but_of hb (Foot bs bp vq)) (fun x hx => Or.inl hx))
    have hz := hb.size
    refine anyH_op (i := 7) (by kernel_rfl) rfl rfl ?_
    refine appO (Y := LP) (q := q) 60 Try.underlying60 info70 _ _ rfl (unhide HK2) (by kernel_rfl) (by kernel_rfl) hg (unhide HQ) (unhide Hn) ?_
    intro v3 W3 hb3 ho3 h13 hf3
    have hS3 : Blk W3 bx (wrV q).toArray 70 := hb3.blk hS (fun c => unhide Hqx c)
    refine ⟨hS3, ?_⟩
    try simp only [Act.put, List.setIfInBounds_toArray, List.set_cons_zero, List.set_cons_succ]
    clear hS
    have hS := hS3
    have HK3 := hide (show Sto LP W3 bs bp vq A ∨ True from Or.inr trivial)
    have hs3 := hide (hb3.blk (unhide HK2).s (unhide Hn2))
    have hp3 := hide (hb3.blk (unhide HK2).p (unhide Hn3))
    replace HN2 := hide ((unhide HN2).trans hb3 (fun x hx => Or.inl (Or.inr (Or.inr hx))))
    refine anyH_at (i := 8) (v := .pointer (some ⟨bs, 1, none⟩)) 12 rfl (by kernel_rfl) (by kernel_rfl) (by kernel_rfl) (by kernel_rfl) (fun _ _ _ h => h) (Or.inl ⟨by kernel_rfl, fun W hS => by go_simp⟩) hS ?_
    try simp only [Act.put, List.setIfInBounds_toArray, List.set_cons_zero, List.set_cons_succ]
    refine anyH_at (i := 9) (v := .pointer (some ⟨bs, 1, none⟩)) 13 rfl (by kernel_rfl) (by kernel_rfl) (by kernel_rfl) (by kernel_rfl) (fun _ _ _ h => h) (Or.inl ⟨by kernel_rfl, fun W hS => by go_simp⟩) hS ?_
    try simp only [Act.put, List.setIfInBounds_toArray, List.set_cons_zero, List.set_cons_succ]
    refine anyH_op (i := 10) (by kernel_rfl) rfl rfl ?_
    refine storeO_cell (k := 1) (v := v3) 60 _ _ rfl (unhide hs3) (by kernel_rfl) (by kernel_rfl) (Nat.lt_of_lt_of_eq (by decide : 1 < 2) rfl) size60 h13 rfl ?_
    intro W4 hs4 hb4
    have hf4 : ∀ k, v3.ownBlock = some k → vq.ownBlock = some k ∨ bx ≤ k := fun k hk => by
      rcases hf3 k hk with e | e
      · exact Or.inl e
      · exact Or.inr (by omega)
    have m2 : v3.ownBlock ≠ some bs := fun c => by
      rcases hf4 bs c with e | e
      · exact unhide Hn2 e
      · omega
    have m3 : v3.ownBlock ≠ some bp := fun c => by
      rcases hf4 bp c with e | e
      · exact unhide Hn3 e
      · omega
    refine ⟨hb4.blk hS (by omega), ?_⟩
    try simp only [Act.put, List.setIfInBounds_toArray, List.set_cons_zero, List.set_cons_succ]
    have HF : Hid (Sto LP W4 bs bp v3 ⟨A.L, A.W ++ [q]⟩) := hide ((unhide HK2).queue hs4 (hb4.blk (unhide hp3) (fun e => (unhide HK2).n1 e.symm)) (by rw [List.length_append]; exact own_keep ho3 hb4 (fun k e c => m2 (by rw [e, c]))) m2 m3 (fun y hy => by
      rcases List.mem_append.1 hy with hy | hy
      · exact (unhide HK2).good.w y hy
      · rw [List.mem_singleton.1 hy]; exact unhide HQ) (by rw [List.length_append]; simp; have := unhide Hn; omega))
    replace HN2 := hide ((unhide HN2).trans hb4 (fun x hx => Or.inl (Or.inl hx)))
    have HF4 := hide hf4
    clear hS hS3 hf4 hf3 m2 m3 hs4 hb4 hb3 ho3 h13 hs3 hp3 hg hb hz
    refine wpAnyH_done (by kernel_rfl) ?_ _
    refine noPanic_out ?_
    go_wp2_with fail
    go_end0
    exact ⟨rfl, _, unhide HF, unhide HN2, unhide HF4⟩
end Go.Proofs.Ytdbefnghljjieaa
