/- The document's Write. -/
import Derived.Test.YtdbefnghljjieaaPb
import Derived.Handy
namespace Go.Proofs.Ytdbefnghljjieaa
open Go.RowKit
set_option linter.unusedVariables false
set_option linter.unusedSimpArgs false
theorem anyH_storec {ops : Array Oper} {Q : Exit → Act → World → Prop} {md : Region.Mode} {S : World → Prop} {fuel : Nat} {listed : Array Bool} {a : Act} {w : World} {i : Nat} {op : Oper} (hr : Region.ready md ops listed = [i]) (ho : ops[i]? = some op) (hg : op.guard = none) (ty : TypeId) (x y : Operand) (hop : op.op = .store ty x y) {b k : Nat} {T : TypeId} {old new : Array Value} {v : Value} (hB : Blk w b old T) (hx : a.eval x = .pointer (some ⟨b, k, none⟩)) (hy : a.eval y = v) (hk : k < old.size) (hi : (Try.prog.info? ty).map (·.size) = some 1) (h1 : v.oneCell' = true) (hn : old.setIfInBounds k v = new)
    (h : ∀ W, Blk W b new T → But (fun x => x = b) w W → S W ∧ wpAnyH Try.prog md ops Q S fuel (listed.setIfInBounds i true) (a.put op.dst undef) W) : wpAnyH Try.prog md ops Q S (fuel + 1) listed a w :=
  anyH_op hr ho hg (storeO_cell ty x y hop hB hx hy hk hi h1 hn h)
set_option maxHeartbeats 4000000 in
set_option maxRecDepth 20000 in
theorem rwr_ok (bs bp : Nat) (vq : Value) (a : Option Addr) (cap : Nat) (A : Stt) (k : Nat) (l : List Nat) (w : World) (h : Sto LR w bs bp vq A) (hvq : vq = .slice a A.W.length cap) (hq : k < A.L.length ∧ l.length = 64) (hn : A.W.length < 4096) : Calls Try.prog 13 #[.pointer (some ⟨bs, 0, none⟩), .int .i64 (k : Int), bk l] w fun e w' => e = .returned (.int .i64 0) ∧ StepP LR w w' (.pointer (some ⟨bs, 0, none⟩)) ⟨A.L, A.W ++ [(k, l)]⟩ (Foot bs bp vq) := by
  have HK := hide h
  have HQ := hide hq
  have Hn := hide hn
  have Hn2 := hide h.n2
  have Hn3 := hide h.n3
  have hw := hide (show (wrV (k, l)).length = 65 by rw [wrV_len]; show l.length + 1 = 65; rw [hq.2])
  have hl := hide (show (byv l).length = 64 by rw [byv_len]; exact hq.2)
  have hll := hide hq.2
  have hbs := h.s.lt
  have hbp := h.p.lt
  have hqb := hide (fun k e => (h.q.lt k e).2)
  have k1 : ¬ (k : Int) < 0 := by omega
  have k2 : (k : Int) < (A.L.length : Int) := by have := hq.1; omega
  have d1 : decide ((4096 : Int) ≤ (A.W.length : Int)) = false := decide_eq_false (by omega)
  have c0' := h.s.at 0 _ rfl
  have c1' := h.s.at 1 _ rfl
  clear h hq hn
  go_enter Try.func13, Try.ntmps13
  go_wp2_with (refine box_rg rfl 37 _ rfl (l := byv l) rfl ?_)
  intro W HX hb
  have HX := hide HX
  have hqx : vq.ownBlock ≠ some w.heap.size := fun c => by have := unhide hqb _ c; omega
  have Hqx := hide hqx
  clear hqx hqb
  have c0 := (hb.cell (p := ⟨bs, 0, none⟩) hbs).trans c0'
  have c1 := (hb.cell (p := ⟨bs, 1, none⟩) hbs).trans c1'
  rw [show (#[Value.slice (some ⟨bp, 0, none⟩) A.L.length A.L.length, vq] : Array Value)[1] = .slice a A.W.length cap from hvq] at c1
  clear c0' c1'
  replace HK := hide ((unhide HK).below hb)
  have HN := hide (but_of hb (Foot bs bp vq))
  clear hb
  generalize hbxe : w.heap.size = bx at *
  replace hvq := hide hvq
  go_wp2_with fail
  clear c0 c1 k1 k2 d1
  refine wp_region_noPanic ?_
  refine wp_region_held_drew (S := fun W => Blk W bx (byv l).toArray 37) (by kernel_rfl) (unhide HX) (fun hS => ?_)
  replace HN := hide (but_drew (unhide HN))
  replace HK := hide ((unhide HK).below (Below.refl _ _).drew)
  have hbx : bx < W.drew.heap.size := hS.lt
  generalize W.drew = W0 at *
  refine anyH_at (i := 0) (v := .pointer (some ⟨bs, 0, none⟩)) 24 rfl (by kernel_rfl) (by kernel_rfl) (by kernel_rfl) (by kernel_rfl) (fun _ _ _ h => h) (Or.inl ⟨by kernel_rfl, fun W hS => by go_simp⟩) hS ?_
  try simp only [Act.put, List.setIfInBounds_toArray, List.set_cons_zero, List.set_cons_succ]
  refine anyH_at (i := 1) (v := .pointer (some ⟨bs, 0, none⟩)) 25 rfl (by kernel_rfl) (by kernel_rfl) (by kernel_rfl) (by kernel_rfl) (fun _ _ _ h => h) (Or.inl ⟨by kernel_rfl, fun W hS => by go_simp⟩) hS ?_
  try simp only [Act.put, List.setIfInBounds_toArray, List.set_cons_zero, List.set_cons_succ]
  refine anyH_at (i := 2) (v := .pointer (some ⟨bs, 0, none⟩)) 26 rfl (by kernel_rfl) (by kernel_rfl) (by kernel_rfl) (by kernel_rfl) (fun _ _ _ h => h) (Or.inl ⟨by kernel_rfl, fun W hS => by go_simp⟩) hS ?_
  try simp only [Act.put, List.setIfInBounds_toArray, List.set_cons_zero, List.set_cons_succ]
  refine anyH_at (i := 3) (v := .pointer (some ⟨bs, 1, none⟩)) 27 rfl (by kernel_rfl) (by kernel_rfl) (by kernel_rfl) (by kernel_rfl) (fun _ _ _ h => h) (Or.inl ⟨by kernel_rfl, fun W hS => by go_simp⟩) hS ?_
  try simp only [Act.put, List.setIfInBounds_toArray, List.set_cons_zero, List.set_cons_succ]
  refine anyH_at (i := 5) (v := .int .i64 (k : Int)) 29 rfl (by kernel_rfl) (by kernel_rfl) (by kernel_rfl) (by kernel_rfl) (fun _ _ _ h => h) (Or.inl ⟨by kernel_rfl, fun W hS => by go_simp⟩) hS ?_
  try simp only [Act.put, List.setIfInBounds_toArray, List.set_cons_zero, List.set_cons_succ]
  refine anyH_at (i := 6) (v := .agg (byv l).toArray) 30 rfl (by kernel_rfl) (by kernel_rfl) (by kernel_rfl) (by kernel_rfl) (fun _ _ _ h => h) (ylo_rg (by kernel_rfl) 37 _ rfl rfl (fun W hS => hS.rg) row37 size37 (unhide hl)) hS ?_
  try simp only [Act.put, List.setIfInBounds_toArray, List.set_cons_zero, List.set_cons_succ]
  refine anyH_at (i := 7) (v := .agg _) 31 rfl (by kernel_rfl) (by kernel_rfl) (by kernel_rfl) (by kernel_rfl) (fun _ _ _ h => h) (yl_build (by kernel_rfl) 66 _ rfl (l := [(0, .int .i64 (k : Int)), (1, bk l)]) (by kernel_rfl) (bd66 k l (unhide hll))) hS ?_
  try simp only [Act.put, List.setIfInBounds_toArray, List.set_cons_zero, List.set_cons_succ]
  refine anyH_two (i := 4) (j := 8) (by kernel_rfl) rfl rfl rfl rfl ?_ ?_
  · refine loadO_cell 42 _ rfl (by kernel_rfl) (load42 ((unhide HK).s.at 1 vq rfl)) ?_
    refine ⟨hS, ?_⟩
    try simp only [Act.put, List.setIfInBounds_toArray, List.set_cons_zero, List.set_cons_succ]
    refine anyH_op (i := 8) (by kernel_rfl) rfl rfl ?_
    refine bsO 42 66 Try.underlying42 info66 _ rfl (l := wrV (k, l)) (by kernel_rfl) (unhide hw) ?_
    intro W2 hg hb
    refine ⟨hS.keep hb, ?_⟩
    try simp only [Act.put, List.setIfInBounds_toArray, List.set_cons_zero, List.set_cons_succ]
    have hS := hS.keep hb
    have HK2 := hide ((unhide HK).below hb)
    have HN2 := hide ((unhide HN).trans (but_of hb (Foot bs bp vq)) (fun x hx => Or.inl hx))
    have hz := hb.size
    refine anyH_op (i := 9) (by kernel_rfl) rfl rfl ?_
    refine appO (Y := LR) (q := (k, l)) 42 Try.underlying42 info66 _ _ rfl (unhide HK2) (by kernel_rfl) (by kernel_rfl) hg (unhide HQ) (unhide Hn) ?_
    intro v3 W3 hb3 ho3 h13 hf3
    have hS3 : Blk W3 bx (byv l).toArray 37 := hb3.blk hS (fun c => unhide Hqx c)
    refine ⟨hS3, ?_⟩
    try simp only [Act.put, List.setIfInBounds_toArray, List.set_cons_zero, List.set_cons_succ]
    clear hS
    have hS := hS3
    have hs3 := hide (hb3.blk (unhide HK2).s (unhide Hn2))
    have hp3 := hide (hb3.blk (unhide HK2).p (unhide Hn3))
    replace HN2 := hide ((unhide HN2).trans hb3 (fun x hx => Or.inl (Or.inr (Or.inr hx))))
    refine anyH_at (i := 10) (v := .pointer (some ⟨bs, 0, none⟩)) 34 rfl (by kernel_rfl) (by kernel_rfl) (by kernel_rfl) (by kernel_rfl) (fun _ _ _ h => h) (Or.inl ⟨by kernel_rfl, fun W hS => by go_simp⟩) hS ?_
    try simp only [Act.put, List.setIfInBounds_toArray, List.set_cons_zero, List.set_cons_succ]
    refine anyH_at (i := 11) (v := .pointer (some ⟨bs, 1, none⟩)) 35 rfl (by kernel_rfl) (by kernel_rfl) (by kernel_rfl) (by kernel_rfl) (fun _ _ _ h => h) (Or.inl ⟨by kernel_rfl, fun W hS => by go_simp⟩) hS ?_
    try simp only [Act.put, List.setIfInBounds_toArray, List.set_cons_zero, List.set_cons_succ]
    refine anyH_storec (i := 12) (k := 1) (v := v3) (by kernel_rfl) rfl rfl 42 _ _ rfl (unhide hs3) (by kernel_rfl) (by kernel_rfl) (Nat.lt_of_lt_of_eq (by decide : 1 < 2) rfl) size42 h13 rfl ?_
    intro W4 hs4 hb4
    have hf4 : ∀ j, v3.ownBlock = some j → vq.ownBlock = some j ∨ bx ≤ j := fun j hj => by
      rcases hf3 j hj with e | e
      · exact Or.inl e
      · exact Or.inr (by omega)
    have m2 : v3.ownBlock ≠ some bs := fun c => by
      rcases hf4 bs c with e | e
      · exact unhide Hn2 e
      · omega
    have m3 : v3.ownBlock ≠ some bp := fun c => by
      rcases hf4 bp c with e | e
      · exact unhide Hn3 e
      · omega
    refine ⟨hb4.blk hS (by omega), ?_⟩
    try simp only [Act.put, List.setIfInBounds_toArray, List.set_cons_zero, List.set_cons_succ]
    have HF : Hid (Sto LR W4 bs bp v3 ⟨A.L, A.W ++ [(k, l)]⟩) := hide ((unhide HK2).queue hs4 (hb4.blk (unhide hp3) (fun e => (unhide HK2).n1 e.symm)) (by rw [List.length_append]; exact own_keep ho3 hb4 (fun j e c => m2 (by rw [e, c]))) m2 m3 (fun y hy => by
      rcases List.mem_append.1 hy with hy | hy
      · exact (unhide HK2).good.w y hy
      · rw [List.mem_singleton.1 hy]; exact unhide HQ) (by rw [List.length_append]; simp; have := unhide Hn; omega))
    replace HN2 := hide ((unhide HN2).trans hb4 (fun x hx => Or.inl (Or.inl hx)))
    have HF4 := hide hf4
    clear hS hS3 hf4 hf3 m2 m3 hs4 hb4 hb3 ho3 h13 hs3 hp3 hg hb hz
    refine wpAnyH_done (by kernel_rfl) ?_ _
    refine noPanic_out ?_
    go_wp2_with fail
    go_ret
    refine ⟨rfl, _, ⟨bs, bp, _, rfl, rfl, unhide HF⟩, unhide HN2, fun j hj => ?_⟩
    rcases hj with e | e | e
    · exact Or.inl (Or.inl e)
    · exact Or.inl (Or.inr (Or.inl e))
    · rcases unhide HF4 j e with c | c
      · exact Or.inl (Or.inr (Or.inr c))
      · exact Or.inr (by omega)
  · refine bsO 42 66 Try.underlying42 info66 _ rfl (l := wrV (k, l)) (by kernel_rfl) (unhide hw) ?_
    intro W2 hg hb
    refine ⟨hS.keep hb, ?_⟩
    try simp only [Act.put, List.setIfInBounds_toArray, List.set_cons_zero, List.set_cons_succ]
    refine anyH_op (i := 4) (by kernel_rfl) rfl rfl ?_
    refine loadO_cell 42 _ rfl (by kernel_rfl) (load42 (((unhide HK).below hb).s.at 1 vq rfl)) ?_
    refine ⟨hS.keep hb, ?_⟩
    try simp only [Act.put, List.setIfInBounds_toArray, List.set_cons_zero, List.set_cons_succ]
    have hS := hS.keep hb
    have HK2 := hide ((unhide HK).below hb)
    have HN2 := hide ((unhide HN).trans (but_of hb (Foot bs bp vq)) (fun x hx => Or.inl hx))
    have hz := hb.size
    refine anyH_op (i := 9) (by kernel_rfl) rfl rfl ?_
    refine appO (Y := LR) (q := (k, l)) 42 Try.underlying42 info66 _ _ rfl (unhide HK2) (by kernel_rfl) (by kernel_rfl) hg (unhide HQ) (unhide Hn) ?_
    intro v3 W3 hb3 ho3 h13 hf3
    have hS3 : Blk W3 bx (byv l).toArray 37 := hb3.blk hS (fun c => unhide Hqx c)
    refine ⟨hS3, ?_⟩
    try simp only [Act.put, List.setIfInBounds_toArray, List.set_cons_zero, List.set_cons_succ]
    clear hS
    have hS := hS3
    have hs3 := hide (hb3.blk (unhide HK2).s (unhide Hn2))
    have hp3 := hide (hb3.blk (unhide HK2).p (unhide Hn3))
    replace HN2 := hide ((unhide HN2).trans hb3 (fun x hx => Or.inl (Or.inr (Or.inr hx))))
    refine anyH_at (i := 10) (v := .pointer (some ⟨bs, 0, none⟩)) 34 rfl (by kernel_rfl) (by kernel_rfl) (by kernel_rfl) (by kernel_rfl) (fun _ _ _ h => h) (Or.inl ⟨by kernel_rfl, fun W hS => by go_simp⟩) hS ?_
    try simp only [Act.put, List.setIfInBounds_toArray, List.set_cons_zero, List.set_cons_succ]
    refine anyH_at (i := 11) (v := .pointer (some ⟨bs, 1, none⟩)) 35 rfl (by kernel_rfl) (by kernel_rfl) (by kernel_rfl) (by kernel_rfl) (fun _ _ _ h => h) (Or.inl ⟨by kernel_rfl, fun W hS => by go_simp⟩) hS ?_
    try simp only [Act.put, List.setIfInBounds_toArray, List.set_cons_zero, List.set_cons_succ]
    refine anyH_storec (i := 12) (k := 1) (v := v3) (by kernel_rfl) rfl rfl 42 _ _ rfl (unhide hs3) (by kernel_rfl) (by kernel_rfl) (Nat.lt_of_lt_of_eq (by decide : 1 < 2) rfl) size42 h13 rfl ?_
    intro W4 hs4 hb4
    have hf4 : ∀ j, v3.ownBlock = some j → vq.ownBlock = some j ∨ bx ≤ j := fun j hj => by
      rcases hf3 j hj with e | e
      · exact Or.inl e
      · exact Or.inr (by omega)
    have m2 : v3.ownBlock ≠ some bs := fun c => by
      rcases hf4 bs c with e | e
      · exact unhide Hn2 e
      · omega
    have m3 : v3.ownBlock ≠ some bp := fun c => by
      rcases hf4 bp c with e | e
      · exact unhide Hn3 e
      · omega
    refine ⟨hb4.blk hS (by omega), ?_⟩
    try simp only [Act.put, List.setIfInBounds_toArray, List.set_cons_zero, List.set_cons_succ]
    have HF : Hid (Sto LR W4 bs bp v3 ⟨A.L, A.W ++ [(k, l)]⟩) := hide ((unhide HK2).queue hs4 (hb4.blk (unhide hp3) (fun e => (unhide HK2).n1 e.symm)) (by rw [List.length_append]; exact own_keep ho3 hb4 (fun j e c => m2 (by rw [e, c]))) m2 m3 (fun y hy => by
      rcases List.mem_append.1 hy with hy | hy
      · exact (unhide HK2).good.w y hy
      · rw [List.mem_singleton.1 hy]; exact unhide HQ) (by rw [List.length_append]; simp; have := unhide Hn; omega))
    replace HN2 := hide ((unhide HN2).trans hb4 (fun x hx => Or.inl (Or.inl hx)))
    have HF4 := hide hf4
    clear hS hS3 hf4 hf3 m2 m3 hs4 hb4 hb3 ho3 h13 hs3 hp3 hg hb hz
    refine wpAnyH_done (by kernel_rfl) ?_ _
    refine noPanic_out ?_
    go_wp2_with fail
    go_ret
    refine ⟨rfl, _, ⟨bs, bp, _, rfl, rfl, unhide HF⟩, unhide HN2, fun j hj => ?_⟩
    rcases hj with e | e | e
    · exact Or.inl (Or.inl e)
    · exact Or.inl (Or.inr (Or.inl e))
    · rcases unhide HF4 j e with c | c
      · exact Or.inl (Or.inr (Or.inr c))
      · exact Or.inr (by omega)
theorem rwr_no (bs bp : Nat) (a : Option Addr) (cap : Nat) (A : Stt) (at_ : Int) (l : List Nat) (w : World) (h : Sto LR w bs bp (.slice a A.W.length cap) A) (hin : inR at_ A.L.length = false) : Calls Try.prog 13 #[.pointer (some ⟨bs, 0, none⟩), .int .i64 at_, bk l] w fun e w' => e = .returned (.int .i64 2) ∧ Below w.heap.size w w' := by
  have c0 := h.s.at 0 _ rfl
  have hl := h.s.lt
  clear h
  have hin' : ¬ (0 ≤ at_ ∧ at_ < (A.L.length : Int)) := by simpa [inR] using hin
  clear hin
  by_cases h0 : at_ < 0
  · clear hin'
    go_enter Try.func13, Try.ntmps13
    go_wp2_with (refine box_rg rfl 37 _ rfl (l := byv l) rfl ?_)
    intro W HX hb
    replace hb := hide hb
    clear HX c0 hl
    go_wp2_with fail
    go_ret
    exact ⟨rfl, unhide hb⟩
  · have k2 : ¬ at_ < (A.L.length : Int) := by omega
    clear hin'
    go_enter Try.func13, Try.ntmps13
    go_wp2_with (refine box_rg rfl 37 _ rfl (l := byv l) rfl ?_)
    intro W HX hb
    have c2 := (hb.cell (p := ⟨bs, 0, none⟩) hl).trans c0
    replace hb := hide hb
    clear HX c0 hl
    go_wp2_with fail
    go_ret
    exact ⟨rfl, unhide hb⟩
theorem rwr_full (bs bp : Nat) (a : Option Addr) (cap : Nat) (A : Stt) (k : Nat) (l : List Nat) (w : World) (h : Sto LR w bs bp (.slice a A.W.length cap) A) (hk : k < A.L.length) (hn : ¬ A.W.length < 4096) : Calls Try.prog 13 #[.pointer (some ⟨bs, 0, none⟩), .int .i64 (k : Int), bk l] w fun e w' => e = .returned (.int .i64 10) ∧ Below w.heap.size w w' := by
  have c0 := h.s.at 0 _ rfl
  have c1 := h.s.at 1 _ rfl
  have hl := h.s.lt
  have k1 : ¬ (k : Int) < 0 := by omega
  have k2 : (k : Int) < (A.L.length : Int) := by omega
  have d1 : decide ((4096 : Int) ≤ (A.W.length : Int)) = true := decide_eq_true (by omega)
  clear h hn
  go_enter Try.func13, Try.ntmps13
  go_wp2_with (refine box_rg rfl 37 _ rfl (l := byv l) rfl ?_)
  intro W HX hb
  have c2 := (hb.cell (p := ⟨bs, 0, none⟩) hl).trans c0
  have c3 := (hb.cell (p := ⟨bs, 1, none⟩) hl).trans c1
  replace hb := hide hb
  clear HX c0 c1 hl
  go_wp2_with fail
  go_ret
  exact ⟨rfl, unhide hb⟩
theorem rwri_any (p : Value) (A : Stt) (F : Nat → Prop) (at_ : Int) (l : List Nat) (w : World) (h : Has LR w p A F) (hl : l.length = 64) : Calls Try.prog 13 #[p, .int .i64 at_, bk l] w fun e w' => e = .returned (.int .i64 (wrE A at_)) ∧ StepP LR w w' p (wrS A at_ l) F := by
  have h0 := h
  obtain ⟨bs, bp, vq, rfl, rfl, h⟩ := h
  obtain ⟨a, cap, rfl⟩ := own_form h.q
  cases hin : inR at_ A.L.length with
  | false =>
    have e1 : wrE A at_ = 2 := by simp [wrE, hin]
    rw [show wrS A at_ l = A by rw [wrS, e1, if_neg (by decide)], e1]
    refine (rwr_no bs bp a cap A at_ l w h hin).mono ?_
    rintro e w' ⟨rfl, hb⟩
    exact ⟨rfl, StepP.same h0 hb⟩
  | true =>
    have hr : 0 ≤ at_ ∧ at_ < (A.L.length : Int) := by simpa [inR] using hin
    obtain ⟨k, rfl⟩ : ∃ k : Nat, at_ = (k : Int) := ⟨at_.toNat, by omega⟩
    by_cases hn : A.W.length < 4096
    · have e1 : wrE A (k : Int) = 0 := by simp [wrE, hin, hn]
      rw [show wrS A (k : Int) l = ⟨A.L, A.W ++ [(k, l)]⟩ by rw [wrS, e1, if_pos rfl]; rfl, e1]
      exact rwr_ok bs bp _ a cap A k l w h rfl ⟨by omega, hl⟩ hn
    · have e1 : wrE A (k : Int) = 10 := by simp [wrE, hin, hn]
      rw [show wrS A (k : Int) l = A by rw [wrS, e1, if_neg (by decide)], e1]
      refine (rwr_full bs bp a cap A k l w h (by omega) hn).mono ?_
      rintro e w' ⟨rfl, hb⟩
      exact ⟨rfl, StepP.same h0 hb⟩
end Go.Proofs.Ytdbefnghljjieaa
