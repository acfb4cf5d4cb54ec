/- settle. -/
import Derived.Test.YtdbefnghljjieaaRv
namespace Go.Proofs.Ytdbefnghljjieaa
open Go.RowKit
set_option linter.unusedVariables false
set_option linter.unusedSimpArgs false
set_option maxHeartbeats 1000000 in
theorem settle_1 (bs bp : Nat) (vq : Value) (A : Stt) (q : Nat × List Nat) (w : World) (h : Sto LP w bs bp vq A) (hq : q.1 < A.L.length ∧ q.2.length = 64) : Calls Try.prog 30 #[.pointer (some ⟨bs, 0, none⟩), .agg (wrV q).toArray, .int .u8 1] w fun e w' => e = .returned (.tuple #[]) ∧ Sto LP w' bs bp vq (setL 1 q A) ∧ But (fun k => k = bp) w w' := by
  have HK := hide h
  have HB := hide (Blk.new w (wrV q).toArray 70)
  have H0 := hide (h.below (below1 w (.cells (wrV q).toArray 70)))
  have HN := hide (but_alloc (fun k => k = bp) w (.cells (wrV q).toArray 70))
  have hne : bp ≠ w.heap.size := by have := h.p.lt; omega
  have hne2 : bs ≠ w.heap.size := by have := h.s.lt; omega
  have Hroom := hide (h.room hq.1)
  have hl : q.2.length = 64 := hq.2
  have hj := hide hq.1
  have n1 := h.n1
  clear h hq
  go_enter Try.func30, Try.ntmps30
  go_wp2_with fail
  generalize w.alloc (.cells (wrV q).toArray 70) = w0 at *
  generalize w.heap.size = bx at *
  refine wp_region_noPanic ?_
  refine wp_region_held_drew (S := fun W => Blk W bs #[.slice (some ⟨bp, 0, none⟩) A.L.length A.L.length, vq] 64 ∧ Blk W bx (wrV q).toArray 70) (by kernel_rfl) ⟨(unhide H0).s, unhide HB⟩ (fun hS => ?_)
  replace HN := hide (but_drew (unhide HN))
  replace H0 := hide ((unhide H0).below (Below.refl _ _).drew)
  generalize w0.drew = w1 at *
  refine anyH_at (i := 0) (v := .pointer (some ⟨bs, 0, none⟩)) 9 rfl (by kernel_rfl) (by kernel_rfl) (by kernel_rfl) (by kernel_rfl) (fun _ _ _ h => h) (Or.inl ⟨by kernel_rfl, fun W hS => by go_simp⟩) hS ?_
  try simp only [Act.put, List.setIfInBounds_toArray, List.set_cons_zero, List.set_cons_succ]
  refine anyH_at (i := 1) (v := .pointer (some ⟨bs, 0, none⟩)) 10 rfl (by kernel_rfl) (by kernel_rfl) (by kernel_rfl) (by kernel_rfl) (fun _ _ _ h => h) (Or.inl ⟨by kernel_rfl, fun W hS => by go_simp⟩) hS ?_
  try simp only [Act.put, List.setIfInBounds_toArray, List.set_cons_zero, List.set_cons_succ]
  refine anyH_at (i := 2) (v := .pointer (some ⟨bs, 0, none⟩)) 11 rfl (by kernel_rfl) (by kernel_rfl) (by kernel_rfl) (by kernel_rfl) (fun _ _ _ h => h) (Or.inl ⟨by kernel_rfl, fun W hS => by go_simp⟩) hS ?_
  try simp only [Act.put, List.setIfInBounds_toArray, List.set_cons_zero, List.set_cons_succ]
  refine anyH_at (i := 3) (v := .slice (some ⟨bp, 0, none⟩) A.L.length A.L.length) 12 rfl (by kernel_rfl) (by kernel_rfl) (by kernel_rfl) (by kernel_rfl) (fun _ _ _ h => h) (Or.inl ⟨by kernel_rfl, fun W hS => by have c0 := hS.1.at 0 _ rfl; go_simp⟩) hS ?_
  try simp only [Act.put, List.setIfInBounds_toArray, List.set_cons_zero, List.set_cons_succ]
  refine anyH_at (i := 4) (v := .pointer (some ⟨bx, 0, none⟩)) 13 rfl (by kernel_rfl) (by kernel_rfl) (by kernel_rfl) (by kernel_rfl) (fun _ _ _ h => h) (Or.inl ⟨by kernel_rfl, fun W hS => by go_simp⟩) hS ?_
  try simp only [Act.put, List.setIfInBounds_toArray, List.set_cons_zero, List.set_cons_succ]
  refine anyH_at (i := 5) (v := .int .i64 (q.1 : Int)) 14 rfl (by kernel_rfl) (by kernel_rfl) (by kernel_rfl) (by kernel_rfl) (fun _ _ _ h => h) (Or.inl ⟨by kernel_rfl, fun W hS => by have c1 : W.cell? ⟨bx, 0, none⟩ = some (.int .i64 (q.1 : Int)) := range_head hS.2.rg; go_simp⟩) hS ?_
  try simp only [Act.put, List.setIfInBounds_toArray, List.set_cons_zero, List.set_cons_succ]
  refine anyH_at (i := 6) (v := .pointer (some ⟨bx, 1, none⟩)) 15 rfl (by kernel_rfl) (by kernel_rfl) (by kernel_rfl) (by kernel_rfl) (fun _ _ _ h => h) (Or.inl ⟨by kernel_rfl, fun W hS => by go_simp⟩) hS ?_
  try simp only [Act.put, List.setIfInBounds_toArray, List.set_cons_zero, List.set_cons_succ]
  refine anyH_at (i := 7) (v := .agg (byv q.2).toArray) 16 rfl (by kernel_rfl) (by kernel_rfl) (by kernel_rfl) (by kernel_rfl) (fun _ _ _ h => h) (ylo_rg (by kernel_rfl) 45 _ rfl rfl (fun W hS => by have r := range_tail hS.2.rg; rwa [Nat.zero_add] at r) row45 size45 (by simp [byv_len, wrV_len, *])) hS ?_
  try simp only [Act.put, List.setIfInBounds_toArray, List.set_cons_zero, List.set_cons_succ]
  refine anyH_at (i := 8) (v := .agg _) 17 rfl (by kernel_rfl) (by kernel_rfl) (by kernel_rfl) (by kernel_rfl) (fun _ _ _ h => h) (yl_build (by kernel_rfl) 76 _ rfl (l := [(1, bk q.2)]) (by kernel_rfl) (bd76a q.2 hl)) hS ?_
  try simp only [Act.put, List.setIfInBounds_toArray, List.set_cons_zero, List.set_cons_succ]
  refine anyH_at (i := 9) (v := .pointer (some ⟨bp, q.1 * 65, none⟩)) 18 rfl (by kernel_rfl) (by kernel_rfl) (by kernel_rfl) (by kernel_rfl) (fun _ _ _ h => h) (Or.inl ⟨by kernel_rfl, fun W hS => by have hq1 := unhide hj; go_simp⟩) hS ?_
  try simp only [Act.put, List.setIfInBounds_toArray, List.set_cons_zero, List.set_cons_succ]
  have HP := hide (unhide H0).p
  refine anyH_storem (l := plV (some q.2)) (b := bp) (o := q.1 * 65) (i := 10) (by kernel_rfl) rfl rfl 76 _ _ rfl (unhide HP) (by kernel_rfl) (by kernel_rfl) size76 (unhide Hroom) (plV_len _ hl) (one_plV _) (fun W kW kb => ?_)
  refine ⟨⟨kb.blk hS.1 n1, kb.blk hS.2 hne.symm⟩, ?_⟩
  refine wpAnyH_done (by kernel_rfl) ?_ _
  refine noPanic_out ?_
  clear hS
  replace kW := hide kW
  have HQ := hide ((unhide H0).put (x := (some q.2)) (unhide hj) hl (unhide kW) kb)
  replace HN := hide ((unhide HN).trans kb (fun x hx => Or.inl hx))
  clear kb kW HP Hroom
  try simp only [Act.put, List.setIfInBounds_toArray, List.set_cons_zero, List.set_cons_succ]
  go_wp2_with fail
  go_end0
  exact ⟨rfl, unhide HQ, unhide HN⟩
set_option maxHeartbeats 1000000 in
theorem settle_2 (bs bp : Nat) (vq : Value) (A : Stt) (q : Nat × List Nat) (w : World) (h : Sto LP w bs bp vq A) (hq : q.1 < A.L.length ∧ q.2.length = 64) : Calls Try.prog 30 #[.pointer (some ⟨bs, 0, none⟩), .agg (wrV q).toArray, .int .u8 2] w fun e w' => e = .returned (.tuple #[]) ∧ Sto LP w' bs bp vq (setL 2 q A) ∧ But (fun k => k = bp) w w' := by
  have HK := hide h
  have HB := hide (Blk.new w (wrV q).toArray 70)
  have H0 := hide (h.below (below1 w (.cells (wrV q).toArray 70)))
  have HN := hide (but_alloc (fun k => k = bp) w (.cells (wrV q).toArray 70))
  have hne : bp ≠ w.heap.size := by have := h.p.lt; omega
  have hne2 : bs ≠ w.heap.size := by have := h.s.lt; omega
  have Hroom := hide (h.room hq.1)
  have hl : q.2.length = 64 := hq.2
  have hj := hide hq.1
  have n1 := h.n1
  clear h hq
  go_enter Try.func30, Try.ntmps30
  go_wp2_with fail
  generalize w.alloc (.cells (wrV q).toArray 70) = w0 at *
  generalize w.heap.size = bx at *
  refine wp_region_noPanic ?_
  refine wp_region_held_drew (S := fun W => Blk W bs #[.slice (some ⟨bp, 0, none⟩) A.L.length A.L.length, vq] 64 ∧ Blk W bx (wrV q).toArray 70) (by kernel_rfl) ⟨(unhide H0).s, unhide HB⟩ (fun hS => ?_)
  replace HN := hide (but_drew (unhide HN))
  replace H0 := hide ((unhide H0).below (Below.refl _ _).drew)
  generalize w0.drew = w1 at *
  refine anyH_at (i := 0) (v := .pointer (some ⟨bs, 0, none⟩)) 21 rfl (by kernel_rfl) (by kernel_rfl) (by kernel_rfl) (by kernel_rfl) (fun _ _ _ h => h) (Or.inl ⟨by kernel_rfl, fun W hS => by go_simp⟩) hS ?_
  try simp only [Act.put, List.setIfInBounds_toArray, List.set_cons_zero, List.set_cons_succ]
  refine anyH_at (i := 1) (v := .pointer (some ⟨bs, 0, none⟩)) 22 rfl (by kernel_rfl) (by kernel_rfl) (by kernel_rfl) (by kernel_rfl) (fun _ _ _ h => h) (Or.inl ⟨by kernel_rfl, fun W hS => by go_simp⟩) hS ?_
  try simp only [Act.put, List.setIfInBounds_toArray, List.set_cons_zero, List.set_cons_succ]
  refine anyH_at (i := 2) (v := .pointer (some ⟨bs, 0, none⟩)) 23 rfl (by kernel_rfl) (by kernel_rfl) (by kernel_rfl) (by kernel_rfl) (fun _ _ _ h => h) (Or.inl ⟨by kernel_rfl, fun W hS => by go_simp⟩) hS ?_
  try simp only [Act.put, List.setIfInBounds_toArray, List.set_cons_zero, List.set_cons_succ]
  refine anyH_at (i := 3) (v := .slice (some ⟨bp, 0, none⟩) A.L.length A.L.length) 24 rfl (by kernel_rfl) (by kernel_rfl) (by kernel_rfl) (by kernel_rfl) (fun _ _ _ h => h) (Or.inl ⟨by kernel_rfl, fun W hS => by have c0 := hS.1.at 0 _ rfl; go_simp⟩) hS ?_
  try simp only [Act.put, List.setIfInBounds_toArray, List.set_cons_zero, List.set_cons_succ]
  refine anyH_at (i := 4) (v := .pointer (some ⟨bx, 0, none⟩)) 25 rfl (by kernel_rfl) (by kernel_rfl) (by kernel_rfl) (by kernel_rfl) (fun _ _ _ h => h) (Or.inl ⟨by kernel_rfl, fun W hS => by go_simp⟩) hS ?_
  try simp only [Act.put, List.setIfInBounds_toArray, List.set_cons_zero, List.set_cons_succ]
  refine anyH_at (i := 5) (v := .int .i64 (q.1 : Int)) 26 rfl (by kernel_rfl) (by kernel_rfl) (by kernel_rfl) (by kernel_rfl) (fun _ _ _ h => h) (Or.inl ⟨by kernel_rfl, fun W hS => by have c1 : W.cell? ⟨bx, 0, none⟩ = some (.int .i64 (q.1 : Int)) := range_head hS.2.rg; go_simp⟩) hS ?_
  try simp only [Act.put, List.setIfInBounds_toArray, List.set_cons_zero, List.set_cons_succ]
  refine anyH_at (i := 6) (v := .agg _) 27 rfl (by kernel_rfl) (by kernel_rfl) (by kernel_rfl) (by kernel_rfl) (fun _ _ _ h => h) (yl_build (by kernel_rfl) 76 _ rfl (l := [(0, .bool true)]) (by kernel_rfl) bd76b) hS ?_
  try simp only [Act.put, List.setIfInBounds_toArray, List.set_cons_zero, List.set_cons_succ]
  refine anyH_at (i := 7) (v := .pointer (some ⟨bp, q.1 * 65, none⟩)) 28 rfl (by kernel_rfl) (by kernel_rfl) (by kernel_rfl) (by kernel_rfl) (fun _ _ _ h => h) (Or.inl ⟨by kernel_rfl, fun W hS => by have hq1 := unhide hj; go_simp⟩) hS ?_
  try simp only [Act.put, List.setIfInBounds_toArray, List.set_cons_zero, List.set_cons_succ]
  have HP := hide (unhide H0).p
  refine anyH_storem (l := plV none) (b := bp) (o := q.1 * 65) (i := 8) (by kernel_rfl) rfl rfl 76 _ _ rfl (unhide HP) (by kernel_rfl) (by kernel_rfl) size76 (unhide Hroom) (plV_len _ trivial) (one_plV _) (fun W kW kb => ?_)
  refine ⟨⟨kb.blk hS.1 n1, kb.blk hS.2 hne.symm⟩, ?_⟩
  refine wpAnyH_done (by kernel_rfl) ?_ _
  refine noPanic_out ?_
  clear hS
  replace kW := hide kW
  have HQ := hide ((unhide H0).put (x := none) (unhide hj) trivial (unhide kW) kb)
  replace HN := hide ((unhide HN).trans kb (fun x hx => Or.inl hx))
  clear kb kW HP Hroom
  try simp only [Act.put, List.setIfInBounds_toArray, List.set_cons_zero, List.set_cons_succ]
  go_wp2_with fail
  go_end0
  exact ⟨rfl, unhide HQ, unhide HN⟩
theorem settle_0 (bs bp : Nat) (vq : Value) (A : Stt) (q : Nat × List Nat) (w : World) (h : Sto LP w bs bp vq A) (hq : q.1 < A.L.length ∧ q.2.length = 64) (fate : Nat) (h1 : fate ≠ 1) (h2 : fate ≠ 2) : Calls Try.prog 30 #[.pointer (some ⟨bs, 0, none⟩), .agg (wrV q).toArray, .int .u8 (fate : Int)] w fun e w' => e = .returned (.tuple #[]) ∧ Sto LP w' bs bp vq A ∧ But (fun k => k = bp) w w' := by
  have H0 := hide (h.below (below1 w (.cells (wrV q).toArray 70)))
  have HN := hide (but_alloc (fun k => k = bp) w (.cells (wrV q).toArray 70))
  have k1 : ¬ (fate : Int) = 1 := by omega
  have k2 : ¬ (fate : Int) = 2 := by omega
  clear h hq
  go_enter Try.func30, Try.ntmps30
  go_wp2_with fail
  go_end0
  exact ⟨rfl, unhide H0, unhide HN⟩
theorem settle_any (bs bp : Nat) (vq : Value) (A : Stt) (q : Nat × List Nat) (w : World) (h : Sto LP w bs bp vq A) (hq : q.1 < A.L.length ∧ q.2.length = 64) (fate : Nat) : Calls Try.prog 30 #[.pointer (some ⟨bs, 0, none⟩), .agg (wrV q).toArray, .int .u8 (fate : Int)] w fun e w' => e = .returned (.tuple #[]) ∧ Sto LP w' bs bp vq (setL fate q A) ∧ But (fun k => k = bp) w w' := by
  by_cases h1 : fate = 1
  · subst h1; exact settle_1 bs bp vq A q w h hq
  by_cases h2 : fate = 2
  · subst h2; exact settle_2 bs bp vq A q w h hq
  · have e : setL fate q A = A := by rw [setL, if_neg h1, if_neg h2]
    rw [e]
    exact settle_0 bs bp vq A q w h hq fate h1 h2
end Go.Proofs.Ytdbefnghljjieaa
