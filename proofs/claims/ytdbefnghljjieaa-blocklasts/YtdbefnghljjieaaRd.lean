/- Read. -/
import Derived.Test.YtdbefnghljjieaaLt
import Derived.Test.YtdbefnghljjieaaPb
namespace Go.Proofs.Ytdbefnghljjieaa
open Go.RowKit
set_option linter.unusedVariables false
set_option linter.unusedSimpArgs false
set_option maxHeartbeats 1000000 in
set_option maxRecDepth 10000 in
theorem read_no (bs bp : Nat) (vq : Value) (A : Stt) (at_ : Int) (w : World) (h : Sto LP w bs bp vq A) (hin : inR at_ A.L.length = false) : Calls Try.prog 19 #[.pointer (some ⟨bs, 0, none⟩), .int .i64 at_] w fun e w' => e = .returned (.tuple #[bk zs64, .int .i64 2]) ∧ Below w.heap.size w w' := by
  have HK := hide h
  have hbs := h.s.lt
  have hbp := h.p.lt
  clear h
  go_enter Try.func19, Try.ntmps19
  go_wp2_with (refine box_1 rfl 3 _ rfl rfl rfl ?_)
  intro W HX hb
  replace HX := hide HX
  replace HK := hide ((unhide HK).below hb)
  replace hb := hide hb
  have hs1 := (show Blk _ _ _ _ from unhide HX).lt
  generalize hb3e : w.heap.size = b3 at *
  go_wp2_with (refine alloc_rg rfl 45 rfl al45 ?_)
  intro W1 H4 hb1
  replace H4 := hide H4
  replace HX := hide ((show Blk _ _ _ _ from unhide HX).keep hb1)
  replace HK := hide ((unhide HK).below hb1)
  have HB := hide (show Below b3 w W1 from (unhide hb).trans (hb1.mono (by omega)))
  clear hb hb1
  have hs2 := (show Blk _ _ _ _ from unhide H4).lt
  generalize hb4e : W.heap.size = b4 at *
  have c3 := (show Blk _ _ _ _ from unhide HX).at 0 _ rfl
  have c0 := (unhide HK).s.at 0 _ rfl
  have z64 := hide (show (byv zs64).length = 64 by rw [byv_len, zs_len])
  go_wp2_with fail
  refine (has_any at_ _ c0).mono ?_
  rintro e w2 ⟨rfl, e1⟩
  rw [e1]
  clear e1 w2
  clear c3 c0
  go_wp2_with (refine store_all (l := byv zs64) rfl 45 _ _ rfl (unhide H4) rfl rfl size45 (by rw [List.size_toArray]; exact unhide z64) (unhide z64) (one_byv _) ?_)
  intro Wz H4z hbz
  replace HB := hide ((unhide HB).trans (hbz.below (fun k e => by omega) (by omega)))
  replace H4z := hide H4z
  clear hbz
  go_wp2_with fail
  refine bodyPost_ret (res_ct rfl (show Blk _ _ _ _ from unhide H4z) row45 size45 (by rw [List.size_toArray]; exact unhide z64) rfl rfl) rfl ?_
  exact ⟨rfl, by have := unhide HB; rwa [← hb3e] at this⟩
set_option maxHeartbeats 1000000 in
set_option maxRecDepth 10000 in
theorem read_late (bs bp : Nat) (a : Option Addr) (cap : Nat) (A : Stt) (at_ : Int) (w : World) (h : Sto LP w bs bp (.slice a A.W.length cap) A) (hin : inR at_ A.L.length = true) (q : Wt) (hq : lastF A.W at_ = some q) (hql : q.2.length = 64) : Calls Try.prog 19 #[.pointer (some ⟨bs, 0, none⟩), .int .i64 at_] w fun e w' => e = .returned (.tuple #[bk q.2, .int .i64 0]) ∧ Below w.heap.size w w' := by
  have E1 := hide (show lastQ A.W at_ = q by rw [lastQ, hq]; rfl)
  have E2 := hide (show lastB A.W at_ = true by rw [lastB, hq]; rfl)
  have hw := hide (show (wrV q).length = 65 by rw [wrV_len, hql])
  have hw2 := hide (show (byv q.2).length = 64 by rw [byv_len, hql])
  have HF := hide h.lt
  clear hq hql
  have HK := hide h
  have hbs := h.s.lt
  have hbp := h.p.lt
  clear h
  go_enter Try.func19, Try.ntmps19
  go_wp2_with (refine box_1 rfl 3 _ rfl rfl rfl ?_)
  intro W HX hb
  replace HX := hide HX
  replace HK := hide ((unhide HK).below hb)
  replace hb := hide hb
  have hs1 := (show Blk _ _ _ _ from unhide HX).lt
  generalize hb3e : w.heap.size = b3 at *
  go_wp2_with (refine alloc_rg rfl 45 rfl al45 ?_)
  intro W1 H4 hb1
  replace H4 := hide H4
  replace HX := hide ((show Blk _ _ _ _ from unhide HX).keep hb1)
  replace HK := hide ((unhide HK).below hb1)
  have HB := hide (show Below b3 w W1 from (unhide hb).trans (hb1.mono (by omega)))
  clear hb hb1
  have hs2 := (show Blk _ _ _ _ from unhide H4).lt
  generalize hb4e : W.heap.size = b4 at *
  have c3 := (show Blk _ _ _ _ from unhide HX).at 0 _ rfl
  have c0 := (unhide HK).s.at 0 _ rfl
  have z64 := hide (show (byv zs64).length = 64 by rw [byv_len, zs_len])
  go_wp2_with fail
  refine (has_any at_ _ c0).mono ?_
  rintro e w2 ⟨rfl, e1⟩
  rw [e1]
  clear e1 w2
  have HL := hide (latest_any bs bp a cap A b3 at_ _ (unhide HK) c3 (by omega))
  clear c3 c0
  go_wp2_with fail
  refine (unhide HL).mono ?_
  clear HL hin
  rintro e W2 ⟨rfl, hb⟩
  replace H4 := hide ((show Blk _ _ _ _ from unhide H4).keep hb)
  replace HX := hide ((show Blk _ _ _ _ from unhide HX).keep hb)
  replace HK := hide ((unhide HK).below hb)
  have hs3 := hb.size
  replace HB := hide ((unhide HB).trans (hb.mono (by omega)))
  clear hb
  rw [unhide E1, unhide E2]
  go_wp2_with (refine alloc_rg rfl 70 rfl al70 ?_)
  intro W3 H6 hb
  replace H6 := hide H6
  replace H4 := hide ((show Blk _ _ _ _ from unhide H4).keep hb)
  replace HX := hide ((show Blk _ _ _ _ from unhide HX).keep hb)
  replace HK := hide ((unhide HK).below hb)
  replace HB := hide ((unhide HB).trans (hb.mono (by omega)))
  have hs4 := hb.size
  clear hb
  generalize hb6e : W2.heap.size = b6 at *
  go_wp2_with (refine store_all rfl 70 _ _ rfl (unhide H6) rfl rfl size70 (by rw [List.size_toArray, wrV_len, zs_len]) (unhide hw) (one_wrV _) ?_)
  intro W4 H6' hb
  replace H6 := hide H6'
  replace H4 := hide (hb.blk (show Blk _ _ _ _ from unhide H4) (by omega))
  replace HX := hide (hb.blk (show Blk _ _ _ _ from unhide HX) (by omega))
  replace HK := hide ((unhide HK).keep hb (fun k hk c => by have := unhide HF k hk; omega))
  replace HB := hide ((unhide HB).trans (hb.below (fun k e => by omega) (by omega)))
  have hs5 := hb.size
  clear H6' hb
  have HR := hide (range_tail (x := .int .i64 (q.1 : Int)) (ys := byv q.2) (show Blk _ _ _ _ from unhide H6).rg)
  rw [Nat.zero_add] at HR
  go_wp2_with (first | refine load_rg rfl 45 _ rfl (unhide HR) rfl row45 size45 (unhide hw2) ?_ | refine store_all (l := byv q.2) rfl 45 _ _ rfl (unhide H4) rfl rfl size45 (by rw [List.size_toArray]; exact unhide z64) (unhide hw2) (one_byv _) ?_)
  intro Wz H4z hbz
  replace HB := hide ((unhide HB).trans (hbz.below (fun k e => by omega) (by omega)))
  replace H4z := hide H4z
  clear hbz
  go_wp2_with fail
  refine bodyPost_ret (res_ct rfl (show Blk _ _ _ _ from unhide H4z) row45 size45 (by rw [List.size_toArray]; exact unhide hw2) rfl rfl) rfl ?_
  exact ⟨rfl, by have := unhide HB; rwa [← hb3e] at this⟩
set_option maxHeartbeats 1000000 in
set_option maxRecDepth 10000 in
theorem read_torn (bs bp : Nat) (a : Option Addr) (cap : Nat) (A : Stt) (k : Nat) (w : World) (h : Sto LP w bs bp (.slice a A.W.length cap) A) (hin : inR (k : Int) A.L.length = true) (hq : lastF A.W (k : Int) = none) (hx : A.L[k]? = some none) : Calls Try.prog 19 #[.pointer (some ⟨bs, 0, none⟩), .int .i64 (k : Int)] w fun e w' => e = .returned (.tuple #[bk zs64, .int .i64 7]) ∧ Below w.heap.size w w' := by
  have E1 := hide (show lastQ A.W ((k : Nat) : Int) = (0, zs64) by rw [lastQ, hq]; rfl)
  have E2 := hide (show lastB A.W ((k : Nat) : Int) = false by rw [lastB, hq]; rfl)
  have hw := hide (show (wrV (0, zs64)).length = 65 by rw [wrV_len, zs_len])
  have HF := hide h.lt
  have hk : Hid (k < A.L.length) := hide (List.getElem?_eq_some_iff.1 hx).1
  replace hx := hide hx
  clear hq
  have HK := hide h
  have hbs := h.s.lt
  have hbp := h.p.lt
  clear h
  go_enter Try.func19, Try.ntmps19
  go_wp2_with (refine box_1 rfl 3 _ rfl rfl rfl ?_)
  intro W HX hb
  replace HX := hide HX
  replace HK := hide ((unhide HK).below hb)
  replace hb := hide hb
  have hs1 := (show Blk _ _ _ _ from unhide HX).lt
  generalize hb3e : w.heap.size = b3 at *
  go_wp2_with (refine alloc_rg rfl 45 rfl al45 ?_)
  intro W1 H4 hb1
  replace H4 := hide H4
  replace HX := hide ((show Blk _ _ _ _ from unhide HX).keep hb1)
  replace HK := hide ((unhide HK).below hb1)
  have HB := hide (show Below b3 w W1 from (unhide hb).trans (hb1.mono (by omega)))
  clear hb hb1
  have hs2 := (show Blk _ _ _ _ from unhide H4).lt
  generalize hb4e : W.heap.size = b4 at *
  have c3 := (show Blk _ _ _ _ from unhide HX).at 0 _ rfl
  have c0 := (unhide HK).s.at 0 _ rfl
  have z64 := hide (show (byv zs64).length = 64 by rw [byv_len, zs_len])
  go_wp2_with fail
  refine (has_any (k : Int) _ c0).mono ?_
  rintro e w2 ⟨rfl, e1⟩
  rw [e1]
  clear e1 w2
  have HL := hide (latest_any bs bp a cap A b3 (k : Int) _ (unhide HK) c3 (by omega))
  clear c3 c0
  go_wp2_with fail
  refine (unhide HL).mono ?_
  clear HL hin
  rintro e W2 ⟨rfl, hb⟩
  replace H4 := hide ((show Blk _ _ _ _ from unhide H4).keep hb)
  replace HX := hide ((show Blk _ _ _ _ from unhide HX).keep hb)
  replace HK := hide ((unhide HK).below hb)
  have hs3 := hb.size
  replace HB := hide ((unhide HB).trans (hb.mono (by omega)))
  clear hb
  rw [unhide E1, unhide E2]
  go_wp2_with (refine alloc_rg rfl 70 rfl al70 ?_)
  intro W3 H6 hb
  replace H6 := hide H6
  replace H4 := hide ((show Blk _ _ _ _ from unhide H4).keep hb)
  replace HX := hide ((show Blk _ _ _ _ from unhide HX).keep hb)
  replace HK := hide ((unhide HK).below hb)
  replace HB := hide ((unhide HB).trans (hb.mono (by omega)))
  have hs4 := hb.size
  clear hb
  generalize hb6e : W2.heap.size = b6 at *
  go_wp2_with (refine store_all rfl 70 _ _ rfl (unhide H6) rfl rfl size70 (by rw [List.size_toArray, wrV_len, zs_len]) (unhide hw) (one_wrV _) ?_)
  intro W4 H6' hb
  replace H6 := hide H6'
  replace H4 := hide (hb.blk (show Blk _ _ _ _ from unhide H4) (by omega))
  replace HX := hide (hb.blk (show Blk _ _ _ _ from unhide HX) (by omega))
  replace HK := hide ((unhide HK).keep hb (fun k hk c => by have := unhide HF k hk; omega))
  replace HB := hide ((unhide HB).trans (hb.below (fun k e => by omega) (by omega)))
  have hs5 := hb.size
  clear H6' hb
  go_wp2_with fail
  have hs6 := Nat.le_refl W4.heap.size
  refine wp_region_noPanic ?_
  refine wp_region_held_drew (S := fun V => Blk V bs #[.slice (some ⟨bp, 0, none⟩) A.L.length A.L.length, .slice a A.W.length cap] 64 ∧ Blk V b3 #[.int .i64 (k : Int)] 3 ∧ V.rangeAt bp (k * 65) (plV none)) (by kernel_rfl) ⟨(unhide HK).s, unhide HX, (unhide HK).place (unhide hx)⟩ (fun hS => ?_)
  replace HK := hide ((unhide HK).below (Below.refl _ _).drew)
  replace HX := hide ((show Blk _ _ _ _ from unhide HX).keep (Below.refl _ _).drew)
  replace H4 := hide ((show Blk _ _ _ _ from unhide H4).keep (Below.refl _ _).drew)
  replace HB := hide (unhide HB).drew
  replace hs6 : W4.heap.size ≤ W4.drew.heap.size := hs6
  generalize W4.drew = W5 at *
  refine anyH_at (i := 0) (v := .pointer (some ⟨bs, 0, none⟩)) 27 rfl (by kernel_rfl) (by kernel_rfl) (by kernel_rfl) (by kernel_rfl) (fun _ _ _ h => h) (Or.inl ⟨by kernel_rfl, fun W hS => by go_simp⟩) hS ?_
  try simp only [Act.put, List.setIfInBounds_toArray, List.set_cons_zero, List.set_cons_succ]
  refine anyH_at (i := 1) (v := .pointer (some ⟨bs, 0, none⟩)) 28 rfl (by kernel_rfl) (by kernel_rfl) (by kernel_rfl) (by kernel_rfl) (fun _ _ _ h => h) (Or.inl ⟨by kernel_rfl, fun W hS => by go_simp⟩) hS ?_
  try simp only [Act.put, List.setIfInBounds_toArray, List.set_cons_zero, List.set_cons_succ]
  refine anyH_at (i := 2) (v := .pointer (some ⟨bs, 0, none⟩)) 29 rfl (by kernel_rfl) (by kernel_rfl) (by kernel_rfl) (by kernel_rfl) (fun _ _ _ h => h) (Or.inl ⟨by kernel_rfl, fun W hS => by go_simp⟩) hS ?_
  try simp only [Act.put, List.setIfInBounds_toArray, List.set_cons_zero, List.set_cons_succ]
  refine anyH_at (i := 3) (v := .slice (some ⟨bp, 0, none⟩) A.L.length A.L.length) 30 rfl (by kernel_rfl) (by kernel_rfl) (by kernel_rfl) (by kernel_rfl) (fun _ _ _ h => h) (Or.inl ⟨by kernel_rfl, fun W hS => by have c0 := hS.1.at 0 _ rfl; go_simp⟩) hS ?_
  try simp only [Act.put, List.setIfInBounds_toArray, List.set_cons_zero, List.set_cons_succ]
  refine anyH_at (i := 4) (v := .int .i64 (k : Int)) 31 rfl (by kernel_rfl) (by kernel_rfl) (by kernel_rfl) (by kernel_rfl) (fun _ _ _ h => h) (Or.inl ⟨by kernel_rfl, fun W hS => by have c0 := hS.2.1.at 0 _ rfl; go_simp⟩) hS ?_
  try simp only [Act.put, List.setIfInBounds_toArray, List.set_cons_zero, List.set_cons_succ]
  refine anyH_at (i := 5) (v := .pointer (some ⟨bp, k * 65, none⟩)) 32 rfl (by kernel_rfl) (by kernel_rfl) (by kernel_rfl) (by kernel_rfl) (fun _ _ _ h => h) (Or.inl ⟨by kernel_rfl, fun W hS => by have hq1 := unhide hk; go_simp⟩) hS ?_
  try simp only [Act.put, List.setIfInBounds_toArray, List.set_cons_zero, List.set_cons_succ]
  refine anyH_at (i := 6) (v := .pointer (some ⟨bp, k * 65, none⟩)) 33 rfl (by kernel_rfl) (by kernel_rfl) (by kernel_rfl) (by kernel_rfl) (fun _ _ _ h => h) (Or.inl ⟨by kernel_rfl, fun W hS => by go_simp⟩) hS ?_
  try simp only [Act.put, List.setIfInBounds_toArray, List.set_cons_zero, List.set_cons_succ]
  refine anyH_at (i := 7) (v := .bool true) 34 rfl (by kernel_rfl) (by kernel_rfl) (by kernel_rfl) (by kernel_rfl) (fun _ _ _ h => h) (Or.inl ⟨by kernel_rfl, fun W hS => by have c0 : W.cell? ⟨bp, k * 65, none⟩ = some (.bool true) := range_head (ys := _) (show World.rangeAt _ _ _ (.bool true :: _) from hS.2.2); go_simp⟩) hS ?_
  try simp only [Act.put, List.setIfInBounds_toArray, List.set_cons_zero, List.set_cons_succ]
  refine wpAnyH_done (by kernel_rfl) ?_ _
  refine noPanic_out ?_
  clear hS
  go_wp2_with (refine store_all (l := byv zs64) rfl 45 _ _ rfl (unhide H4) rfl rfl size45 (by rw [List.size_toArray]; exact unhide z64) (unhide z64) (one_byv _) ?_)
  intro Wz H4z hbz
  replace HB := hide ((unhide HB).trans (hbz.below (fun k e => by omega) (by omega)))
  replace H4z := hide H4z
  clear hbz
  go_wp2_with fail
  refine bodyPost_ret (res_ct rfl (show Blk _ _ _ _ from unhide H4z) row45 size45 (by rw [List.size_toArray]; exact unhide z64) rfl rfl) rfl ?_
  exact ⟨rfl, by have := unhide HB; rwa [← hb3e] at this⟩
set_option maxHeartbeats 1000000 in
set_option maxRecDepth 10000 in
theorem read_last (bs bp : Nat) (a : Option Addr) (cap : Nat) (A : Stt) (k : Nat) (w : World) (h : Sto LP w bs bp (.slice a A.W.length cap) A) (hin : inR (k : Int) A.L.length = true) (l : List Nat) (hl : l.length = 64) (hq : lastF A.W (k : Int) = none) (hx : A.L[k]? = some (some l)) : Calls Try.prog 19 #[.pointer (some ⟨bs, 0, none⟩), .int .i64 (k : Int)] w fun e w' => e = .returned (.tuple #[bk l, .int .i64 0]) ∧ Below w.heap.size w w' := by
  have hw2 := hide (show (byv l).length = 64 by rw [byv_len, hl])
  have E1 := hide (show lastQ A.W ((k : Nat) : Int) = (0, zs64) by rw [lastQ, hq]; rfl)
  have E2 := hide (show lastB A.W ((k : Nat) : Int) = false by rw [lastB, hq]; rfl)
  have hw := hide (show (wrV (0, zs64)).length = 65 by rw [wrV_len, zs_len])
  have HF := hide h.lt
  have hk : Hid (k < A.L.length) := hide (List.getElem?_eq_some_iff.1 hx).1
  replace hx := hide hx
  clear hq
  have HK := hide h
  have hbs := h.s.lt
  have hbp := h.p.lt
  clear h
  go_enter Try.func19, Try.ntmps19
  go_wp2_with (refine box_1 rfl 3 _ rfl rfl rfl ?_)
  intro W HX hb
  replace HX := hide HX
  replace HK := hide ((unhide HK).below hb)
  replace hb := hide hb
  have hs1 := (show Blk _ _ _ _ from unhide HX).lt
  generalize hb3e : w.heap.size = b3 at *
  go_wp2_with (refine alloc_rg rfl 45 rfl al45 ?_)
  intro W1 H4 hb1
  replace H4 := hide H4
  replace HX := hide ((show Blk _ _ _ _ from unhide HX).keep hb1)
  replace HK := hide ((unhide HK).below hb1)
  have HB := hide (show Below b3 w W1 from (unhide hb).trans (hb1.mono (by omega)))
  clear hb hb1
  have hs2 := (show Blk _ _ _ _ from unhide H4).lt
  generalize hb4e : W.heap.size = b4 at *
  have c3 := (show Blk _ _ _ _ from unhide HX).at 0 _ rfl
  have c0 := (unhide HK).s.at 0 _ rfl
  have z64 := hide (show (byv zs64).length = 64 by rw [byv_len, zs_len])
  go_wp2_with fail
  refine (has_any (k : Int) _ c0).mono ?_
  rintro e w2 ⟨rfl, e1⟩
  rw [e1]
  clear e1 w2
  have HL := hide (latest_any bs bp a cap A b3 (k : Int) _ (unhide HK) c3 (by omega))
  clear c3 c0
  go_wp2_with fail
  refine (unhide HL).mono ?_
  clear HL hin
  rintro e W2 ⟨rfl, hb⟩
  replace H4 := hide ((show Blk _ _ _ _ from unhide H4).keep hb)
  replace HX := hide ((show Blk _ _ _ _ from unhide HX).keep hb)
  replace HK := hide ((unhide HK).below hb)
  have hs3 := hb.size
  replace HB := hide ((unhide HB).trans (hb.mono (by omega)))
  clear hb
  rw [unhide E1, unhide E2]
  go_wp2_with (refine alloc_rg rfl 70 rfl al70 ?_)
  intro W3 H6 hb
  replace H6 := hide H6
  replace H4 := hide ((show Blk _ _ _ _ from unhide H4).keep hb)
  replace HX := hide ((show Blk _ _ _ _ from unhide HX).keep hb)
  replace HK := hide ((unhide HK).below hb)
  replace HB := hide ((unhide HB).trans (hb.mono (by omega)))
  have hs4 := hb.size
  clear hb
  generalize hb6e : W2.heap.size = b6 at *
  go_wp2_with (refine store_all rfl 70 _ _ rfl (unhide H6) rfl rfl size70 (by rw [List.size_toArray, wrV_len, zs_len]) (unhide hw) (one_wrV _) ?_)
  intro W4 H6' hb
  replace H6 := hide H6'
  replace H4 := hide (hb.blk (show Blk _ _ _ _ from unhide H4) (by omega))
  replace HX := hide (hb.blk (show Blk _ _ _ _ from unhide HX) (by omega))
  replace HK := hide ((unhide HK).keep hb (fun k hk c => by have := unhide HF k hk; omega))
  replace HB := hide ((unhide HB).trans (hb.below (fun k e => by omega) (by omega)))
  have hs5 := hb.size
  clear H6' hb
  go_wp2_with fail
  have hs6 := Nat.le_refl W4.heap.size
  refine wp_region_noPanic ?_
  refine wp_region_held_drew (S := fun V => Blk V bs #[.slice (some ⟨bp, 0, none⟩) A.L.length A.L.length, .slice a A.W.length cap] 64 ∧ Blk V b3 #[.int .i64 (k : Int)] 3 ∧ V.rangeAt bp (k * 65) (plV (some l))) (by kernel_rfl) ⟨(unhide HK).s, unhide HX, (unhide HK).place (unhide hx)⟩ (fun hS => ?_)
  replace HK := hide ((unhide HK).below (Below.refl _ _).drew)
  replace HX := hide ((show Blk _ _ _ _ from unhide HX).keep (Below.refl _ _).drew)
  replace H4 := hide ((show Blk _ _ _ _ from unhide H4).keep (Below.refl _ _).drew)
  replace HB := hide (unhide HB).drew
  replace hs6 : W4.heap.size ≤ W4.drew.heap.size := hs6
  generalize W4.drew = W5 at *
  refine anyH_at (i := 0) (v := .pointer (some ⟨bs, 0, none⟩)) 27 rfl (by kernel_rfl) (by kernel_rfl) (by kernel_rfl) (by kernel_rfl) (fun _ _ _ h => h) (Or.inl ⟨by kernel_rfl, fun W hS => by go_simp⟩) hS ?_
  try simp only [Act.put, List.setIfInBounds_toArray, List.set_cons_zero, List.set_cons_succ]
  refine anyH_at (i := 1) (v := .pointer (some ⟨bs, 0, none⟩)) 28 rfl (by kernel_rfl) (by kernel_rfl) (by kernel_rfl) (by kernel_rfl) (fun _ _ _ h => h) (Or.inl ⟨by kernel_rfl, fun W hS => by go_simp⟩) hS ?_
  try simp only [Act.put, List.setIfInBounds_toArray, List.set_cons_zero, List.set_cons_succ]
  refine anyH_at (i := 2) (v := .pointer (some ⟨bs, 0, none⟩)) 29 rfl (by kernel_rfl) (by kernel_rfl) (by kernel_rfl) (by kernel_rfl) (fun _ _ _ h => h) (Or.inl ⟨by kernel_rfl, fun W hS => by go_simp⟩) hS ?_
  try simp only [Act.put, List.setIfInBounds_toArray, List.set_cons_zero, List.set_cons_succ]
  refine anyH_at (i := 3) (v := .slice (some ⟨bp, 0, none⟩) A.L.length A.L.length) 30 rfl (by kernel_rfl) (by kernel_rfl) (by kernel_rfl) (by kernel_rfl) (fun _ _ _ h => h) (Or.inl ⟨by kernel_rfl, fun W hS => by have c0 := hS.1.at 0 _ rfl; go_simp⟩) hS ?_
  try simp only [Act.put, List.setIfInBounds_toArray, List.set_cons_zero, List.set_cons_succ]
  refine anyH_at (i := 4) (v := .int .i64 (k : Int)) 31 rfl (by kernel_rfl) (by kernel_rfl) (by kernel_rfl) (by kernel_rfl) (fun _ _ _ h => h) (Or.inl ⟨by kernel_rfl, fun W hS => by have c0 := hS.2.1.at 0 _ rfl; go_simp⟩) hS ?_
  try simp only [Act.put, List.setIfInBounds_toArray, List.set_cons_zero, List.set_cons_succ]
  refine anyH_at (i := 5) (v := .pointer (some ⟨bp, k * 65, none⟩)) 32 rfl (by kernel_rfl) (by kernel_rfl) (by kernel_rfl) (by kernel_rfl) (fun _ _ _ h => h) (Or.inl ⟨by kernel_rfl, fun W hS => by have hq1 := unhide hk; go_simp⟩) hS ?_
  try simp only [Act.put, List.setIfInBounds_toArray, List.set_cons_zero, List.set_cons_succ]
  refine anyH_at (i := 6) (v := .pointer (some ⟨bp, k * 65, none⟩)) 33 rfl (by kernel_rfl) (by kernel_rfl) (by kernel_rfl) (by kernel_rfl) (fun _ _ _ h => h) (Or.inl ⟨by kernel_rfl, fun W hS => by go_simp⟩) hS ?_
  try simp only [Act.put, List.setIfInBounds_toArray, List.set_cons_zero, List.set_cons_succ]
  refine anyH_at (i := 7) (v := .bool false) 34 rfl (by kernel_rfl) (by kernel_rfl) (by kernel_rfl) (by kernel_rfl) (fun _ _ _ h => h) (Or.inl ⟨by kernel_rfl, fun W hS => by have c0 : W.cell? ⟨bp, k * 65, none⟩ = some (.bool false) := range_head (ys := _) (show World.rangeAt _ _ _ (.bool false :: _) from hS.2.2); go_simp⟩) hS ?_
  try simp only [Act.put, List.setIfInBounds_toArray, List.set_cons_zero, List.set_cons_succ]
  refine wpAnyH_done (by kernel_rfl) ?_ _
  refine noPanic_out ?_
  clear hS
  go_wp2_with fail
  refine wp_region_noPanic ?_
  refine wp_region_held_drew (S := fun V => Blk V bs #[.slice (some ⟨bp, 0, none⟩) A.L.length A.L.length, .slice a A.W.length cap] 64 ∧ Blk V b3 #[.int .i64 (k : Int)] 3 ∧ V.rangeAt bp (k * 65) (plV (some l))) (by kernel_rfl) ⟨(unhide HK).s, unhide HX, (unhide HK).place (unhide hx)⟩ (fun hS => ?_)
  replace HK := hide ((unhide HK).below (Below.refl _ _).drew)
  replace HX := hide ((show Blk _ _ _ _ from unhide HX).keep (Below.refl _ _).drew)
  replace H4 := hide ((show Blk _ _ _ _ from unhide H4).keep (Below.refl _ _).drew)
  replace HB := hide (unhide HB).drew
  replace hs6 : W4.heap.size ≤ W5.drew.heap.size := hs6
  generalize W5.drew = W6 at *
  refine anyH_at (i := 0) (v := .pointer (some ⟨bs, 0, none⟩)) 36 rfl (by kernel_rfl) (by kernel_rfl) (by kernel_rfl) (by kernel_rfl) (fun _ _ _ h => h) (Or.inl ⟨by kernel_rfl, fun W hS => by go_simp⟩) hS ?_
  try simp only [Act.put, List.setIfInBounds_toArray, List.set_cons_zero, List.set_cons_succ]
  refine anyH_at (i := 1) (v := .pointer (some ⟨bs, 0, none⟩)) 37 rfl (by kernel_rfl) (by kernel_rfl) (by kernel_rfl) (by kernel_rfl) (fun _ _ _ h => h) (Or.inl ⟨by kernel_rfl, fun W hS => by go_simp⟩) hS ?_
  try simp only [Act.put, List.setIfInBounds_toArray, List.set_cons_zero, List.set_cons_succ]
  refine anyH_at (i := 2) (v := .pointer (some ⟨bs, 0, none⟩)) 38 rfl (by kernel_rfl) (by kernel_rfl) (by kernel_rfl) (by kernel_rfl) (fun _ _ _ h => h) (Or.inl ⟨by kernel_rfl, fun W hS => by go_simp⟩) hS ?_
  try simp only [Act.put, List.setIfInBounds_toArray, List.set_cons_zero, List.set_cons_succ]
  refine anyH_at (i := 3) (v := .slice (some ⟨bp, 0, none⟩) A.L.length A.L.length) 39 rfl (by kernel_rfl) (by kernel_rfl) (by kernel_rfl) (by kernel_rfl) (fun _ _ _ h => h) (Or.inl ⟨by kernel_rfl, fun W hS => by have c0 := hS.1.at 0 _ rfl; go_simp⟩) hS ?_
  try simp only [Act.put, List.setIfInBounds_toArray, List.set_cons_zero, List.set_cons_succ]
  refine anyH_at (i := 4) (v := .int .i64 (k : Int)) 40 rfl (by kernel_rfl) (by kernel_rfl) (by kernel_rfl) (by kernel_rfl) (fun _ _ _ h => h) (Or.inl ⟨by kernel_rfl, fun W hS => by have c0 := hS.2.1.at 0 _ rfl; go_simp⟩) hS ?_
  try simp only [Act.put, List.setIfInBounds_toArray, List.set_cons_zero, List.set_cons_succ]
  refine anyH_at (i := 5) (v := .pointer (some ⟨bp, k * 65, none⟩)) 41 rfl (by kernel_rfl) (by kernel_rfl) (by kernel_rfl) (by kernel_rfl) (fun _ _ _ h => h) (Or.inl ⟨by kernel_rfl, fun W hS => by have hq1 := unhide hk; go_simp⟩) hS ?_
  try simp only [Act.put, List.setIfInBounds_toArray, List.set_cons_zero, List.set_cons_succ]
  refine anyH_at (i := 6) (v := .pointer (some ⟨bp, k * 65 + 1, none⟩)) 42 rfl (by kernel_rfl) (by kernel_rfl) (by kernel_rfl) (by kernel_rfl) (fun _ _ _ h => h) (Or.inl ⟨by kernel_rfl, fun W hS => by go_simp⟩) hS ?_
  try simp only [Act.put, List.setIfInBounds_toArray, List.set_cons_zero, List.set_cons_succ]
  refine anyH_at (i := 7) (v := .agg (byv l).toArray) 43 rfl (by kernel_rfl) (by kernel_rfl) (by kernel_rfl) (by kernel_rfl) (fun _ _ _ h => h) (ylo_rg (by kernel_rfl) 45 _ rfl rfl (fun W hS => range_tail (x := .bool false) hS.2.2) row45 size45 (unhide hw2)) hS ?_
  try simp only [Act.put, List.setIfInBounds_toArray, List.set_cons_zero, List.set_cons_succ]
  refine anyH_storem (l := byv l) (b := b4) (o := 0) (i := 8) (by kernel_rfl) rfl rfl 45 _ _ rfl (unhide H4) (by kernel_rfl) (by kernel_rfl) size45 (by rw [List.size_toArray, unhide z64]; exact Nat.le_refl _) (unhide hw2) (one_byv _) (fun Wz kW kb => ?_)
  have hSA := hide (show _ ∧ _ ∧ _ from ⟨kb.blk hS.1 (by omega), kb.blk hS.2.1 (by omega), fun j v hv => (kb.cell (p := ⟨bp, k * 65 + j, none⟩) (lt_of_cell (hS.2.2 j v hv)) (by show ¬ bp = b4; omega)).trans (hS.2.2 j v hv)⟩)
  refine ⟨unhide hSA, ?_⟩
  try simp only [Act.put, List.setIfInBounds_toArray, List.set_cons_zero, List.set_cons_succ]
  replace HB := hide ((unhide HB).trans (kb.below (fun k e => by omega) (by omega)))
  have H4z : Hid (Blk Wz b4 (byv l).toArray 45) := hide (by have e := sets_all (cs := (byv zs64).toArray) (vs := (byv l).toArray) (by rw [List.size_toArray, List.size_toArray, unhide z64, unhide hw2]); rw [← e]; exact kW)
  clear kW kb hS
  have hS := unhide hSA
  refine anyH_at (i := 9) (v := .int .i64 0) 5 rfl (by kernel_rfl) (by kernel_rfl) (by kernel_rfl) (by kernel_rfl) (fun _ _ _ h => h) (Or.inl ⟨by kernel_rfl, fun W hS => by go_simp⟩) hS ?_
  try simp only [Act.put, List.setIfInBounds_toArray, List.set_cons_zero, List.set_cons_succ]
  clear hSA hS
  refine wpAnyH_done (by kernel_rfl) ?_ _
  refine noPanic_out ?_
  go_wp2_with fail
  refine bodyPost_ret (res_ct rfl (show Blk _ _ _ _ from unhide H4z) row45 size45 (by rw [List.size_toArray]; exact unhide hw2) rfl rfl) rfl ?_
  exact ⟨rfl, by have := unhide HB; rwa [← hb3e] at this⟩
def rdE (A : Stt) (at_ : Int) : Int := if inR at_ A.L.length = true then (if lastB A.W at_ = true then 0 else if (A.L.getD at_.toNat none).isSome = true then 0 else 7) else 2
def rdB (A : Stt) (at_ : Int) : List Nat := if inR at_ A.L.length = true then (if lastB A.W at_ = true then (lastQ A.W at_).2 else (A.L.getD at_.toNat none).getD zs64) else zs64
theorem lastF_mem : ∀ {l : List Wt} {a : Int} {q : Wt}, lastF l a = some q → q ∈ l ∧ (q.1 : Int) = a
  | [], _, _, h => by cases h
  | y :: r, a, q, h => by
    rw [lastF] at h
    cases h2 : lastF r a with
    | some z =>
      rw [h2] at h
      injection h with h
      subst h
      exact ⟨List.mem_cons_of_mem _ (lastF_mem h2).1, (lastF_mem h2).2⟩
    | none =>
      rw [h2] at h
      simp only [] at h
      split at h
      · next e => injection h with h; subst h; exact ⟨List.mem_cons_self, e⟩
      · cases h
theorem rea_any (p : Value) (A : Stt) (F : Nat → Prop) (at_ : Int) (w : World) (h : Has LP w p A F) : Calls Try.prog 19 #[p, .int .i64 at_] w fun e w' => e = .returned (.tuple #[bk (rdB A at_), .int .i64 (rdE A at_)]) ∧ Below w.heap.size w w' := by
  obtain ⟨bs, bp, vq, rfl, rfl, h⟩ := h
  obtain ⟨a, cap, rfl⟩ := own_form h.q
  cases hin : inR at_ A.L.length with
  | false =>
    rw [show rdB A at_ = zs64 by simp [rdB, hin], show rdE A at_ = 2 by simp [rdE, hin]]
    exact read_no bs bp _ A at_ w h hin
  | true =>
    cases hq : lastF A.W at_ with
    | some q =>
      rw [show rdB A at_ = q.2 by simp [rdB, hin, lastB, lastQ, hq], show rdE A at_ = 0 by simp [rdE, hin, lastB, hq]]
      exact read_late bs bp a cap A at_ w h hin q hq (h.good.w q (lastF_mem hq).1).2
    | none =>
      have hr : 0 ≤ at_ ∧ at_ < (A.L.length : Int) := by simpa [inR] using hin
      obtain ⟨k, rfl⟩ : ∃ k : Nat, at_ = (k : Int) := ⟨at_.toNat, by omega⟩
      have hk : k < A.L.length := by omega
      have hx : A.L[k]? = some A.L[k] := List.getElem?_eq_getElem hk
      have hg : A.L.getD k none = A.L[k] := by simp [List.getD, hk]
      cases hl : A.L[k] with
      | none =>
        rw [hl] at hx hg
        rw [show rdB A (k : Int) = zs64 by simp [rdB, hin, lastB, hq, hl, hk], show rdE A (k : Int) = 7 by simp [rdE, hin, lastB, hq, hl, hk]]
        exact read_torn bs bp a cap A k w h hin hq hx
      | some l =>
        rw [hl] at hx hg
        rw [show rdB A (k : Int) = l by simp [rdB, hin, lastB, hq, hl, hk], show rdE A (k : Int) = 0 by simp [rdE, hin, lastB, hq, hl, hk]]
        exact read_last bs bp a cap A k w h hin l (h.good.l _ (List.mem_of_getElem? hx)) hq hx
end Go.Proofs.Ytdbefnghljjieaa
