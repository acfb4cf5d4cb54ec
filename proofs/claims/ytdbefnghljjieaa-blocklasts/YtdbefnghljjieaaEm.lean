/- The closures of Sync and Crash; empty. -/
import Derived.Test.YtdbefnghljjieaaWl
namespace Go.Proofs.Ytdbefnghljjieaa
open Go.RowKit
set_option linter.unusedVariables false
set_option linter.unusedSimpArgs false
theorem sync1_any (bs bp : Nat) (vq : Value) (A : Stt) (q : Nat × List Nat) (c1 : Nat) (i : Int) (w : World) (h : Sto LP w bs bp vq A) (hq : q.1 < A.L.length ∧ q.2.length = 64) (h1 : Blk w c1 #[.pointer (some ⟨bs, 0, none⟩)] 25) : Calls Try.prog 29 #[.int .i64 i, .agg (wrV q).toArray, .pointer (some ⟨c1, 0, none⟩)] w fun e w' => e = .returned (.tuple #[]) ∧ Sto LP w' bs bp vq (setL 1 q A) ∧ But (fun k => k = bp) w w' := by
  have HK := hide h
  have HQ := hide hq
  have hw := hide (wrV_len q)
  rw [hq.2] at hw
  have H1 := hide h1
  clear h hq h1
  go_enter Try.func29, Try.ntmps29
  go_wp2_with (refine box_rg rfl 70 _ rfl (l := wrV q) rfl ?_)
  intro W HX hb
  have HX := hide HX
  replace HK := hide ((unhide HK).below hb)
  replace H1 := hide ((unhide H1).keep hb)
  have HN := hide (but_of hb (fun k => k = bp))
  have c1 := (unhide H1).at 0 _ rfl
  clear hb
  go_wp2_with (refine load_rg rfl 70 _ rfl (unhide HX).rg rfl row70 size70 (unhide hw) ?_)
  refine (settle_any bs bp vq A q _ (unhide HK) (unhide HQ) 1).mono ?_
  rintro e w2 ⟨rfl, h2, hn2⟩
  replace HK := hide h2
  replace HN := hide ((unhide HN).trans hn2 (fun x hx => Or.inl hx))
  clear h2 hn2
  go_wp2_with fail
  go_end0
  exact ⟨rfl, unhide HK, unhide HN⟩
set_option maxHeartbeats 1000000 in
theorem crash1_any (bs bp : Nat) (vq : Value) (A : Stt) (q : Nat × List Nat) (c1 c2 : Nat) (a : Option Addr) (n cap : Nat) (l : List Nat) (i : Nat) (w : World) (h : Sto LP w bs bp vq A) (hq : q.1 < A.L.length ∧ q.2.length = 64) (h1 : Blk w c1 #[.pointer (some ⟨bs, 0, none⟩)] 25) (h2 : Blk w c2 #[.slice a n cap] 32) (m1 : c1 ≠ bp) (m2 : c2 ≠ bp) (hr : RowG 1 w (.slice a n cap) (l.map fun n : Nat => [Value.int .u8 (n : Int)])) (hb : ∀ x ∈ l, x < 256) (hi : i ≤ 10000) : Calls Try.prog 31 #[.int .i64 (i : Int), .agg (wrV q).toArray, .pointer (some ⟨c1, 0, none⟩), .pointer (some ⟨c2, 0, none⟩)] w fun e w' => e = .returned (.tuple #[]) ∧ Sto LP w' bs bp vq (setL (fateN l i) q A) ∧ But (fun k => k = bp) w w' := by
  have HK := hide h
  have HQ := hide hq
  have hw := hide (wrV_len q)
  rw [hq.2] at hw
  have H1 := hide h1
  have H2 := hide h2
  have HR := hide hr
  have Hb := hide hb
  have n1 := hide m1
  have n2 := hide m2
  replace hi := hide hi
  have n3 := hide (show w.heap.size ≠ bp by have := h.p.lt; omega)
  clear h hq h1 h2 hr hb m1 m2
  go_enter Try.func31, Try.ntmps31
  go_wp2_with (refine box_rg rfl 70 _ rfl (l := wrV q) rfl ?_)
  intro W HX hb
  have HX := hide HX
  replace HK := hide ((unhide HK).below hb)
  replace H1 := hide ((unhide H1).keep hb)
  replace H2 := hide ((unhide H2).keep hb)
  replace HR := hide ((unhide HR).keep hb)
  have HN := hide (but_of hb (fun k => k = bp))
  clear hb
  generalize w.heap.size = bx at *
  go_wp2_with fail
  refine wp_region_noPanic ?_
  refine wp_region_held_drew (S := fun W => Blk W c1 #[.pointer (some ⟨bs, 0, none⟩)] 25 ∧ Blk W c2 #[.slice a n cap] 32 ∧ Blk W bx (wrV q).toArray 70) (by kernel_rfl) ⟨unhide H1, unhide H2, unhide HX⟩ (fun hS => ?_)
  replace HN := hide (but_drew (unhide HN))
  replace HK := hide ((unhide HK).below (Below.refl _ _).drew)
  replace HR := hide ((unhide HR).keep (Below.refl _ _).drew)
  generalize W.drew = W0 at *
  refine anyH_at (i := 0) (v := .pointer (some ⟨bs, 0, none⟩)) 6 rfl (by kernel_rfl) (by kernel_rfl) (by kernel_rfl) (by kernel_rfl) (fun _ _ _ h => h) (Or.inl ⟨by kernel_rfl, fun W hS => by have c0 := hS.1.at 0 _ rfl; go_simp⟩) hS ?_
  try simp only [Act.put, List.setIfInBounds_toArray, List.set_cons_zero, List.set_cons_succ]
  refine anyH_at (i := 1) (v := .agg (wrV q).toArray) 7 rfl (by kernel_rfl) (by kernel_rfl) (by kernel_rfl) (by kernel_rfl) (fun _ _ _ h => h) (ylo_rg (by kernel_rfl) 70 _ rfl rfl (fun W hS => hS.2.2.rg) row70 size70 (unhide hw)) hS ?_
  try simp only [Act.put, List.setIfInBounds_toArray, List.set_cons_zero, List.set_cons_succ]
  refine anyH_at (i := 2) (v := .slice a n cap) 8 rfl (by kernel_rfl) (by kernel_rfl) (by kernel_rfl) (by kernel_rfl) (fun _ _ _ h => h) (Or.inl ⟨by kernel_rfl, fun W hS => by have c0 := hS.2.1.at 0 _ rfl; go_simp⟩) hS ?_
  try simp only [Act.put, List.setIfInBounds_toArray, List.set_cons_zero, List.set_cons_succ]
  refine anyH_at (i := 3) (v := .int .i64 (i : Int)) 9 rfl (by kernel_rfl) (by kernel_rfl) (by kernel_rfl) (by kernel_rfl) (fun _ _ _ h => h) (Or.inl ⟨by kernel_rfl, fun W hS => by go_simp⟩) hS ?_
  try simp only [Act.put, List.setIfInBounds_toArray, List.set_cons_zero, List.set_cons_succ]
  refine wpAnyH_all (rs := [4]) (by kernel_rfl) (by simp) (AllReadyH.cons (i := 4) rfl (fun KK hK => ?_) AllReadyH.nil)
  rw [if_pos (by kernel_rfl)]
  have hS0 := hide hS
  clear hS
  go_wp2_with fail
  refine (fate_any _ l i _ (unhide HR) (unhide Hb) (unhide hi)).mono ?_
  rintro e w1 ⟨rfl, rfl⟩
  go_wp2_with fail
  refine hK.out _ _ (unhide hS0) (fun hS => ?_)
  clear hK hS0
  try simp only [Act.put, List.setIfInBounds_toArray, List.set_cons_zero, List.set_cons_succ]
  refine wpAnyH_all (rs := [5]) (by kernel_rfl) (by simp) (AllReadyH.cons (i := 5) rfl (fun KK hK => ?_) AllReadyH.nil)
  rw [if_pos (by kernel_rfl)]
  have hS0 := hide hS
  clear hS
  go_wp2_with fail
  refine (settle_any bs bp vq A q _ (unhide HK) (unhide HQ) (fateN l i)).mono ?_
  rintro e w2 ⟨rfl, h2, hn2⟩
  have hS1 := hide (show _ ∧ _ ∧ _ from ⟨hn2.blk (unhide hS0).1 (unhide n1), hn2.blk (unhide hS0).2.1 (unhide n2), hn2.blk (unhide hS0).2.2 (unhide n3)⟩)
  replace HN := hide ((unhide HN).trans hn2 (fun x hx => Or.inl hx))
  have HF := hide h2
  clear h2 hn2
  go_wp2_with fail
  refine hK.out _ _ (unhide hS1) (fun hS => ?_)
  clear hK hS1 hS0 hS
  try simp only [Act.put, List.setIfInBounds_toArray, List.set_cons_zero, List.set_cons_succ]
  refine wpAnyH_done (by kernel_rfl) ?_ _
  refine noPanic_out ?_
  go_wp2_with fail
  go_end0
  exact ⟨rfl, unhide HF, unhide HN⟩
end Go.Proofs.Ytdbefnghljjieaa
