/- A store as a whole; Sync, Crash, Write, Size, Waiting. -/
import Derived.Test.YtdbefnghljjieaaEp
import Derived.Test.YtdbefnghljjieaaPu
namespace Go.Proofs.Ytdbefnghljjieaa
open Go.RowKit
set_option linter.unusedVariables false
set_option linter.unusedSimpArgs false
/-- p is a store with the blocks F, as A tells. -/
def Has (Y : Lay) (w : World) (p : Value) (A : Stt) (F : Nat → Prop) : Prop := ∃ bs bp vq, p = .pointer (some ⟨bs, 0, none⟩) ∧ F = Foot bs bp vq ∧ Sto Y w bs bp vq A
/-- From one world to a later one a store has become another; but its own blocks nothing has turned. -/
def StepP (Y : Lay) (w w' : World) (p : Value) (A' : Stt) (F : Nat → Prop) : Prop := ∃ F', Has Y w' p A' F' ∧ But F w w' ∧ ∀ k, F' k → F k ∨ w.heap.size ≤ k
section
variable {Y : Lay} {w w' : World} {p : Value} {A A' : Stt} {F G : Nat → Prop}
theorem Has.keep (h : Has Y w p A F) (hb : But G w w') (hG : ∀ k, F k → ¬ G k) : Has Y w' p A F := by
  obtain ⟨bs, bp, vq, rfl, rfl, h⟩ := h
  exact ⟨bs, bp, vq, rfl, rfl, h.keep hb hG⟩
theorem Has.below (h : Has Y w p A F) (hb : Below w.heap.size w w') : Has Y w' p A F := h.keep (but_of hb (fun _ => False)) (fun _ _ h => h)
theorem Has.lt (h : Has Y w p A F) : ∀ k, F k → k < w.heap.size := by
  obtain ⟨bs, bp, vq, rfl, rfl, h⟩ := h
  exact h.lt
theorem Has.good (h : Has Y w p A F) : Good A := by
  obtain ⟨bs, bp, vq, rfl, rfl, h⟩ := h
  exact h.good
theorem StepP.same (h : Has Y w p A F) (hb : Below w.heap.size w w') : StepP Y w w' p A F := ⟨F, h.below hb, but_of hb F, fun _ h => Or.inl h⟩
end
theorem own_one {w : World} {E : TypeId} {v : Value} {n B m : Nat} {xs : List Value} (h : w.ownsRow B E m v n xs) : ∃ a cap, v = .slice a n cap := own_form h
theorem syn_any (p : Value) (A : Stt) (F : Nat → Prop) (w : World) (h : Has LP w p A F) : Calls Try.prog 21 #[p] w fun e w' => e = .returned (.int .i64 0) ∧ StepP LP w w' p (crashS (fun _ => 1) A) F := by
  obtain ⟨bs, bp, vq, rfl, rfl, h⟩ := h
  have HK := hide h
  have hbs := h.s.lt
  have hbp := h.p.lt
  clear h
  go_enter Try.func21, Try.ntmps21
  go_wp2_with (refine box_1 rfl 25 _ rfl rfl rfl ?_)
  intro W HX hb
  have HX := hide HX
  replace HK := hide ((unhide HK).below hb)
  have HN := hide (but_of hb (Foot bs bp vq))
  clear hb
  have c0 := (unhide HX).at 0 _ rfl
  generalize hbx : w.heap.size = bx at *
  go_wp2_with fail
  refine (empty_sync bs bp vq A bx _ (unhide HK) (unhide HX) (by omega) (by omega)).mono ?_
  rintro e w2 ⟨rfl, h2, hn2⟩
  replace HK := hide h2
  replace HN := hide ((unhide HN).trans hn2 (fun x hx => Or.inl (by rcases hx with e | e; exact Or.inl e; exact Or.inr (Or.inl e))))
  clear h2 hn2 c0
  go_wp2_with fail
  go_ret
  exact ⟨rfl, _, ⟨bs, bp, _, rfl, rfl, unhide HK⟩, unhide HN, fun k hk => Or.inl (by rcases hk with e | e | e; exact Or.inl e; exact Or.inr (Or.inl e); cases e)⟩
theorem cra_any (p : Value) (A : Stt) (F : Nat → Prop) (x : Option Addr) (n xc : Nat) (l : List Nat) (w : World) (h : Has LP w p A F) (hr : RowG 1 w (.slice x n xc) (l.map fun n : Nat => [Value.int .u8 (n : Int)])) (hb : ∀ x ∈ l, x < 256) (hF : ∀ y, x = some y → 0 < n → ¬ F y.block) : Calls Try.prog 22 #[p, .slice x n xc] w fun e w' => e = .returned (.int .i64 0) ∧ StepP LP w w' p (crashS (fateN l) A) F := by
  obtain ⟨bs, bp, vq, rfl, rfl, h⟩ := h
  have HK := hide h
  have hbs := h.s.lt
  have hbp := h.p.lt
  have HR := hide hr
  have Hb := hide hb
  have HF := hide (show ∀ y, x = some y → 0 < n → y.block ≠ bs ∧ y.block ≠ bp from fun y e h0 => ⟨fun c => hF y e h0 (Or.inl c), fun c => hF y e h0 (Or.inr (Or.inl c))⟩)
  clear h hr hb hF
  go_enter Try.func22, Try.ntmps22
  go_wp2_with (refine box_1 rfl 25 _ rfl rfl rfl ?_)
  intro W HX hb
  have HX := hide HX
  replace HK := hide ((unhide HK).below hb)
  replace HR := hide ((unhide HR).keep hb)
  have HN := hide (but_of hb (Foot bs bp vq))
  have hz := hb.size
  clear hb
  generalize hbx : w.heap.size = bx at *
  have hlt := (show Blk _ _ _ _ from unhide HX).lt
  go_wp2_with (refine box_1 rfl 32 _ rfl rfl rfl ?_)
  intro W2 HX2 hb
  have HX2 := hide HX2
  replace HX := hide ((show Blk _ _ _ _ from unhide HX).keep hb)
  replace HK := hide ((unhide HK).below hb)
  replace HR := hide ((unhide HR).keep hb)
  replace HN := hide ((unhide HN).trans (but_of hb (Foot bs bp vq)) (fun x hx => Or.inl hx))
  clear hb
  have c0 := (show Blk _ _ _ _ from unhide HX).at 0 _ rfl
  generalize hby : W.heap.size = b2 at *
  go_wp2_with fail
  refine (empty_crash bs bp vq A bx b2 x n xc l _ (unhide HK) (unhide HX) (by omega) (by omega) (unhide HX2) (by omega) (by omega) (unhide HR) (unhide Hb) (unhide HF)).mono ?_
  rintro e w2 ⟨rfl, h2, hn2⟩
  replace HK := hide h2
  replace HN := hide ((unhide HN).trans hn2 (fun x hx => Or.inl (by rcases hx with e | e; exact Or.inl e; exact Or.inr (Or.inl e))))
  clear h2 hn2 c0
  go_wp2_with fail
  go_ret
  exact ⟨rfl, _, ⟨bs, bp, _, rfl, rfl, unhide HK⟩, unhide HN, fun k hk => Or.inl (by rcases hk with e | e | e; exact Or.inl e; exact Or.inr (Or.inl e); cases e)⟩
theorem siz_any (p : Value) (A : Stt) (F : Nat → Prop) (w : World) (h : Has LP w p A F) : Calls Try.prog 18 #[p] w fun e w' => e = .returned (.int .i64 (A.L.length : Int)) ∧ w' = w := by
  obtain ⟨bs, bp, vq, rfl, rfl, h⟩ := h
  have c0 := h.s.at 0 _ rfl
  clear h
  go_enter Try.func18, Try.ntmps18
  go_wp2_with fail
  go_ret
  exact ⟨rfl, rfl⟩
theorem siz_nil (w : World) : Calls Try.prog 18 #[.pointer none] w fun e w' => e = .returned (.int .i64 0) ∧ w' = w := by
  go_enter Try.func18, Try.ntmps18
  go_wp2_with fail
  go_ret
  exact ⟨rfl, rfl⟩
theorem syn_nil (w : World) : Calls Try.prog 21 #[.pointer none] w fun e w' => e = .returned (.int .i64 1) ∧ Below w.heap.size w w' := by
  go_enter Try.func21, Try.ntmps21
  go_wp2_with (refine box_1 rfl 25 _ rfl rfl rfl ?_)
  intro W HX hb
  have HB := hide hb
  have c0 := HX.at 0 _ rfl
  clear HX hb
  go_wp2_with fail
  go_ret
  exact ⟨rfl, unhide HB⟩
theorem wai_any (p : Value) (A : Stt) (F : Nat → Prop) (w : World) (h : Has LP w p A F) : Calls Try.prog 17 #[p] w fun e w' => e = .returned (.int .i64 (A.W.length : Int)) ∧ w' = w := by
  obtain ⟨bs, bp, vq, rfl, rfl, h⟩ := h
  obtain ⟨a, cap, rfl⟩ := own_form h.q
  have c1 := h.s.at 1 _ rfl
  clear h
  go_enter Try.func17, Try.ntmps17
  go_wp2_with fail
  refine (size_any _ c1).mono ?_
  rintro e w2 ⟨rfl, rfl⟩
  go_wp2_with fail
  go_ret
  exact ⟨rfl, rfl⟩
def wrE (A : Stt) (at_ : Int) : Int := if inR at_ A.L.length = true then (if A.W.length < 4096 then 0 else 10) else 2
def wrS (A : Stt) (at_ : Int) (l : List Nat) : Stt := if wrE A at_ = 0 then ⟨A.L, A.W ++ [(at_.toNat, l)]⟩ else A
set_option maxHeartbeats 1000000 in
set_option maxRecDepth 10000 in
theorem wr_ok (bs bp : Nat) (a : Option Addr) (cap : Nat) (A : Stt) (k : Nat) (l : List Nat) (w : World) (h : Sto LP w bs bp (.slice a A.W.length cap) A) (hq : k < A.L.length ∧ l.length = 64) (hn : A.W.length < 4096) (hin : inR (k : Int) A.L.length = true) : Calls Try.prog 23 #[.pointer (some ⟨bs, 0, none⟩), .int .i64 (k : Int), bk l] w fun e w' => e = .returned (.int .i64 0) ∧ StepP LP w w' (.pointer (some ⟨bs, 0, none⟩)) ⟨A.L, A.W ++ [(k, l)]⟩ (Foot bs bp (.slice a A.W.length cap)) := by
  have HK := hide h
  have hbs := h.s.lt
  have hbp := h.p.lt
  have hqb := hide (fun k e => (h.q.lt k e).2)
  have HQ := hide hq
  have hl := hide (show (byv l).length = 64 by rw [byv_len]; exact hq.2)
  have hll := hide hq.2
  have Hn := hide hn
  have d1 : decide ((4096 : Int) ≤ (A.W.length : Int)) = false := decide_eq_false (by omega)
  clear h hq hn
  have hqx : (Value.slice a A.W.length cap).ownBlock ≠ some w.heap.size := fun c => by have := unhide hqb _ c; omega
  have Hqx := hide hqx
  clear hqx hqb
  go_enter Try.func23, Try.ntmps23
  go_wp2_with (refine box_rg rfl 45 _ rfl (l := byv l) rfl ?_)
  intro W HX hb
  have HX := hide HX
  replace HK := hide ((unhide HK).below hb)
  have HN := hide (but_of hb (Foot bs bp (.slice a A.W.length cap)))
  clear hb
  have c0 := (unhide HK).s.at 0 _ rfl
  have c1 := (unhide HK).s.at 1 _ rfl
  generalize hbxe : w.heap.size = bx at *
  go_wp2_with fail
  refine (has_any (k : Int) _ c0).mono ?_
  rintro e w2 ⟨rfl, e1⟩
  rw [e1]
  clear e1 w2
  go_wp2_with fail
  refine (size_any _ c1).mono ?_
  rintro e w2 ⟨rfl, e1⟩
  rw [e1]
  clear e1 w2
  clear c0 c1 hin
  replace hbxe := hide hbxe
  replace hbs := hide hbs
  replace hbp := hide hbp
  go_wp2_with fail
  replace hbs := unhide hbs
  replace hbp := unhide hbp
  replace hbxe := unhide hbxe
  refine wp_region_noPanic ?_
  refine wp_region_held_drew (S := fun W => Blk W bx (byv l).toArray 45) (by kernel_rfl) (unhide HX) (fun hS => ?_)
  replace HN := hide (but_drew (unhide HN))
  replace HK := hide ((unhide HK).below (Below.refl _ _).drew)
  have hz : bx + 1 ≤ W.drew.heap.size := hS.lt
  generalize W.drew = W0 at *
  refine anyH_at (i := 0) (v := .pointer (some ⟨bs, 0, none⟩)) 18 rfl (by kernel_rfl) (by kernel_rfl) (by kernel_rfl) (by kernel_rfl) (fun _ _ _ h => h) (Or.inl ⟨by kernel_rfl, fun W hS => by go_simp⟩) hS ?_
  try simp only [Act.put, List.setIfInBounds_toArray, List.set_cons_zero, List.set_cons_succ]
  refine anyH_at (i := 1) (v := .pointer (some ⟨bs, 0, none⟩)) 19 rfl (by kernel_rfl) (by kernel_rfl) (by kernel_rfl) (by kernel_rfl) (fun _ _ _ h => h) (Or.inl ⟨by kernel_rfl, fun W hS => by go_simp⟩) hS ?_
  try simp only [Act.put, List.setIfInBounds_toArray, List.set_cons_zero, List.set_cons_succ]
  refine anyH_at (i := 2) (v := .pointer (some ⟨bs, 1, none⟩)) 20 rfl (by kernel_rfl) (by kernel_rfl) (by kernel_rfl) (by kernel_rfl) (fun _ _ _ h => h) (Or.inl ⟨by kernel_rfl, fun W hS => by go_simp⟩) hS ?_
  try simp only [Act.put, List.setIfInBounds_toArray, List.set_cons_zero, List.set_cons_succ]
  refine anyH_at (i := 3) (v := .int .i64 (k : Int)) 21 rfl (by kernel_rfl) (by kernel_rfl) (by kernel_rfl) (by kernel_rfl) (fun _ _ _ h => h) (Or.inl ⟨by kernel_rfl, fun W hS => by go_simp⟩) hS ?_
  try simp only [Act.put, List.setIfInBounds_toArray, List.set_cons_zero, List.set_cons_succ]
  refine anyH_at (i := 4) (v := .agg (byv l).toArray) 22 rfl (by kernel_rfl) (by kernel_rfl) (by kernel_rfl) (by kernel_rfl) (fun _ _ _ h => h) (ylo_rg (by kernel_rfl) 45 _ rfl rfl (fun W hS => hS.rg) row45 size45 (unhide hl)) hS ?_
  try simp only [Act.put, List.setIfInBounds_toArray, List.set_cons_zero, List.set_cons_succ]
  refine anyH_at (i := 5) (v := .agg _) 23 rfl (by kernel_rfl) (by kernel_rfl) (by kernel_rfl) (by kernel_rfl) (fun _ _ _ h => h) (yl_build (by kernel_rfl) 70 _ rfl (l := [(0, .int .i64 (k : Int)), (1, bk l)]) (by kernel_rfl) (bd70 k l (unhide hll))) hS ?_
  try simp only [Act.put, List.setIfInBounds_toArray, List.set_cons_zero, List.set_cons_succ]
  refine wpAnyH_all (rs := [6]) (by kernel_rfl) (by simp) (AllReadyH.cons (i := 6) rfl (fun KK hK => ?_) AllReadyH.nil)
  rw [if_pos (by kernel_rfl)]
  have hS0 := hide hS
  clear hS
  go_wp2_with fail
  refine (put_any bs bp _ A (k, l) _ (unhide HK) (unhide HQ) (unhide Hn)).mono ?_
  rintro e w2 ⟨rfl, v2, h2, hn2, hf2⟩
  have hS1 := hide (hn2.blk (unhide hS0) (fun c => by rcases c with c | c | c; exact absurd c (by omega); exact absurd c (by omega); exact unhide Hqx c))
  replace HN := hide ((unhide HN).trans hn2 (fun x hx => Or.inl hx))
  have HF := hide h2
  have HG := hide hf2
  clear h2 hn2 hf2
  go_wp2_with fail
  refine hK.out _ _ (unhide hS1) (fun hS => ?_)
  clear hK hS1 hS0 hS
  try simp only [Act.put, List.setIfInBounds_toArray, List.set_cons_zero, List.set_cons_succ]
  refine wpAnyH_done (by kernel_rfl) ?_ _
  refine noPanic_out ?_
  go_wp2_with fail
  go_ret
  refine ⟨rfl, _, ⟨bs, bp, _, rfl, rfl, unhide HF⟩, unhide HN, fun x hx => ?_⟩
  rcases hx with e | e | e
  · exact Or.inl (Or.inl e)
  · exact Or.inl (Or.inr (Or.inl e))
  · rcases unhide HG x e with c | c
    · exact Or.inl (Or.inr (Or.inr c))
    · exact Or.inr (by omega)
theorem wr_no (bs bp : Nat) (a : Option Addr) (cap : Nat) (A : Stt) (at_ : Int) (l : List Nat) (w : World) (h : Sto LP w bs bp (.slice a A.W.length cap) A) (hin : inR at_ A.L.length = false) : Calls Try.prog 23 #[.pointer (some ⟨bs, 0, none⟩), .int .i64 at_, bk l] w fun e w' => e = .returned (.int .i64 2) ∧ Below w.heap.size w w' := by
  have c0 := h.s.at 0 _ rfl
  have hl := h.s.lt
  clear h
  go_enter Try.func23, Try.ntmps23
  go_wp2_with (refine box_rg rfl 45 _ rfl (l := byv l) rfl ?_)
  intro W HX hb
  have c2 := (hb.cell (p := ⟨bs, 0, none⟩) hl).trans c0
  replace hb := hide hb
  clear HX c0 hl
  go_wp2_with fail
  refine (has_any at_ _ c2).mono ?_
  rintro e w2 ⟨rfl, rfl⟩
  go_wp2_with fail
  go_ret
  exact ⟨rfl, unhide hb⟩
theorem wr_full (bs bp : Nat) (a : Option Addr) (cap : Nat) (A : Stt) (at_ : Int) (l : List Nat) (w : World) (h : Sto LP w bs bp (.slice a A.W.length cap) A) (hin : inR at_ A.L.length = true) (hn : ¬ A.W.length < 4096) : Calls Try.prog 23 #[.pointer (some ⟨bs, 0, none⟩), .int .i64 at_, bk l] w fun e w' => e = .returned (.int .i64 10) ∧ Below w.heap.size w w' := by
  have c0 := h.s.at 0 _ rfl
  have c1 := h.s.at 1 _ rfl
  have hl := h.s.lt
  have d1 : decide ((4096 : Int) ≤ (A.W.length : Int)) = true := decide_eq_true (by omega)
  clear h hn
  go_enter Try.func23, Try.ntmps23
  go_wp2_with (refine box_rg rfl 45 _ rfl (l := byv l) rfl ?_)
  intro W HX hb
  have c2 := (hb.cell (p := ⟨bs, 0, none⟩) hl).trans c0
  have c3 := (hb.cell (p := ⟨bs, 1, none⟩) hl).trans c1
  replace hb := hide hb
  clear HX c0 c1 hl
  go_wp2_with fail
  refine (has_any at_ _ c2).mono ?_
  rintro e w2 ⟨rfl, rfl⟩
  go_wp2_with fail
  refine (size_any _ c3).mono ?_
  rintro e w2 ⟨rfl, rfl⟩
  go_wp2_with fail
  go_ret
  exact ⟨rfl, unhide hb⟩
theorem wri_any (p : Value) (A : Stt) (F : Nat → Prop) (at_ : Int) (l : List Nat) (w : World) (h : Has LP w p A F) (hl : l.length = 64) : Calls Try.prog 23 #[p, .int .i64 at_, bk l] w fun e w' => e = .returned (.int .i64 (wrE A at_)) ∧ StepP LP w w' p (wrS A at_ l) F := by
  have h0 := h
  obtain ⟨bs, bp, vq, rfl, rfl, h⟩ := h
  obtain ⟨a, cap, rfl⟩ := own_form h.q
  cases hin : inR at_ A.L.length with
  | false =>
    have e1 : wrE A at_ = 2 := by simp [wrE, hin]
    rw [show wrS A at_ l = A by rw [wrS, e1, if_neg (by decide)], e1]
    refine (wr_no bs bp a cap A at_ l w h hin).mono ?_
    rintro e w' ⟨rfl, hb⟩
    exact ⟨rfl, StepP.same h0 hb⟩
  | true =>
    by_cases hn : A.W.length < 4096
    · have e1 : wrE A at_ = 0 := by simp [wrE, hin, hn]
      have hr : 0 ≤ at_ ∧ at_ < (A.L.length : Int) := by simpa [inR] using hin
      obtain ⟨k, rfl⟩ : ∃ k : Nat, at_ = (k : Int) := ⟨at_.toNat, by omega⟩
      rw [show wrS A (k : Int) l = ⟨A.L, A.W ++ [(k, l)]⟩ by rw [wrS, e1, if_pos rfl]; rfl, e1]
      exact wr_ok bs bp a cap A k l w h ⟨by omega, hl⟩ hn hin
    · have e1 : wrE A at_ = 10 := by simp [wrE, hin, hn]
      rw [show wrS A at_ l = A by rw [wrS, e1, if_neg (by decide)], e1]
      refine (wr_full bs bp a cap A at_ l w h hin hn).mono ?_
      rintro e w' ⟨rfl, hb⟩
      exact ⟨rfl, StepP.same h0 hb⟩
end Go.Proofs.Ytdbefnghljjieaa
