/- Two stores apart; the document's calls. -/
import Derived.Test.YtdbefnghljjieaaRu
import Derived.Test.YtdbefnghljjieaaXs
namespace Go.Proofs.Ytdbefnghljjieaa
open Go.RowKit
set_option linter.unusedVariables false
set_option linter.unusedSimpArgs false
/-- Two stores, apart from one another and from the blocks X. -/
def Two (Y Z : Lay) (X : Nat → Prop) (w : World) (p q : Value) (A B : Stt) : Prop := ∃ F G, Has Y w p A F ∧ Has Z w q B G ∧ (∀ k, F k → ¬ G k) ∧ (∀ k, F k → ¬ X k) ∧ (∀ k, G k → ¬ X k)
section
variable {Y Z : Lay} {X U : Nat → Prop} {w w' : World} {p q : Value} {A B : Stt}
theorem Two.symm (h : Two Y Z X w p q A B) : Two Z Y X w q p B A := by
  obtain ⟨F, G, h1, h2, h3, h4, h5⟩ := h
  exact ⟨G, F, h2, h1, fun k g f => h3 k f g, h5, h4⟩
theorem Two.below (h : Two Y Z X w p q A B) (hb : Below w.heap.size w w') : Two Y Z X w' p q A B := by
  obtain ⟨F, G, h1, h2, h3, h4, h5⟩ := h
  exact ⟨F, G, h1.below hb, h2.below hb, h3, h4, h5⟩
theorem Two.keep {b : Nat} (h : Two Y Z X w p q A B) (hb : But (fun k => k = b) w w') (hX : X b) : Two Y Z X w' p q A B := by
  obtain ⟨F, G, h1, h2, h3, h4, h5⟩ := h
  exact ⟨F, G, h1.keep hb (fun k hk e => h4 k hk (by rw [e]; exact hX)), h2.keep hb (fun k hk e => h5 k hk (by rw [e]; exact hX)), h3, h4, h5⟩
theorem Two.mono (h : Two Y Z X w p q A B) (hU : ∀ k, U k → X k) : Two Y Z U w p q A B := by
  obtain ⟨F, G, h1, h2, h3, h4, h5⟩ := h
  exact ⟨F, G, h1, h2, h3, fun k hk u => h4 k hk (hU k u), fun k hk u => h5 k hk (hU k u)⟩
theorem Two.more (h : Two Y Z X w p q A B) {b : Nat} (hb : w.heap.size ≤ b) : Two Y Z (fun k => X k ∨ k = b) w p q A B := by
  obtain ⟨F, G, h1, h2, h3, h4, h5⟩ := h
  refine ⟨F, G, h1, h2, h3, fun k hk u => ?_, fun k hk u => ?_⟩
  · rcases u with u | u
    · exact h4 k hk u
    · have := h1.lt k hk; omega
  · rcases u with u | u
    · exact h5 k hk u
    · have := h2.lt k hk; omega
/-- The left one, apart from what must stay. -/
theorem Two.l (h : Two Y Z X w p q A B) (hX : ∀ k, X k → k < w.heap.size) : ∃ V : Nat → Prop, HasX Y w p A V ∧ (∀ k, X k → V k) ∧ (∀ k, V k → k < w.heap.size) ∧ ∀ w' A', HasX Y w' p A' V → Kp V w w' → Two Y Z X w' p q A' B := by
  obtain ⟨F, G, h1, h2, h3, h4, h5⟩ := h
  refine ⟨fun k => X k ∨ G k, ⟨F, h1, fun k hk v => v.elim (h4 k hk) (h3 k hk)⟩, fun k x => Or.inl x, fun k v => v.elim (hX k) (h2.lt k), fun w' A' hH hk => ?_⟩
  obtain ⟨F', g1, g2⟩ := hH
  obtain ⟨bs, bp, vq, e1, e2, hs⟩ := h2
  subst e2
  refine ⟨F', Foot bs bp vq, g1, ⟨bs, bp, vq, e1, rfl, ?_⟩, fun k hk g => g2 k hk (Or.inr g), fun k hk x => g2 k hk (Or.inl x), h5⟩
  have kb : ∀ {b : Nat} {cs : Array Value} {T : TypeId}, Blk w b cs T → Foot bs bp vq b → Blk w' b cs T := fun hB hb => hk.blk hB (Or.inr hb)
  refine ⟨kb hs.s (Or.inl rfl), kb hs.p (Or.inr (Or.inl rfl)), ?_, hs.n1, hs.n2, hs.n3, hs.good⟩
  obtain ⟨q1, q2⟩ := hs.q
  refine ⟨q1, ?_⟩
  rcases q2 with q2 | ⟨g, cap, cur, r1, r2, r3, r4⟩
  · exact Or.inl q2
  · exact Or.inr ⟨g, cap, cur, r1, r2, (hk.block g (Or.inr (Or.inr (Or.inr (by rw [r1]; rfl))))).trans r3, r4⟩
theorem Two.left (h : Two Y Z X w p q A B) : HasX Y w p A X := by
  obtain ⟨F, G, h1, h2, h3, h4, h5⟩ := h
  exact ⟨F, h1, h4⟩
end
/-- A second store is made beside the first. -/
theorem two_new {Y Z : Lay} {X : Nat → Prop} {w w' : World} {p : Value} {A : Stt} {e : Ending} {n : Nat} (h : HasX Y w p A X) (hX : ∀ k, X k → k < w.heap.size) (hn : NewP Z w w' e n) : ∃ q, e = .returned (.tuple #[q, .int .i64 0]) ∧ Two Y Z X w' p q A (newS n) ∧ Below w.heap.size w w' := by
  obtain ⟨F, h1, h2⟩ := h
  obtain ⟨q, G, e1, g1, g2, g3⟩ := hn
  exact ⟨q, e1, ⟨F, G, h1.below g2, g1, fun k f g => by have := h1.lt k f; have := g3 k g; omega, h2, fun k g x => by have := g3 k g; have := hX k x; omega⟩, g2⟩
theorem rsyn_any (p : Value) (A : Stt) (F : Nat → Prop) (w : World) (h : Has LR w p A F) : Calls Try.prog 15 #[p] w fun e w' => e = .returned (.tuple #[]) ∧ StepP LR w w' p (crashS (fun _ => 1) A) F := by
  obtain ⟨bs, bp, vq, rfl, rfl, h⟩ := h
  exact (rsync_st bs bp vq A w h).mono fun e w' ⟨e1, h1, h2⟩ => ⟨e1, _, ⟨bs, bp, _, rfl, rfl, h1⟩, h2.mono (fun k _ hk => by rcases hk with e | e; exact Or.inl e; exact Or.inr (Or.inl e)), fun k hk => Or.inl (by rcases hk with e | e | e; exact Or.inl e; exact Or.inr (Or.inl e); cases e)⟩
theorem rcra_any (p : Value) (A : Stt) (F : Nat → Prop) (x : Option Addr) (n xc : Nat) (l : List Nat) (w : World) (h : Has LR w p A F) (hr : RowG 1 w (.slice x n xc) (bysN l)) (hb : ∀ x ∈ l, x < 256) (hF : ∀ y, x = some y → 0 < n → ¬ F y.block) : Calls Try.prog 16 #[p, .slice x n xc] w fun e w' => e = .returned (.tuple #[]) ∧ StepP LR w w' p (crashS (fateN l) A) F := by
  obtain ⟨bs, bp, vq, rfl, rfl, h⟩ := h
  exact (rcrash_st bs bp vq A x n xc l w h hr hb (fun y e h0 => ⟨fun c => hF y e h0 (Or.inl c), fun c => hF y e h0 (Or.inr (Or.inl c))⟩)).mono fun e w' ⟨e1, h1, h2⟩ => ⟨e1, _, ⟨bs, bp, _, rfl, rfl, h1⟩, h2.mono (fun k _ hk => by rcases hk with e | e; exact Or.inl e; exact Or.inr (Or.inl e)), fun k hk => Or.inl (by rcases hk with e | e | e; exact Or.inl e; exact Or.inr (Or.inl e); cases e)⟩
theorem rreax (p : Value) (A : Stt) (X : Nat → Prop) (w : World) (h : HasX LR w p A X) (at_ : Int) : Calls Try.prog 20 #[p, .int .i64 at_] w fun e w' => e = .returned (.tuple #[bk (rdB A at_), .int .i64 (rdE A at_)]) ∧ Below w.heap.size w w' := by
  obtain ⟨F, h1, h2⟩ := h
  exact rrea_any p A F at_ w h1
theorem rsynx (p : Value) (A : Stt) (X : Nat → Prop) (w : World) (h : HasX LR w p A X) (hX : ∀ k, X k → k < w.heap.size) : Calls Try.prog 15 #[p] w fun e w' => e = .returned (.tuple #[]) ∧ HasX LR w' p (crashS (fun _ => 1) A) X ∧ Kp X w w' := by
  obtain ⟨F, h1, h2⟩ := h
  exact (rsyn_any p A F w h1).mono fun e w' ⟨e1, h3⟩ => ⟨e1, h3.x h2 hX⟩
theorem rwrix (p : Value) (A : Stt) (X : Nat → Prop) (w : World) (h : HasX LR w p A X) (hX : ∀ k, X k → k < w.heap.size) (at_ : Int) (l : List Nat) (hl : l.length = 64) : Calls Try.prog 13 #[p, .int .i64 at_, bk l] w fun e w' => e = .returned (.int .i64 (wrE A at_)) ∧ HasX LR w' p (wrS A at_ l) X ∧ Kp X w w' := by
  obtain ⟨F, h1, h2⟩ := h
  exact (rwri_any p A F at_ l w h1 hl).mono fun e w' ⟨e1, h3⟩ => ⟨e1, h3.x h2 hX⟩
theorem rcrax (p : Value) (A : Stt) (X : Nat → Prop) (w : World) (h : HasX LR w p A X) (hX : ∀ k, X k → k < w.heap.size) (x : Option Addr) (n xc : Nat) (l : List Nat) (hr : RowG 1 w (.slice x n xc) (bysN l)) (hb : ∀ x ∈ l, x < 256) (hf : ∀ y, x = some y → 0 < n → X y.block) : Calls Try.prog 16 #[p, .slice x n xc] w fun e w' => e = .returned (.tuple #[]) ∧ HasX LR w' p (crashS (fateN l) A) X ∧ Kp X w w' := by
  obtain ⟨F, h1, h2⟩ := h
  exact (rcra_any p A F x n xc l w h1 hr hb (fun y e h0 c => h2 _ c (hf y e h0))).mono fun e w' ⟨e1, h3⟩ => ⟨e1, h3.x h2 hX⟩
theorem rdB_len {A : Stt} (h : Good A) (at_ : Int) : (rdB A at_).length = 64 := by
  unfold rdB
  split
  · split
    · next h1 h2 =>
      unfold lastB at h2
      unfold lastQ
      cases hq : lastF A.W at_ with
      | none => rw [hq] at h2; cases h2
      | some q => exact (h.w q (lastF_mem hq).1).2
    · cases hg : A.L.getD at_.toNat none with
      | none => exact zs_len
      | some l =>
        have hm : some l ∈ A.L := by
          by_cases hlt : at_.toNat < A.L.length
          · rw [← hg]; simp [List.getD, hlt]
          · simp [List.getD, List.getElem?_eq_none (Nat.le_of_not_lt hlt)] at hg
        exact h.l _ hm
  · exact zs_len
/-- The document's store, laid open. -/
theorem HasX.open {Y : Lay} {w : World} {p : Value} {A : Stt} {X : Nat → Prop} (h : HasX Y w p A X) : ∃ bs bp a cap, p = .pointer (some ⟨bs, 0, none⟩) ∧ Blk w bs #[.slice (some ⟨bp, 0, none⟩) A.L.length A.L.length, .slice a A.W.length cap] Y.TS := by
  obtain ⟨F, ⟨bs, bp, vq, e1, e2, hs⟩, _⟩ := h
  obtain ⟨a, cap, rfl⟩ := own_form hs.q
  exact ⟨bs, bp, a, cap, e1, hs.s⟩
end Go.Proofs.Ytdbefnghljjieaa
