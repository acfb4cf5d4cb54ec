/- A store apart from blocks. -/
import Derived.Test.YtdbefnghljjieaaQe
namespace Go.Proofs.Ytdbefnghljjieaa
open Go.RowKit
set_option linter.unusedVariables false
set_option linter.unusedSimpArgs false
/-- The blocks X are as they were. -/
structure Kp (X : Nat → Prop) (w w' : World) : Prop where
  os : w'.os = w.os
  tape : w'.tape = w.tape
  output : w'.output = w.output
  size : w.heap.size ≤ w'.heap.size
  block : ∀ k, X k → w'.heap[k]? = w.heap[k]?
section
variable {X Z : Nat → Prop} {a b c w w' : World}
theorem Kp.refl (X : Nat → Prop) (w : World) : Kp X w w := ⟨rfl, rfl, rfl, Nat.le_refl _, fun _ _ => rfl⟩
theorem Kp.trans (h : Kp X a b) (k : Kp X b c) : Kp X a c := ⟨k.os.trans h.os, k.tape.trans h.tape, k.output.trans h.output, Nat.le_trans h.size k.size, fun x hx => (k.block x hx).trans (h.block x hx)⟩
theorem Kp.mono (h : Kp X a b) (hZ : ∀ k, Z k → X k) : Kp Z a b := ⟨h.os, h.tape, h.output, h.size, fun k hk => h.block k (hZ k hk)⟩
theorem Kp.of (h : Below w.heap.size w w') (hX : ∀ k, X k → k < w.heap.size) : Kp X w w' := ⟨h.os, h.tape, h.output, h.size, fun k hk => h.block k (hX k hk)⟩
theorem Kp.but {F : Nat → Prop} (h : But F w w') (hX : ∀ k, X k → k < w.heap.size) (hF : ∀ k, F k → ¬ X k) : Kp X w w' := ⟨h.os, h.tape, h.output, h.size, fun k hk => h.block k (hX k hk) (fun f => hF k f hk)⟩
theorem Kp.blk {x : Nat} {cs : Array Value} {T : TypeId} (h : Kp X w w') (hB : Blk w x cs T) (hx : X x) : Blk w' x cs T := (h.block x hx).trans hB
theorem Kp.below (h : Kp X w w') {n : Nat} (hn : ∀ k, k < n → X k) : Below n w w' := ⟨h.os, h.tape, h.output, h.size, fun k hk => h.block k (hn k hk)⟩
theorem Kp.lt (h : Kp X w w') (hX : ∀ k, X k → k < w.heap.size) : ∀ k, X k → k < w'.heap.size := fun k hk => Nat.lt_of_lt_of_le (hX k hk) h.size
end
/-- A store apart from the blocks X. -/
def HasX (Y : Lay) (w : World) (p : Value) (A : Stt) (X : Nat → Prop) : Prop := ∃ F, Has Y w p A F ∧ ∀ k, F k → ¬ X k
section
variable {Y : Lay} {w w' : World} {p : Value} {A A' : Stt} {X Z : Nat → Prop}
theorem HasX.below (h : HasX Y w p A X) (hb : Below w.heap.size w w') : HasX Y w' p A X := by
  obtain ⟨F, h1, h2⟩ := h
  exact ⟨F, h1.below hb, h2⟩
theorem HasX.keep {b : Nat} (h : HasX Y w p A X) (hb : But (fun k => k = b) w w') (hX : X b) : HasX Y w' p A X := by
  obtain ⟨F, h1, h2⟩ := h
  exact ⟨F, h1.keep hb (fun k hk e => h2 k hk (by rw [e]; exact hX)), h2⟩
theorem HasX.mono (h : HasX Y w p A X) (hZ : ∀ k, Z k → X k) : HasX Y w p A Z := by
  obtain ⟨F, h1, h2⟩ := h
  exact ⟨F, h1, fun k hk z => h2 k hk (hZ k z)⟩
theorem HasX.more (h : HasX Y w p A X) {b : Nat} (hb : w.heap.size ≤ b) : HasX Y w p A (fun k => X k ∨ k = b) := by
  obtain ⟨F, h1, h2⟩ := h
  exact ⟨F, h1, fun k hk z => by
    rcases z with z | z
    · exact h2 k hk z
    · have := h1.lt k hk; omega⟩
theorem HasX.ptr (h : HasX Y w p A X) : ∃ bs, p = .pointer (some ⟨bs, 0, none⟩) := by
  obtain ⟨F, ⟨bs, bp, vq, h1, _⟩, _⟩ := h
  exact ⟨bs, h1⟩
theorem HasX.good (h : HasX Y w p A X) : Good A := by
  obtain ⟨F, h1, h2⟩ := h
  exact h1.good
theorem StepP.x {F : Nat → Prop} (h : StepP Y w w' p A' F) (hF : ∀ k, F k → ¬ X k) (hX : ∀ k, X k → k < w.heap.size) : HasX Y w' p A' X ∧ Kp X w w' := by
  obtain ⟨F', h1, h2, h3⟩ := h
  exact ⟨⟨F', h1, fun k hk x => (h3 k hk).elim (fun f => hF k f x) (fun e => by have := hX k x; omega)⟩, Kp.but h2 hX hF⟩
theorem NewP.x {e : Ending} {n : Nat} (h : NewP Y w w' e n) (hX : ∀ k, X k → k < w.heap.size) : ∃ p, e = .returned (.tuple #[p, .int .i64 0]) ∧ HasX Y w' p (newS n) X ∧ Below w.heap.size w w' := by
  obtain ⟨p, F, h1, h2, h3, h4⟩ := h
  exact ⟨p, h1, ⟨F, h2, fun k hk x => by have := h4 k hk; have := hX k x; omega⟩, h3⟩
end
theorem newx (n : Nat) (X : Nat → Prop) (w : World) (h0 : 1 ≤ n) (h1 : n ≤ 4096) (hX : ∀ k, X k → k < w.heap.size) : Calls Try.prog 10 #[.int .i64 (n : Int)] w fun e w' => ∃ p, e = .returned (.tuple #[p, .int .i64 0]) ∧ HasX LP w' p (newS n) X ∧ Below w.heap.size w w' := (new_ok n w h0 h1).mono fun e w' h => h.x hX

theorem sizx (p : Value) (A : Stt) (X : Nat → Prop) (w : World) (h : HasX LP w p A X) : Calls Try.prog 18 #[p] w fun e w' => e = .returned (.int .i64 (A.L.length : Int)) ∧ w' = w := by
  obtain ⟨F, h1, h2⟩ := h
  exact siz_any p A F w h1
theorem waix (p : Value) (A : Stt) (X : Nat → Prop) (w : World) (h : HasX LP w p A X) : Calls Try.prog 17 #[p] w fun e w' => e = .returned (.int .i64 (A.W.length : Int)) ∧ w' = w := by
  obtain ⟨F, h1, h2⟩ := h
  exact wai_any p A F w h1
theorem reax (p : Value) (A : Stt) (X : Nat → Prop) (w : World) (h : HasX LP w p A X) (at_ : Int) : Calls Try.prog 19 #[p, .int .i64 at_] w fun e w' => e = .returned (.tuple #[bk (rdB A at_), .int .i64 (rdE A at_)]) ∧ Below w.heap.size w w' := by
  obtain ⟨F, h1, h2⟩ := h
  exact rea_any p A F at_ w h1

theorem synx (p : Value) (A : Stt) (X : Nat → Prop) (w : World) (h : HasX LP w p A X) (hX : ∀ k, X k → k < w.heap.size) : Calls Try.prog 21 #[p] w fun e w' => e = .returned (.int .i64 0) ∧ HasX LP w' p (crashS (fun _ => 1) A) X ∧ Kp X w w' := by
  obtain ⟨F, h1, h2⟩ := h
  exact (syn_any p A F w h1).mono fun e w' ⟨e1, h3⟩ => ⟨e1, h3.x h2 hX⟩
theorem wrix (p : Value) (A : Stt) (X : Nat → Prop) (w : World) (h : HasX LP w p A X) (hX : ∀ k, X k → k < w.heap.size) (at_ : Int) (l : List Nat) (hl : l.length = 64) : Calls Try.prog 23 #[p, .int .i64 at_, bk l] w fun e w' => e = .returned (.int .i64 (wrE A at_)) ∧ HasX LP w' p (wrS A at_ l) X ∧ Kp X w w' := by
  obtain ⟨F, h1, h2⟩ := h
  exact (wri_any p A F at_ l w h1 hl).mono fun e w' ⟨e1, h3⟩ => ⟨e1, h3.x h2 hX⟩
theorem crax (p : Value) (A : Stt) (X : Nat → Prop) (w : World) (h : HasX LP w p A X) (hX : ∀ k, X k → k < w.heap.size) (x : Option Addr) (n xc : Nat) (l : List Nat) (hr : RowG 1 w (.slice x n xc) (bysN l)) (hb : ∀ x ∈ l, x < 256) (hf : ∀ y, x = some y → 0 < n → X y.block) : Calls Try.prog 22 #[p, .slice x n xc] w fun e w' => e = .returned (.int .i64 0) ∧ HasX LP w' p (crashS (fateN l) A) X ∧ Kp X w w' := by
  obtain ⟨F, h1, h2⟩ := h
  exact (cra_any p A F x n xc l w h1 hr hb (fun y e h0 c => h2 _ c (hf y e h0))).mono fun e w' ⟨e1, h3⟩ => ⟨e1, h3.x h2 hX⟩
theorem dox (p : Value) (A : Stt) (X : Nat → Prop) (w : World) (h : HasX LP w p A X) (hX : ∀ k, X k → k < w.heap.size) (o : Opx) (ho : OpOk w o) (hf : ∀ y, o.xf = some y → 0 < o.nf → X y.block) : Calls Try.prog 12 #[p, .agg (opL o).toArray] w fun e w' => e = .returned (.int .i64 (doE A o)) ∧ HasX LP w' p (doS A o) X ∧ Kp X w w' := by
  obtain ⟨F, h1, h2⟩ := h
  exact (do_any p A F o w h1 ho (fun k hk y e h0 c => h2 k hk (by rw [← c]; exact hf y e h0))).mono fun e w' ⟨e1, h3⟩ => ⟨e1, h3.x h2 hX⟩
end Go.Proofs.Ytdbefnghljjieaa
