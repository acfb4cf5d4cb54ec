/- Rows of structs of one-cell values. -/
import Derived.Test.YtpeoabopeihadaaULLv
import Derived.Lib.SmallJoins
set_option linter.unusedVariables false
set_option linter.unusedSimpArgs false
set_option linter.unusedSectionVars false
namespace Go.Proofs.Ytpeoabopeihadaa.Mn
open Go.RowKit
open Go.Proofs.Ytpeoabopeihadaa.Sim
def Fit (m : Nat) (l : List (List Value)) : Prop := ∀ f ∈ l, f.length = m ∧ ∀ x ∈ f, x.oneCell' = true
abbrev getG (l : List (List Value)) (j t : Nat) : Value := (l.getD j []).getD t undef
def RowG (m : Nat) (w : World) (v : Value) (l : List (List Value)) : Prop :=
  (∃ a cap, v = .slice a 0 cap ∧ l = [] ∧ (a = none → cap = 0)) ∨
  ∃ b off cap, v = .slice (some ⟨b, off, none⟩) l.length cap ∧ 0 < l.length ∧ l.length ≤ cap ∧ cap ≤ maxLen ∧ (∀ j, j < l.length → ∀ t, t < m → w.cell? ⟨b, off + j * m + t, none⟩ = some (getG l j t)) ∧ Fit m l
section
variable {m : Nat} {w w' : World} {v : Value} {l : List (List Value)}
theorem rowG_slice (h : RowG m w v l) : ∃ a cap, v = .slice a l.length cap := by
  rcases h with ⟨a, cap, rfl, rfl, _⟩ | ⟨b, off, cap, rfl, _⟩
  · exact ⟨a, cap, rfl⟩
  · exact ⟨_, cap, rfl⟩
theorem rowG_len {a : Option Addr} {n c : Nat} (h : RowG m w (.slice a n c) l) : n = l.length := by
  obtain ⟨a', c', e⟩ := rowG_slice h
  cases e
  rfl
theorem RowG.keep (h : RowG m w v l) (hb : Below w.heap.size w w') : RowG m w' v l := by
  rcases h with h | ⟨b, off, cap, h1, h2, h3, h6, h4, h5⟩
  · exact Or.inl h
  · exact Or.inr ⟨b, off, cap, h1, h2, h3, h6, fun j hj t ht => (hb.cell (p := ⟨b, off + j * m + t, none⟩) (lt_of_cell (h4 j hj t ht))).trans (h4 j hj t ht), h5⟩
theorem RowG.cells {b off n cap : Nat} (h : RowG m w (.slice (some ⟨b, off, none⟩) n cap) l) {j t : Nat} (hj : j < l.length) (ht : t < m) : w.cell? ⟨b, off + j * m + t, none⟩ = some (getG l j t) := by
  rcases h with ⟨a, c, h1, h2, _⟩ | ⟨b', off', c, h1, _, _, _, h2, _⟩
  · rw [h2] at hj; exact absurd hj (Nat.not_lt_zero j)
  · cases h1
    exact h2 j hj t ht
theorem RowG.open (h : RowG m w v l) (h0 : 0 < l.length) : ∃ b off cap, v = .slice (some ⟨b, off, none⟩) l.length cap ∧ l.length ≤ cap ∧ cap ≤ maxLen := by
  rcases h with ⟨a, c, h1, h2, _⟩ | ⟨b', off', c, h1, _, h2, h3, _⟩
  · rw [h2] at h0; exact absurd h0 (Nat.not_lt_zero _)
  · exact ⟨b', off', c, h1, h2, h3⟩
end
open Go.ChangeShapes Go.WideShapes Go.ChangeAt
theorem list_of {α β : Type} {g : α → β} {P : α → Prop} : ∀ {l : List β}, (∀ f ∈ l, ∃ a, f = g a ∧ P a) → ∃ as' : List α, l = as'.map g ∧ ∀ a ∈ as', P a
  | [], _ => ⟨[], rfl, fun a h => by cases h⟩
  | f :: r, h => by
    obtain ⟨a, h1, h2⟩ := h f List.mem_cons_self
    obtain ⟨t, h3, h4⟩ := list_of (l := r) (fun x hx => h x (List.mem_cons_of_mem _ hx))
    exact ⟨a :: t, by rw [List.map_cons, h1, h3], fun x hx => by
      rcases List.mem_cons.1 hx with rfl | hx
      · exact h2
      · exact h4 x hx⟩
theorem rowG_open {H : Type} {enc : TypeId × Value → H} {W : World} {base : Nat} {spare : Nat → Bool} {held : Bool} {T E : TypeId} {fuel : Nat} {a : Option Addr} {len cap m : Nat} {x : DataW H × List MemPlace} {R : List Value → Prop}
    (ht : Try.prog.underlying T = some (.slice E)) (ce : Try.prog.cellsOf E = m) (hm0 : 0 < m)
    (el : ∀ n cs y, DataW.trod enc Try.prog W base spare held n E cs = some y → cs.length = m → R cs) (hR : ∀ f, R f → f.length = m ∧ ∀ x ∈ f, x.oneCell' = true)
    (h : DataW.trod enc Try.prog W base spare held fuel T [.slice a len cap] = some x) : ∃ l : List (List Value), RowG m W (.slice a len cap) l ∧ ∀ f ∈ l, R f := by
  rcases Go.Deep.open_slice ht h with ⟨hc, _⟩ | ⟨ad, l, c, q, n, D, Pl, hc, hb, hl, hm, hmm, _, hx⟩
  · simp at hc
    obtain ⟨rfl, rfl, rfl⟩ := hc
    exact ⟨[], Or.inl ⟨_, _, rfl, rfl, fun _ => rfl⟩, fun f hf => by cases hf⟩
  · simp at hc
    obtain ⟨rfl, rfl, rfl⟩ := hc
    by_cases h0 : len = 0
    · subst h0; exact ⟨[], Or.inl ⟨_, cap, rfl, rfl, fun c => (by cases c)⟩, fun f hf => by cases hf⟩
    · have hlm : len ≤ q := by rw [hmm]; split <;> omega
      have each : ∀ i, i < len → ∃ f : List Value, R f ∧ ∀ t, t < m → W.cell? (ad.add (i * m + t)) = some (f.getD t undef) := fun i hi => by
        obtain ⟨cs', h1, h2⟩ := hx i (by omega)
        rw [ce] at h1
        obtain ⟨_, hlen, hcell⟩ := World.cells?_some h1
        refine ⟨cs', el _ _ _ h2 hlen, fun t ht => ?_⟩
        have e := hcell t (by omega)
        rw [Go.Deep.add_add] at e
        rw [e]
        simp [List.getD, show t < cs'.length by omega]
      obtain ⟨q', hq⟩ : ∃ q : Nat → List Value, ∀ i, i < len → R (q i) ∧ ∀ t, t < m → W.cell? (ad.add (i * m + t)) = some ((q i).getD t undef) :=
        (Classical.skolem (p := fun i (f : List Value) => i < len → R f ∧ ∀ t, t < m → W.cell? (ad.add (i * m + t)) = some (f.getD t undef))).1 (fun i => by
          by_cases hi : i < len
          · obtain ⟨p, hp⟩ := each i hi
            exact ⟨p, fun _ => hp⟩
          · exact ⟨[], fun c => absurd c hi⟩)
      obtain ⟨b, off, spot⟩ := ad
      have hspot : spot = none := by simpa [Addr.add] using World.cell?_spot ((hq 0 (by omega)).2 0 (by omega))
      subst hspot
      have hlen : ((List.range len).map q').length = len := by simp
      refine ⟨(List.range len).map q', Or.inr ⟨b, off, cap, by rw [hlen], by omega, by omega, by omega, fun j hj t ht => ?_, fun f hf => ?_⟩, fun f hf => ?_⟩
      · rw [hlen] at hj
        have e : ((List.range len).map q').getD j [] = q' j := by simp [List.getD, hj]
        have g := (hq j hj).2 t ht
        rw [Go.WideShapes.add_plain] at g
        unfold getG
        rw [e, Nat.add_assoc]
        exact g
      · obtain ⟨j, hj, rfl⟩ := List.mem_map.1 hf
        exact hR _ (hq j (List.mem_range.1 hj)).1
      · obtain ⟨j, hj, rfl⟩ := List.mem_map.1 hf
        exact (hq j (List.mem_range.1 hj)).1
theorem rowG_wt {m : Nat} {w : World} {v : Value} {l : List (List Value)} (h : RowG m w v l) (t : Tape) (d : Nat) : RowG m (wt w t d) v l := by
  rcases h with h | ⟨b, off, cap, h1, h2, h3, h6, h4, h5⟩
  · exact Or.inl h
  · exact Or.inr ⟨b, off, cap, h1, h2, h3, h6, fun j hj t ht => h4 j hj t ht, h5⟩
end Go.Proofs.Ytpeoabopeihadaa.Mn
