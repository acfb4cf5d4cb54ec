/- Arguments opened: steps. -/
import Derived.Test.YtdbefnghljjieaaAl
import Derived.Lib.SmallJoins
import Derived.BigQuiet
import Derived.Handy
namespace Go.Proofs.Ytdbefnghljjieaa
open Go.RowKit
set_option linter.unusedVariables false
set_option linter.unusedSimpArgs false
open Go.ChangeShapes Go.WideShapes Go.ChangeAt
theorem list_of {α β : Type} {g : α → β} {P : α → Prop} : ∀ {l : List β}, (∀ f ∈ l, ∃ a, f = g a ∧ P a) → ∃ as' : List α, l = as'.map g ∧ ∀ a ∈ as', P a
  | [], _ => ⟨[], rfl, fun a h => by cases h⟩
  | f :: r, h => by
    obtain ⟨a, h1, h2⟩ := h f List.mem_cons_self
    obtain ⟨t, h3, h4⟩ := list_of (l := r) (fun x hx => h x (List.mem_cons_of_mem _ hx))
    exact ⟨a :: t, by rw [List.map_cons, h1, h3], fun x hx => by
      rcases List.mem_cons.1 hx with rfl | hx
      · exact h2
      · exact h4 x hx⟩
theorem rowG_open {H : Type} {enc : TypeId × Value → H} {W : World} {base : Nat} {spare : Nat → Bool} {held : Bool} {T E : TypeId} {fuel : Nat} {a : Option Addr} {len cap m : Nat} {x : DataW H × List MemPlace} {R : List Value → Prop}
    (ht : Try.prog.underlying T = some (.slice E)) (ce : Try.prog.cellsOf E = m) (hm0 : 0 < m)
    (el : ∀ n cs y, DataW.trod enc Try.prog W base spare held n E cs = some y → cs.length = m → R cs) (hR : ∀ f, R f → f.length = m ∧ ∀ x ∈ f, x.oneCell' = true)
    (h : DataW.trod enc Try.prog W base spare held fuel T [.slice a len cap] = some x) : ∃ l : List (List Value), RowG m W (.slice a len cap) l ∧ ∀ f ∈ l, R f := by
  rcases Go.Deep.open_slice ht h with ⟨hc, _⟩ | ⟨ad, l, c, q, n, D, Pl, hc, hb, hl, hm, hmm, _, hx⟩
  · simp at hc
    obtain ⟨rfl, rfl, rfl⟩ := hc
    exact ⟨[], Or.inl ⟨_, _, rfl, rfl, fun _ => rfl⟩, fun f hf => by cases hf⟩
  · simp at hc
    obtain ⟨rfl, rfl, rfl⟩ := hc
    by_cases h0 : len = 0
    · subst h0; exact ⟨[], Or.inl ⟨_, cap, rfl, rfl, fun c => (by cases c)⟩, fun f hf => by cases hf⟩
    · have hlm : len ≤ q := by rw [hmm]; split <;> omega
      have each : ∀ i, i < len → ∃ f : List Value, R f ∧ ∀ t, t < m → W.cell? (ad.add (i * m + t)) = some (f.getD t undef) := fun i hi => by
        obtain ⟨cs', h1, h2⟩ := hx i (by omega)
        rw [ce] at h1
        obtain ⟨_, hlen, hcell⟩ := World.cells?_some h1
        refine ⟨cs', el _ _ _ h2 hlen, fun t ht => ?_⟩
        have e := hcell t (by omega)
        rw [Go.Deep.add_add] at e
        rw [e]
        simp [List.getD, show t < cs'.length by omega]
      obtain ⟨q', hq⟩ : ∃ q : Nat → List Value, ∀ i, i < len → R (q i) ∧ ∀ t, t < m → W.cell? (ad.add (i * m + t)) = some ((q i).getD t undef) :=
        (Classical.skolem (p := fun i (f : List Value) => i < len → R f ∧ ∀ t, t < m → W.cell? (ad.add (i * m + t)) = some (f.getD t undef))).1 (fun i => by
          by_cases hi : i < len
          · obtain ⟨p, hp⟩ := each i hi
            exact ⟨p, fun _ => hp⟩
          · exact ⟨[], fun c => absurd c hi⟩)
      obtain ⟨b, off, spot⟩ := ad
      have hspot : spot = none := by simpa [Addr.add] using World.cell?_spot ((hq 0 (by omega)).2 0 (by omega))
      subst hspot
      have hlen : ((List.range len).map q').length = len := by simp
      refine ⟨(List.range len).map q', Or.inr ⟨b, off, cap, by rw [hlen], by omega, by omega, by omega, fun j hj t ht => ?_, fun f hf => ?_⟩, fun f hf => ?_⟩
      · rw [hlen] at hj
        have e : ((List.range len).map q').getD j [] = q' j := by simp [List.getD, hj]
        have g := (hq j hj).2 t ht
        rw [Go.WideShapes.add_plain] at g
        unfold getG
        rw [e, Nat.add_assoc]
        exact g
      · obtain ⟨j, hj, rfl⟩ := List.mem_map.1 hf
        exact hR _ (hq j (List.mem_range.1 hj)).1
      · obtain ⟨j, hj, rfl⟩ := List.mem_map.1 hf
        exact (hq j (List.mem_range.1 hj)).1
theorem bys_open {H : Type} {enc : TypeId × Value → H} {W : World} {base : Nat} {spare : Nat → Bool} {held : Bool} {fuel : Nat} {a : Option Addr} {len cap : Nat} {x : DataW H × List MemPlace}
    (h : DataW.trod enc Try.prog W base spare held fuel 32 [.slice a len cap] = some x) : ∃ l : List Nat, RowG 1 W (.slice a len cap) (bysN l) ∧ ∀ x ∈ l, x < 256 := by
  obtain ⟨l, h1, h2⟩ := rowG_open (R := fun f => ∃ m : Nat, f = [Value.int .u8 (m : Int)] ∧ m < 256) Try.underlying32 (m := 1) (by kernel_rfl) (by decide) (fun n cs y hy hl => by
    match cs, hl with
    | [v0], _ =>
      obtain ⟨z0, e0, _, w0⟩ := DataW.trod_int Try.underlying5 hy
      simp at e0
      simp [Lit.wf, IntKind.min, IntKind.max, IntKind.signed, IntKind.bits] at w0
      exact ⟨z0.toNat, by rw [e0, show z0 = ((z0.toNat : Nat) : Int) by omega]; rfl, by omega⟩) (fun f ⟨m, e, _⟩ => by
    subst e
    exact ⟨rfl, fun v hv => by simp at hv; subst hv; rfl⟩) h
  obtain ⟨ms, rfl, hR⟩ := list_of h2
  exact ⟨ms, h1, hR⟩
theorem sl_open {H : Type} {enc : TypeId × Value → H} {W : World} {base : Nat} {spare : Nat → Bool} {held : Bool} {fuel : Nat} {c : Value} {x : DataW H × List MemPlace}
    (h : DataW.trod enc Try.prog W base spare held fuel 32 [c] = some x) : ∃ a len cap, ∃ l : List Nat, c = .slice a len cap ∧ RowG 1 W (.slice a len cap) (bysN l) ∧ ∀ x ∈ l, x < 256 := by
  obtain ⟨a, len, cap, rfl⟩ : ∃ a len cap, c = .slice a len cap := by
    rcases Go.Deep.open_slice Try.underlying32 h with ⟨hcs, _⟩ | ⟨x, l, c, _, _, _, _, hcs, _⟩
    · simp at hcs
      exact ⟨none, 0, 0, hcs⟩
    · simp at hcs
      exact ⟨some x, l, c, hcs⟩
  obtain ⟨l, h1, h2⟩ := bys_open h
  exact ⟨a, len, cap, l, rfl, h1, h2⟩
theorem ops_open {H : Type} {enc : TypeId × Value → H} {W : World} {base : Nat} {spare : Nat → Bool} {held : Bool} {fuel : Nat} {a : Option Addr} {len cap : Nat} {x : DataW H × List MemPlace}
    (h : DataW.trod enc Try.prog W base spare held fuel 22 [.slice a len cap] = some x) : ∃ l : List Opx, Ops W (.slice a len cap) l := by
  obtain ⟨l, h1, h2⟩ := rowG_open (R := fun f => ∃ o : Opx, f = opL o ∧ OpOk W o) Try.underlying22 (m := 4) (by kernel_rfl) (by decide) (fun n cs y hy hl => by
    obtain ⟨xs, k, hk, hxy, _, hxl, hf⟩ := DataW.trod_struct Try.underlying34 hy
    match xs, hxl, cs, hl with
    | [y0, y1, y2, y3], _, [v0, v1, v2, v3], _ =>
      have g0 := hf 0 _ rfl
      have g1 := hf 1 _ rfl
      have g2 := hf 2 _ rfl
      have g3 := hf 3 _ rfl
      simp [show Try.prog.cellsOf 3 = 1 by kernel_rfl, show Try.prog.cellsOf 32 = 1 by kernel_rfl] at g0 g1 g2 g3
      obtain ⟨z0, e0, _, w0⟩ := DataW.trod_int Try.underlying3 g0
      obtain ⟨z1, e1, _, w1⟩ := DataW.trod_int Try.underlying3 g1
      simp at e0 e1
      obtain ⟨xb, nb, cb, B, e2, hb, _⟩ := sl_open g2
      obtain ⟨xf, nf, cf, F, e3, hf3, hf8⟩ := sl_open g3
      exact ⟨⟨z0, z1, xb, nb, cb, xf, nf, cf, B, F⟩, by rw [e0, e1, e2, e3]; rfl, ⟨hb, hf3, hf8⟩⟩) (fun f ⟨m, e, _⟩ => by
    subst e
    exact ⟨rfl, one_opL m⟩) h
  obtain ⟨ms, rfl, hR⟩ := list_of h2
  exact ⟨ms, h1, hR⟩
end Go.Proofs.Ytdbefnghljjieaa
