/- Arguments opened: changes, three numbers, three rows. -/
import Derived.Test.YtkccladbcehdbaaRp
import Derived.Lib.SmallJoins
namespace Go.Proofs.Ytkccladbcehdbaa
open Go.RowKit
set_option linter.unusedVariables false
set_option linter.unusedSimpArgs false
open Go.ChangeShapes Go.WideShapes Go.ChangeAt
theorem list_of {α β : Type} {g : α → β} {P : α → Prop} : ∀ {l : List β}, (∀ f ∈ l, ∃ a, f = g a ∧ P a) → ∃ as' : List α, l = as'.map g ∧ ∀ a ∈ as', P a
  | [], _ => ⟨[], rfl, fun a h => by cases h⟩
  | f :: r, h => by
    obtain ⟨a, h1, h2⟩ := h f List.mem_cons_self
    obtain ⟨t, h3, h4⟩ := list_of (l := r) (fun x hx => h x (List.mem_cons_of_mem _ hx))
    exact ⟨a :: t, by rw [List.map_cons, h1, h3], fun x hx => by
      rcases List.mem_cons.1 hx with rfl | hx
      · exact h2
      · exact h4 x hx⟩
theorem rowG_open {H : Type} {enc : TypeId × Value → H} {W : World} {base : Nat} {spare : Nat → Bool} {held : Bool} {T E : TypeId} {fuel : Nat} {a : Option Addr} {len cap m : Nat} {x : DataW H × List MemPlace} {R : List Value → Prop}
    (ht : Try.prog.underlying T = some (.slice E)) (ce : Try.prog.cellsOf E = m) (hm0 : 0 < m)
    (el : ∀ n cs y, DataW.trod enc Try.prog W base spare held n E cs = some y → cs.length = m → R cs) (hR : ∀ f, R f → f.length = m ∧ ∀ x ∈ f, x.oneCell' = true)
    (h : DataW.trod enc Try.prog W base spare held fuel T [.slice a len cap] = some x) : ∃ l : List (List Value), RowG m W (.slice a len cap) l ∧ ∀ f ∈ l, R f := by
  rcases Go.Deep.open_slice ht h with ⟨hc, _⟩ | ⟨ad, l, c, q, n, D, Pl, hc, hb, hl, hm, hmm, _, hx⟩
  · simp at hc
    obtain ⟨rfl, rfl, rfl⟩ := hc
    exact ⟨[], Or.inl ⟨_, _, rfl, rfl, fun _ => rfl⟩, fun f hf => by cases hf⟩
  · simp at hc
    obtain ⟨rfl, rfl, rfl⟩ := hc
    by_cases h0 : len = 0
    · subst h0; exact ⟨[], Or.inl ⟨_, cap, rfl, rfl, fun c => (by cases c)⟩, fun f hf => by cases hf⟩
    · have hlm : len ≤ q := by rw [hmm]; split <;> omega
      have each : ∀ i, i < len → ∃ f : List Value, R f ∧ ∀ t, t < m → W.cell? (ad.add (i * m + t)) = some (f.getD t undef) := fun i hi => by
        obtain ⟨cs', h1, h2⟩ := hx i (by omega)
        rw [ce] at h1
        obtain ⟨_, hlen, hcell⟩ := World.cells?_some h1
        refine ⟨cs', el _ _ _ h2 hlen, fun t ht => ?_⟩
        have e := hcell t (by omega)
        rw [Go.Deep.add_add] at e
        rw [e]
        simp [List.getD, show t < cs'.length by omega]
      obtain ⟨q', hq⟩ : ∃ q : Nat → List Value, ∀ i, i < len → R (q i) ∧ ∀ t, t < m → W.cell? (ad.add (i * m + t)) = some ((q i).getD t undef) :=
        (Classical.skolem (p := fun i (f : List Value) => i < len → R f ∧ ∀ t, t < m → W.cell? (ad.add (i * m + t)) = some (f.getD t undef))).1 (fun i => by
          by_cases hi : i < len
          · obtain ⟨p, hp⟩ := each i hi
            exact ⟨p, fun _ => hp⟩
          · exact ⟨[], fun c => absurd c hi⟩)
      obtain ⟨b, off, spot⟩ := ad
      have hspot : spot = none := by simpa [Addr.add] using World.cell?_spot ((hq 0 (by omega)).2 0 (by omega))
      subst hspot
      have hlen : ((List.range len).map q').length = len := by simp
      refine ⟨(List.range len).map q', Or.inr ⟨b, off, cap, by rw [hlen], by omega, by omega, by omega, fun j hj t ht => ?_, fun f hf => ?_⟩, fun f hf => ?_⟩
      · rw [hlen] at hj
        have e : ((List.range len).map q').getD j [] = q' j := by simp [List.getD, hj]
        have g := (hq j hj).2 t ht
        rw [Go.WideShapes.add_plain] at g
        unfold getG
        rw [e, Nat.add_assoc]
        exact g
      · obtain ⟨j, hj, rfl⟩ := List.mem_map.1 hf
        exact hR _ (hq j (List.mem_range.1 hj)).1
      · obtain ⟨j, hj, rfl⟩ := List.mem_map.1 hf
        exact (hq j (List.mem_range.1 hj)).1
theorem chs_open {H : Type} {enc : TypeId × Value → H} {W : World} {base : Nat} {spare : Nat → Bool} {held : Bool} {fuel : Nat} {a : Option Addr} {len cap : Nat} {x : DataW H × List MemPlace}
    (h : DataW.trod enc Try.prog W base spare held fuel 23 [.slice a len cap] = some x) : ∃ l : List Ch, RowG 5 W (.slice a len cap) (l.map chL) := by
  obtain ⟨l, h1, h2⟩ := rowG_open (R := fun f => ∃ m : Ch, f = chL m ∧ True) Try.underlying23 (m := 5) (by kernel_rfl) (by decide) (fun n cs y hy hl => by
    obtain ⟨xs, k, hk, hxy, _, hxl, hf⟩ := DataW.trod_struct Try.underlying47 hy
    match xs, hxl, cs, hl with
    | [y0, y1, y2, y3, y4], _, [v0, v1, v2, v3, v4], _ =>
      have g0 := hf 0 _ rfl
      have g1 := hf 1 _ rfl
      have g2 := hf 2 _ rfl
      have g3 := hf 3 _ rfl
      have g4 := hf 4 _ rfl
      simp [show Try.prog.cellsOf 3 = 1 by kernel_rfl, show Try.prog.cellsOf 2 = 1 by kernel_rfl] at g0 g1 g2 g3 g4
      obtain ⟨z0, e0, _, w0⟩ := DataW.trod_int Try.underlying3 g0
      obtain ⟨z1, e1, _, w1⟩ := DataW.trod_int Try.underlying3 g1
      obtain ⟨z2, e2, _, w2⟩ := DataW.trod_int Try.underlying2 g2
      obtain ⟨z3, e3, _, w3⟩ := DataW.trod_int Try.underlying2 g3
      obtain ⟨z4, e4, _, w4⟩ := DataW.trod_int Try.underlying2 g4
      simp at e0 e1 e2 e3 e4
      exact ⟨⟨z0, z1, z2, z3, z4⟩, by rw [e0, e1, e2, e3, e4], trivial⟩) (fun f ⟨m, e, _⟩ => by
    subst e
    exact fit_chs [m] _ (by simp)) h
  obtain ⟨ms, rfl, _⟩ := list_of h2
  exact ⟨ms, h1⟩
theorem okWide_array {P : Program} {w : World} {r : Reach} {base n : Nat} {t e : TypeId} {v : Value} (ht : P.underlying t = some (.array n e)) (h : Value.okWide P w r base t v) : ∃ cs, v = .agg cs ∧ cs.size = P.cellsOf t := by
  simp only [Value.okWide, ht] at h
  obtain ⟨cs, h1, h2, _⟩ := h
  exact ⟨cs, h1, h2⟩
section
variable {H : Type} {enc : TypeId × Value → H} {w : World} {b0 base : Nat} {held : Bool} {v : Value} {d : DataW H} {p : List MemPlace}
set_option maxRecDepth 100000 in
theorem arr3_open (hv : Value.okWide Try.prog w .any b0 22 v) (h : DataW.Trod enc Try.prog w base (fun _ => true) held 22 v d p) : ∃ a b c : Int, v = .agg #[.int .i64 a, .int .i64 b, .int .i64 c] ∧ In64 a ∧ In64 b ∧ In64 c := by
  obtain ⟨cs, rfl, hsz⟩ := okWide_array Try.underlying22 hv
  have hsz : cs.size = 3 := hsz.trans (by kernel_rfl)
  obtain ⟨cl⟩ := cs
  simp only [List.size_toArray] at hsz
  match cl, hsz with
  | [v0, v1, v2], _ =>
    obtain ⟨fuel, hf⟩ := h
    obtain ⟨xs, m, _, hx, _, hlen, hF⟩ := DataW.trod_array Try.underlying22 hf
    match xs, hlen with
    | [y0, y1, y2], _ =>
      have h0 : DataW.trod enc Try.prog w base (fun _ => true) held m 2 [v0] = some y0 := by simpa [Value.cells, show Try.prog.cellsOf 2 = 1 by kernel_rfl] using hF 0 (by decide)
      have h1 : DataW.trod enc Try.prog w base (fun _ => true) held m 2 [v1] = some y1 := by simpa [Value.cells, show Try.prog.cellsOf 2 = 1 by kernel_rfl] using hF 1 (by decide)
      have h2 : DataW.trod enc Try.prog w base (fun _ => true) held m 2 [v2] = some y2 := by simpa [Value.cells, show Try.prog.cellsOf 2 = 1 by kernel_rfl] using hF 2 (by decide)
      obtain ⟨z0, e0, _, w0⟩ := DataW.trod_int Try.underlying2 h0
      obtain ⟨z1, e1, _, w1⟩ := DataW.trod_int Try.underlying2 h1
      obtain ⟨z2, e2, _, w2⟩ := DataW.trod_int Try.underlying2 h2
      simp at e0 e1 e2
      subst e0 e1 e2
      exact ⟨z0, z1, z2, rfl, in64_of w0, in64_of w1, in64_of w2⟩
/-- Are a row's numbers of 64 bits? -/
structure RwI (r : Rw) : Prop where
  o : In64 r.o
  i : In64 r.i
  u : In64 r.u
  n : In64 r.n
  x : In64 r.x
  z : In64 r.z
theorem row6_open {fuel : Nat} {v0 v1 v2 v3 v4 v5 : Value} {y : DataW H × List MemPlace} (h : DataW.trod enc Try.prog w base (fun _ => true) held fuel 33 [v0, v1, v2, v3, v4, v5] = some y) : ∃ r : Rw, [v0, v1, v2, v3, v4, v5] = (cells6 r).toList ∧ RwI r := by
  obtain ⟨xs, k, hk, hxy, _, hxl, hf⟩ := DataW.trod_struct Try.underlying33 h
  match xs, hxl with
  | [y0, y1, y2, y3, y4, y5], _ =>
    have g0 := hf 0 _ rfl
    have g1 := hf 1 _ rfl
    have g2 := hf 2 _ rfl
    have g3 := hf 3 _ rfl
    have g4 := hf 4 _ rfl
    have g5 := hf 5 _ rfl
    simp [show Try.prog.cellsOf 2 = 1 by kernel_rfl] at g0 g1 g2 g3 g4 g5
    obtain ⟨z0, e0, _, w0⟩ := DataW.trod_int Try.underlying2 g0
    obtain ⟨z1, e1, _, w1⟩ := DataW.trod_int Try.underlying2 g1
    obtain ⟨z2, e2, _, w2⟩ := DataW.trod_int Try.underlying2 g2
    obtain ⟨z3, e3, _, w3⟩ := DataW.trod_int Try.underlying2 g3
    obtain ⟨z4, e4, _, w4⟩ := DataW.trod_int Try.underlying2 g4
    obtain ⟨z5, e5, _, w5⟩ := DataW.trod_int Try.underlying2 g5
    simp at e0 e1 e2 e3 e4 e5
    subst e0 e1 e2 e3 e4 e5
    exact ⟨⟨z0, z1, z2, z3, z4, z5⟩, rfl, ⟨in64_of w0, in64_of w1, in64_of w2, in64_of w3, in64_of w4, in64_of w5⟩⟩
set_option maxRecDepth 100000 in
theorem rows3_open (hv : Value.okWide Try.prog w .any b0 34 v) (h : DataW.Trod enc Try.prog w base (fun _ => true) held 34 v d p) : ∃ r s t : Rw, v = .agg (cells18 r s t) ∧ RwI r ∧ RwI s ∧ RwI t := by
  obtain ⟨cs, rfl, hsz⟩ := okWide_array Try.underlying34 hv
  have hsz : cs.size = 18 := hsz.trans (by kernel_rfl)
  obtain ⟨cl⟩ := cs
  simp only [List.size_toArray] at hsz
  match cl, hsz with
  | [v0, v1, v2, v3, v4, v5, v6, v7, v8, v9, v10, v11, v12, v13, v14, v15, v16, v17], _ =>
    obtain ⟨fuel, hf⟩ := h
    obtain ⟨xs, m, _, hx, _, hlen, hF⟩ := DataW.trod_array Try.underlying34 hf
    match xs, hlen with
    | [y0, y1, y2], _ =>
      have h0 : DataW.trod enc Try.prog w base (fun _ => true) held m 33 [v0, v1, v2, v3, v4, v5] = some y0 := by simpa [Value.cells, show Try.prog.cellsOf 33 = 6 by kernel_rfl] using hF 0 (by decide)
      have h1 : DataW.trod enc Try.prog w base (fun _ => true) held m 33 [v6, v7, v8, v9, v10, v11] = some y1 := by simpa [Value.cells, show Try.prog.cellsOf 33 = 6 by kernel_rfl] using hF 1 (by decide)
      have h2 : DataW.trod enc Try.prog w base (fun _ => true) held m 33 [v12, v13, v14, v15, v16, v17] = some y2 := by simpa [Value.cells, show Try.prog.cellsOf 33 = 6 by kernel_rfl] using hF 2 (by decide)
      obtain ⟨r, er, hr⟩ := row6_open h0
      obtain ⟨s, es, hs⟩ := row6_open h1
      obtain ⟨t, et, ht⟩ := row6_open h2
      simp at er es et
      obtain ⟨rfl, rfl, rfl, rfl, rfl, rfl⟩ := er
      obtain ⟨rfl, rfl, rfl, rfl, rfl, rfl⟩ := es
      obtain ⟨rfl, rfl, rfl, rfl, rfl, rfl⟩ := et
      exact ⟨r, s, t, rfl, hr, hs, ht⟩
end
end Go.Proofs.Ytkccladbcehdbaa
