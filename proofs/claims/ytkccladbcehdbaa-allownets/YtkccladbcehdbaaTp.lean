/- Rows tie; all that came in went out (plain). -/
import Derived.Test.YtkccladbcehdbaaNp
namespace Go.Proofs.Ytkccladbcehdbaa
open Go.RowKit
set_option linter.unusedVariables false
set_option linter.unusedSimpArgs false
theorem rwS_i6 {r : Rw} (h : RwB r) : RwI6 r := ⟨fun k => by
  obtain ⟨⟨o1, o2⟩, ⟨i1, i2⟩, ⟨u1, u2⟩, ⟨n1, n2⟩, ⟨x1, x2⟩, hz⟩ := h
  match k with
  | 0 => exact ⟨by show _ ≤ r.o; omega, by show r.o ≤ _; omega⟩
  | 1 => exact ⟨by show _ ≤ r.i; omega, by show r.i ≤ _; omega⟩
  | 2 => exact ⟨by show _ ≤ r.u; omega, by show r.u ≤ _; omega⟩
  | 3 => exact ⟨by show _ ≤ r.n; omega, by show r.n ≤ _; omega⟩
  | 4 => exact ⟨by show _ ≤ r.x; omega, by show r.x ≤ _; omega⟩
  | k + 5 => exact ⟨by show _ ≤ r.z; omega, by show r.z ≤ _; omega⟩⟩
theorem rwS_tie {r : Rw} (h : RwB r) : tieB r.o r.i r.u r.n r.x r.z = true := by
  unfold tieB
  rw [h.fits, h.z]
  simp
/-- A row of at most 500 changes. -/
structure RwC (r : Rw) : Prop where
  o : 0 ≤ r.o ∧ r.o ≤ 1152921504606846976
  i : 0 ≤ r.i ∧ r.i ≤ 562949953421312000
  u : 0 ≤ r.u ∧ r.u ≤ 562949953421312000
  n : -562949953421312000 ≤ r.n ∧ r.n ≤ 562949953421312000
  x : 0 ≤ r.x ∧ r.x ≤ 562949953421312000
  z : r.z = r.o + r.i + r.n - r.u - r.x
theorem rwS_c {l : List Ch} (h : AllOk l) (hl : l.length ≤ 500) {o : Int} (ho : 0 ≤ o ∧ o ≤ 1152921504606846976) (s : Int) : RwC (rwS l s o) := by
  have b := rwS_bd h (by omega) ho s
  have g : ∀ k, putS l s k ≤ 562949953421312000 ∧ -562949953421312000 ≤ putS l s k := fun k => by
    have := putS_bd h s k
    omega
  exact ⟨b.o, ⟨b.i.1, (g 0).1⟩, ⟨b.u.1, (g 1).1⟩, ⟨(g 2).2, (g 2).1⟩, ⟨b.x.1, (g 3).1⟩, b.z⟩
theorem net_fine {r s t : Rw} (hr : RwC r) (hs : RwC s) (ht : RwC t) : okC3 r s t 6 = true ∧ tieB (netR r s t).o (netR r s t).i (netR r s t).u (netR r s t).n (netR r s t).x (netR r s t).z = true ∧ RwI6 (netR r s t) := by
  obtain ⟨⟨o1, o2⟩, ⟨i1, i2⟩, ⟨u1, u2⟩, ⟨n1, n2⟩, ⟨x1, x2⟩, hz⟩ := hr
  obtain ⟨⟨o1', o2'⟩, ⟨i1', i2'⟩, ⟨u1', u2'⟩, ⟨n1', n2'⟩, ⟨x1', x2'⟩, hz'⟩ := hs
  obtain ⟨⟨o1'', o2''⟩, ⟨i1'', i2''⟩, ⟨u1'', u2''⟩, ⟨n1'', n2''⟩, ⟨x1'', x2''⟩, hz''⟩ := ht
  have c0 : In64 (sumC r s t 0) := ⟨by show _ ≤ r.o + s.o + t.o; omega, by show r.o + s.o + t.o ≤ _; omega⟩
  have c1 : In64 (sumC r s t 1) := ⟨by show _ ≤ r.i + s.i + t.i; omega, by show r.i + s.i + t.i ≤ _; omega⟩
  have c2 : In64 (sumC r s t 2) := ⟨by show _ ≤ r.u + s.u + t.u; omega, by show r.u + s.u + t.u ≤ _; omega⟩
  have c3 : In64 (sumC r s t 3) := ⟨by show _ ≤ r.n + s.n + t.n; omega, by show r.n + s.n + t.n ≤ _; omega⟩
  have c4 : In64 (sumC r s t 4) := ⟨by show _ ≤ r.x + s.x + t.x; omega, by show r.x + s.x + t.x ≤ _; omega⟩
  have c5 : In64 (sumC r s t 5) := ⟨by show _ ≤ r.z + s.z + t.z; omega, by show r.z + s.z + t.z ≤ _; omega⟩
  refine ⟨?_, ?_, ⟨fun k => ?_⟩⟩
  · simp only [okC3, turn_in c0, turn_in c1, turn_in c2, turn_in c3, turn_in c4, turn_in c5, decide_true, Bool.and_true]
  · unfold tieB fits
    have e0 : (netR r s t).o = r.o + s.o + t.o := rfl
    have e1 : (netR r s t).i = r.i + s.i + t.i := rfl
    have e2 : (netR r s t).u = r.u + s.u + t.u := rfl
    have e3 : (netR r s t).n = r.n + s.n + t.n := rfl
    have e4 : (netR r s t).x = r.x + s.x + t.x := rfl
    have e5 : (netR r s t).z = r.z + s.z + t.z := rfl
    rw [e0, e1, e2, e3, e4, e5, turn_in ⟨by omega, by omega⟩, turn_in ⟨by omega, by omega⟩, turn_in ⟨by omega, by omega⟩, turn_in ⟨by omega, by omega⟩]
    simp
    omega
  · match k with
    | 0 => exact c0
    | 1 => exact c1
    | 2 => exact c2
    | 3 => exact c3
    | 4 => exact c4
    | k + 5 => exact c5
/-- All that came in went out. -/
theorem in_out_one {c : Ch} (h : OkC c) : putN c 1 0 + putN c 2 0 + putN c 3 0 = putN c 1 1 + putN c 2 1 + putN c 3 1 := by
  obtain ⟨⟨f1, f2⟩, ⟨t1, t2⟩, _⟩ := h
  unfold putN
  simp only [if_true, if_neg (show ¬ ((1 : Int) = 0) by decide)]
  by_cases he : c.fr = c.to
  · simp [he]
  · have hf : c.fr = 1 ∨ c.fr = 2 ∨ c.fr = 3 := by omega
    have ht : c.to = 1 ∨ c.to = 2 ∨ c.to = 3 := by omega
    rcases hf with hf | hf | hf <;> rcases ht with ht | ht | ht <;> simp [hf, ht] <;> (rw [hf, ht] at he; simp at he)
theorem in_out : ∀ {l : List Ch}, AllOk l → putS l 1 0 + putS l 2 0 + putS l 3 0 = putS l 1 1 + putS l 2 1 + putS l 3 1
  | [], _ => rfl
  | c :: r, h => by
    have h1 := in_out_one (h c List.mem_cons_self)
    have h2 := in_out (l := r) (fun x hx => h x (List.mem_cons_of_mem _ hx))
    simp only [putS]
    omega
theorem bne_self (x : Int) : (x != x) = false := by simp
end Go.Proofs.Ytkccladbcehdbaa
