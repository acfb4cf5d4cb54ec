/- Four reads of a drawn region, in any order. -/
import Derived.Test.YtpeoabopeihadaaULTx
set_option linter.unusedVariables false
set_option linter.unusedSimpArgs false
set_option linter.unusedSectionVars false
namespace Go.Proofs.Ytpeoabopeihadaa.Mn
open Go.RowKit
section
variable {P : Program} {md : Region.Mode} {ops : Array Oper} {Q : Exit → Act → World → Prop} {S : World → Prop} {w : World}
def cnt4 (a b c d : Bool) : Nat := (if a then 0 else 1) + ((if b then 0 else 1) + ((if c then 0 else 1) + (if d then 0 else 1)))
theorem grid4 (L : Bool → Bool → Bool → Bool → Array Bool) (A : Bool → Bool → Bool → Bool → Act) (i j k l : Nat)
    (hr : ∀ a b c d, (a && b && c && d) = false → Region.ready md ops (L a b c d) = (if a then [] else [i]) ++ ((if b then [] else [j]) ++ ((if c then [] else [k]) ++ (if d then [] else [l]))))
    (h1 : ∀ n b c d, wpAnyH P md ops Q S n (L true b c d) (A true b c d) w → wpOp P ops Q i (fun a' w' => S w' ∧ wpAnyH P md ops Q S (n + 1) ((L false b c d).setIfInBounds i true) a' w') (A false b c d) w)
    (h2 : ∀ n a c d, wpAnyH P md ops Q S n (L a true c d) (A a true c d) w → wpOp P ops Q j (fun a' w' => S w' ∧ wpAnyH P md ops Q S (n + 1) ((L a false c d).setIfInBounds j true) a' w') (A a false c d) w)
    (h3 : ∀ n a b d, wpAnyH P md ops Q S n (L a b true d) (A a b true d) w → wpOp P ops Q k (fun a' w' => S w' ∧ wpAnyH P md ops Q S (n + 1) ((L a b false d).setIfInBounds k true) a' w') (A a b false d) w)
    (h4 : ∀ n a b c, wpAnyH P md ops Q S n (L a b c true) (A a b c true) w → wpOp P ops Q l (fun a' w' => S w' ∧ wpAnyH P md ops Q S (n + 1) ((L a b c false).setIfInBounds l true) a' w') (A a b c false) w)
    {n m : Nat} (hm : m = n + 8) {listed : Array Bool} {act : Act} (hL : listed = L false false false false) (hA : act = A false false false false) (tail : wpAnyH P md ops Q S n (L true true true true) (A true true true true) w) : wpAnyH P md ops Q S m listed act w := by
  subst hL hA hm
  have step : ∀ a b c d, (a && b && c && d) = false → (a = false → wpAnyH P md ops Q S (n + 2 * cnt4 true b c d) (L true b c d) (A true b c d) w) → (b = false → wpAnyH P md ops Q S (n + 2 * cnt4 a true c d) (L a true c d) (A a true c d) w) → (c = false → wpAnyH P md ops Q S (n + 2 * cnt4 a b true d) (L a b true d) (A a b true d) w) → (d = false → wpAnyH P md ops Q S (n + 2 * cnt4 a b c true) (L a b c true) (A a b c true) w) → wpAnyH P md ops Q S (n + 2 * cnt4 a b c d) (L a b c d) (A a b c d) w := by
    intro a b c d hn g1 g2 g3 g4
    have hne : (if a then [] else [i]) ++ ((if b then [] else [j]) ++ ((if c then [] else [k]) ++ (if d then [] else [l]))) ≠ ([] : List Nat) := by
      cases a <;> cases b <;> cases c <;> cases d <;> simp_all
    obtain ⟨q, hq⟩ : ∃ q, n + 2 * cnt4 a b c d = q + 1 + 1 := by
      refine ⟨n + 2 * cnt4 a b c d - 2, ?_⟩
      cases a <;> cases b <;> cases c <;> cases d <;> simp [cnt4] at hn ⊢
    have e1 : a = false → n + 2 * cnt4 true b c d = q := fun h => by subst h; simp [cnt4] at hq ⊢; omega
    have e2 : b = false → n + 2 * cnt4 a true c d = q := fun h => by subst h; simp [cnt4] at hq ⊢; omega
    have e3 : c = false → n + 2 * cnt4 a b true d = q := fun h => by subst h; simp [cnt4] at hq ⊢; omega
    have e4 : d = false → n + 2 * cnt4 a b c true = q := fun h => by subst h; simp [cnt4] at hq ⊢; omega
    rw [hq]
    refine wpAnyH_all (hr a b c d hn) hne (fun x hx => ?_)
    rcases List.mem_append.1 hx with hx | hx
    · cases a with
      | true => cases hx
      | false =>
        obtain rfl : x = i := by simpa using hx
        exact h1 q b c d (e1 rfl ▸ g1 rfl)
    rcases List.mem_append.1 hx with hx | hx
    · cases b with
      | true => cases hx
      | false =>
        obtain rfl : x = j := by simpa using hx
        exact h2 q a c d (e2 rfl ▸ g2 rfl)
    rcases List.mem_append.1 hx with hx | hx
    · cases c with
      | true => cases hx
      | false =>
        obtain rfl : x = k := by simpa using hx
        exact h3 q a b d (e3 rfl ▸ g3 rfl)
    · cases d with
      | true => cases hx
      | false =>
        obtain rfl : x = l := by simpa using hx
        exact h4 q a b c (e4 rfl ▸ g4 rfl)
  have G1111 : wpAnyH P md ops Q S (n + 2 * cnt4 true true true true) (L true true true true) (A true true true true) w := tail
  have G1110 := step true true true false rfl (fun h => by cases h) (fun h => by cases h) (fun h => by cases h) (fun _ => G1111)
  have G1101 := step true true false true rfl (fun h => by cases h) (fun h => by cases h) (fun _ => G1111) (fun h => by cases h)
  have G1011 := step true false true true rfl (fun h => by cases h) (fun _ => G1111) (fun h => by cases h) (fun h => by cases h)
  have G0111 := step false true true true rfl (fun _ => G1111) (fun h => by cases h) (fun h => by cases h) (fun h => by cases h)
  have G1100 := step true true false false rfl (fun h => by cases h) (fun h => by cases h) (fun _ => G1110) (fun _ => G1101)
  have G1010 := step true false true false rfl (fun h => by cases h) (fun _ => G1110) (fun h => by cases h) (fun _ => G1011)
  have G1001 := step true false false true rfl (fun h => by cases h) (fun _ => G1101) (fun _ => G1011) (fun h => by cases h)
  have G0110 := step false true true false rfl (fun _ => G1110) (fun h => by cases h) (fun h => by cases h) (fun _ => G0111)
  have G0101 := step false true false true rfl (fun _ => G1101) (fun h => by cases h) (fun _ => G0111) (fun h => by cases h)
  have G0011 := step false false true true rfl (fun _ => G1011) (fun _ => G0111) (fun h => by cases h) (fun h => by cases h)
  have G1000 := step true false false false rfl (fun h => by cases h) (fun _ => G1100) (fun _ => G1010) (fun _ => G1001)
  have G0100 := step false true false false rfl (fun _ => G1100) (fun h => by cases h) (fun _ => G0110) (fun _ => G0101)
  have G0010 := step false false true false rfl (fun _ => G1010) (fun _ => G0110) (fun h => by cases h) (fun _ => G0011)
  have G0001 := step false false false true rfl (fun _ => G1001) (fun _ => G0101) (fun _ => G0011) (fun h => by cases h)
  have G0000 := step false false false false rfl (fun _ => G1000) (fun _ => G0100) (fun _ => G0010) (fun _ => G0001)
  exact G0000
def putIf (f : Bool) (s t : Nat) (v u : Value) (x : Act) : Act := if f then (x.put (some s) v).put (some t) u else x
def gridA (x : Act) (s1 t1 s2 t2 s3 t3 s4 t4 : Nat) (v1 u1 v2 u2 v3 u3 v4 u4 : Value) (a b c d : Bool) : Act := putIf d s4 t4 v4 u4 (putIf c s3 t3 v3 u3 (putIf b s2 t2 v2 u2 (putIf a s1 t1 v1 u1 x)))
theorem grid_step {i i' s t : Nat} {oi oi' : Oper} {v u : Value} {L0 L1 : Array Bool} {A0 A1 : Act} {n : Nat} (ho : ops[i]? = some oi) (hd : oi.dst = some s) (hw : Region.wanted oi (yielded ops A0.tmps) = true) (hrun : (execOp A0.eval oi).run P w = .ok (.value v) w) (hS : S w)
    (ho' : ops[i']? = some oi') (hd' : oi'.dst = some t) (hs : Region.noSelect ops = true) (hf : Region.free md ops (L0.setIfInBounds i true) i' = true) (hr : (Region.ready md ops (L0.setIfInBounds i true)).contains i' = true) (hQ : ∀ c a w, Q (.panic c) (a.put (some t) u) w → Q (.panic c) a w) (hy : YieldsIf P ops S oi' u (A0.put (some s) v))
    (eL : (L0.setIfInBounds i true).setIfInBounds i' true = L1) (eA : (A0.put (some s) v).put (some t) u = A1) (H : wpAnyH P md ops Q S n L1 A1 w) :
    wpOp P ops Q i (fun a' w' => S w' ∧ wpAnyH P md ops Q S (n + 1) (L0.setIfInBounds i true) a' w') A0 w := by
  refine YieldsIf.wpOp (S := fun W => W = w) (v := v) ho (Or.inl ⟨hw, fun W e => by rw [e]; exact hrun⟩) rfl ⟨hS, ?_⟩
  rw [hd]
  refine anyH_at t ho' hd' hs hf hr hQ hy hS ?_
  rw [eL, eA]
  exact H
end
end Go.Proofs.Ytpeoabopeihadaa.Mn
