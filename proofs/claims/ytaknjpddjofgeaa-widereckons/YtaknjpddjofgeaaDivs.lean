/- What the reference's div, Div and MulDiv answer, of whatever divisor and way. -/
import Derived.Test.YtaknjpddjofgeaaBits12
import Derived.Test.YtaknjpddjofgeaaBits12g
import Derived.Test.YtaknjpddjofgeaaRefNum
namespace Go.Proofs.Ytaknjpddjofgeaa
open Go.RowKit
set_option linter.unusedSimpArgs false
theorem sign_n {X b : Int} {l : Bool} (hX : X ≠ 0) (hb : b ≠ 0) (hl : l = decide (X < 0)) : (!(l == decide (b < 0))) = decide (nX X b < 0) := by
  rw [hl]
  unfold nX
  by_cases b0 : b < 0
  · rw [if_pos b0, decide_eq_true b0]
    by_cases x0 : X < 0
    · rw [decide_eq_true x0, decide_eq_false (show ¬ -X < 0 by omega)]; rfl
    · rw [decide_eq_false x0, decide_eq_true (show -X < 0 by omega)]; rfl
  · rw [if_neg b0, decide_eq_false b0]
    by_cases x0 : X < 0
    · rw [decide_eq_true x0]; rfl
    · rw [decide_eq_false x0]; rfl
theorem near_quot {X b : Int} {l : Bool} {V : Nat} (hb : b ≠ 0) (hV : V = X.natAbs) (hl : X ≠ 0 → l = decide (X < 0)) : Near l V b = quot 1 X b := by
  have hB : 0 < b.natAbs := by omega
  have r := ref_near (nX X b) b.natAbs hB (!(l == decide (b < 0))) (fun h => sign_n (fun c => h (by rw [c]; unfold nX; split <;> rfl)) hb (hl (fun c => h (by rw [c]; unfold nX; split <;> rfl))))
  rw [nX_abs, ← hV, ← nB_abs] at r
  unfold Near sgn quot
  rw [if_neg (show ¬ (1 : Int) = 0 by omega)]
  exact r
theorem floor_quot {X b : Int} {l s : Bool} {V : Nat} (hb : b ≠ 0) (hV : V = X.natAbs) (hl : X ≠ 0 → l = decide (X < 0)) (hs : s = !(l == decide (b < 0))) : Floor s V b.natAbs = quot 0 X b := by
  have hB : 0 < b.natAbs := by omega
  unfold quot
  rw [if_pos rfl, nB_abs]
  generalize hB2 : b.natAbs = B at *
  by_cases h0 : X = 0
  · have e : nX X b = 0 := by rw [h0]; unfold nX; split <;> rfl
    have v0 : V = 0 := by rw [hV, h0]; rfl
    rw [e, v0]
    unfold Floor sgn
    rw [Nat.zero_div, Nat.zero_mod, if_neg (show ¬ (s = true ∧ 0 < 0) by omega)]
    simp
  · have h1 := sign_n h0 hb (hl h0)
    rw [← hs] at h1
    have h2 := nX_abs X b
    rw [← hV] at h2
    unfold Floor sgn
    cases s
    · have e : nX X b = (V : Int) := by have := of_decide_eq_false h1.symm; omega
      rw [e, if_neg (by simp), if_neg (by simp), Nat.add_zero, (div_same V B).1]
    · have e : nX X b = -(V : Int) := by have := of_decide_eq_true h1.symm; omega
      rw [e, if_pos rfl]
      by_cases hm : V % B = 0
      · rw [(div_zero hB hm).1, if_neg (by omega), Nat.add_zero]
      · rw [(div_less hB hm).1, if_pos ⟨rfl, by omega⟩]; omega
/-- The reference's div answers. -/
def RDiv (l : Bool) (f : Nat → Nat) (b way n e : Int) : Prop := ∀ w : World, Calls Try.prog 40 #[.agg (gv l f), .int .i64 b, .int .i64 way] w fun z w' => z = .returned (.tuple #[.int .i64 n, .int .i64 e]) ∧ Below w.heap.size w w'
theorem rdiv_arg (l : Bool) (f : Nat → Nat) (b way : Int) (t0 : (way != 0) = true) (t1 : (way != 1) = true) : RDiv l f b way 0 2 := by
  intro w
  have B := hide ((Below.refl w.heap.size w).alloc (Nat.le_refl _) (.cells (gv l f) 60))
  go_enter Try.func40, Try.ntmps40
  go_wp2_with fail
  go_ret2
  exact ⟨rfl, unhide B⟩
theorem rdiv_by0 (l : Bool) (f : Nat → Nat) (way : Int) (h : way = 0 ∨ way = 1) : RDiv l f 0 way 0 4 := by
  intro w
  have B := hide ((Below.refl w.heap.size w).alloc (Nat.le_refl _) (.cells (gv l f) 60))
  rcases h with rfl | rfl
  · go_enter Try.func40, Try.ntmps40
    go_wp2_with fail
    go_ret2
    exact ⟨rfl, unhide B⟩
  · go_enter Try.func40, Try.ntmps40
    go_wp2_with fail
    go_ret2
    exact ⟨rfl, unhide B⟩
/-- The answer of a division: the number, and the error. -/
def aN (way X b : Int) : Int := if way = 0 ∨ way = 1 then (if b = 0 then 0 else okN (quot way X b)) else 0
def aE (way X b : Int) : Int := if way = 0 ∨ way = 1 then (if b = 0 then 4 else okE (quot way X b)) else 2
theorem rdiv_any {l : Bool} {f : Nat → Nat} {X b way : Int} (hf : Bit f) (hb : In64 b) (hV : val f 260 = X.natAbs) (hl : X ≠ 0 → l = decide (X < 0)) (hs : val f 260 + 1 < P2 260) : RDiv l f b way (aN way X b) (aE way X b) := by
  unfold aN aE
  by_cases hw : way = 0 ∨ way = 1
  · rw [if_pos hw, if_pos hw]
    by_cases h0 : b = 0
    · rw [if_pos h0, if_pos h0, h0]
      exact rdiv_by0 l f way hw
    · rw [if_neg h0, if_neg h0]
      rcases hw with rfl | rfl
      · intro w
        by_cases hq : l = decide (b < 0)
        · have h := rdiv_same l f hf b hb h0 hq hs w
          rwa [floor_quot (s := false) h0 hV hl (by rw [hq]; simp)] at h
        · have h := rdiv_diff l f hf b hb h0 hq hs w
          rwa [floor_quot (s := true) h0 hV hl (by rw [beq_eq_false_iff_ne.2 hq]; rfl)] at h
      · intro w
        have h := rdiv_near l f hf b hb h0 hs w
        rwa [near_quot h0 hV hl] at h
  · rw [if_neg hw, if_neg hw]
    exact rdiv_arg l f b way (bne_iff_ne.2 (fun c => hw (Or.inl c))) (bne_iff_ne.2 (fun c => hw (Or.inr c)))
theorem big_small {X : Int} (hX : In128 X) : X.natAbs + 1 < P2 260 := by
  have h1 := hX.lo
  have h2 := hX.hi
  have h3 := small_260
  omega
def RDivs (X b way n e : Int) : Prop := ∀ w : World, Calls Try.prog 21 #[.agg #[.int .i64 (hi X), .int .u64 (lo X)], .int .i64 b, .int .i64 way] w fun z w' => z = .returned (.tuple #[.int .i64 n, .int .i64 e]) ∧ Below w.heap.size w w'
theorem rDiv_any (X b way : Int) (hX : In128 X) (hb : In64 b) : RDivs X b way (aN way X b) (aE way X b) := by
  intro w
  have hB := hide (big_any X hX)
  have hd := hide (fun (l : Bool) (f : Nat → Nat) (h : Big X l f) => rdiv_any (l := l) (f := f) (X := X) (b := b) (way := way) h.1 hb h.2.2 (fun _ => h.2.1) (by rw [h.2.2]; exact big_small hX))
  have B := hide ((Below.refl w.heap.size w).alloc (Nat.le_refl _) (.cells #[.int .i64 (hi X), .int .u64 (lo X)] 28))
  generalize aN way X b = n at *
  generalize aE way X b = f at *
  generalize hi X = p at *
  generalize lo X = q at *
  go_enter Try.func21, Try.ntmps21
  go_wp2_with fail
  refine (unhide hB _).mono ?_
  rintro e w1 ⟨⟨l, g, hT, rfl⟩, hb1⟩
  have hd2 := hide (unhide hd l g hT)
  replace hb1 := hide (below_via (unhide B) hb1)
  clear hd hB hT B
  go_wp2_with fail
  refine (unhide hd2 _).mono ?_
  rintro e w2 ⟨rfl, hb2⟩
  replace hb2 := hide (below_via (unhide hb1) hb2)
  go_wp2_with fail
  go_ret2
  exact ⟨rfl, unhide hb2⟩
theorem sign_mul {a b : Int} (h : a * b ≠ 0) : (decide (a < 0) != decide (b < 0)) = decide (a * b < 0) := by
  have ha : a ≠ 0 := fun c => h (by rw [c, Int.zero_mul])
  have hb : b ≠ 0 := fun c => h (by rw [c, Int.mul_zero])
  by_cases a0 : a < 0
  · by_cases b0 : b < 0
    · have := Int.mul_pos_of_neg_of_neg a0 b0
      rw [decide_eq_true a0, decide_eq_true b0, decide_eq_false (by omega)]; rfl
    · have := Int.mul_neg_of_neg_of_pos a0 (show 0 < b by omega)
      rw [decide_eq_true a0, decide_eq_false b0, decide_eq_true this]; rfl
  · by_cases b0 : b < 0
    · have := Int.mul_neg_of_pos_of_neg (show 0 < a by omega) b0
      rw [decide_eq_false a0, decide_eq_true b0, decide_eq_true this]; rfl
    · have := Int.mul_pos (show 0 < a by omega) (show 0 < b by omega)
      rw [decide_eq_false a0, decide_eq_false b0, decide_eq_false (by omega)]; rfl
def RMuls (a b c way n e : Int) : Prop := ∀ w : World, Calls Try.prog 23 #[.int .i64 a, .int .i64 b, .int .i64 c, .int .i64 way] w fun z w' => z = .returned (.tuple #[.int .i64 n, .int .i64 e]) ∧ Below w.heap.size w w'
theorem rMul_any (a b c way : Int) (ha : In64 a) (hb : In64 b) (hc : In64 c) : RMuls a b c way (aN way (a * b) c) (aE way (a * b) c) := by
  intro w
  have ht := hide (times_any a b ha hb)
  have hd := hide (fun (l : Bool) (f : Nat → Nat) (h : Times a b l f) => rdiv_any (l := l) (f := f) (X := a * b) (b := c) (way := way) h.1 hc (by rw [h.2.2, Int.natAbs_mul]) (fun h0 => by rw [h.2.1]; exact sign_mul h0) (by rw [h.2.2, ← Int.natAbs_mul]; exact big_small (mul128 ha hb)))
  generalize aN way (a * b) c = n at *
  generalize aE way (a * b) c = k at *
  go_enter Try.func23, Try.ntmps23
  go_wp2_with fail
  refine (unhide ht _).mono ?_
  rintro e w1 ⟨⟨l, f, hT, rfl⟩, hb1⟩
  have hd2 := hide (unhide hd l f hT)
  replace hb1 := hide hb1
  clear hd ht hT
  go_wp2_with fail
  refine (unhide hd2 _).mono ?_
  rintro e w2 ⟨rfl, hb2⟩
  replace hb2 := hide (below_via (unhide hb1) hb2)
  go_wp2_with fail
  go_ret2
  exact ⟨rfl, unhide hb2⟩
end Go.Proofs.Ytaknjpddjofgeaa
