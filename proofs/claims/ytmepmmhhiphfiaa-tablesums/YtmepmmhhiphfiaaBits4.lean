/- Rows of 260 bits: plain facts of a long division. -/
import Derived.Test.YtmepmmhhiphfiaaBits3
namespace Go.Proofs.Ytmepmmhhiphfiaa
open Go.RowKit
theorem val_zb : ∀ n, val zb n = 0
  | 0 => rfl
  | n + 1 => by show val zb n + 0 * P2 n = 0; rw [val_zb n]; omega
theorem val_put {f : Nat → Nat} {k b : Nat} (h0 : f k = 0) : ∀ {n : Nat}, k < n → val (upd f k b) n = val f n + b * P2 k
  | 0, h => by omega
  | n + 1, h => by
    by_cases e : k = n
    · subst e
      rw [val_upd]
      show _ = val f k + f k * P2 k + b * P2 k
      rw [h0]
      omega
    · show val (upd f k b) n + upd f k b n * P2 n = val f n + f n * P2 n + b * P2 k
      rw [val_put h0 (n := n) (by omega), show upd f k b n = f n by unfold upd; rw [if_neg (fun h => e h.symm)]]
      omega
def Shifted (r r2 : Nat → Nat) (b : Nat) : Prop := r2 0 = b ∧ (∀ j, j < 259 → r2 (j + 1) = r j) ∧ Bit r2
theorem val_shift {r r2 : Nat → Nat} : ∀ {n : Nat}, (∀ j, j < n → r2 (j + 1) = r j) → val r2 (n + 1) = r2 0 + 2 * val r n
  | 0, _ => by show 0 + r2 0 * 1 = r2 0 + 2 * 0; omega
  | n + 1, h => by
    show val r2 (n + 1) + r2 (n + 1) * P2 (n + 1) = r2 0 + 2 * (val r n + r n * P2 n)
    rw [val_shift (n := n) (fun j hj => h j (by omega)), h n (by omega), P2_succ, Nat.mul_add, ← Nat.mul_assoc (r n), Nat.mul_comm (r n * P2 n) 2]
    omega
theorem big260 : 18446744073709551616 < P2 259 := by
  have h := P2_mono 65 194
  have e : P2 65 = 36893488147419103232 := by decide +kernel
  rw [e] at h
  exact Nat.lt_of_lt_of_le (by omega) h
theorem shift_val {r r2 : Nat → Nat} {b : Nat} (hr : Bit r) (h : Shifted r r2 b) (hs : val r 260 < 18446744073709551616) : val r2 260 = 2 * val r 260 + b := by
  have e := val_shift (n := 259) h.2.1
  have t : val r 260 = val r 259 + r 259 * P2 259 := rfl
  have h259 := hr 259
  have hb := big260
  generalize P2 259 = P at *
  have z : r 259 = 0 := by
    rcases Nat.lt_or_ge (r 259) 1 with a | a
    · omega
    · have : r 259 = 1 := by omega
      rw [this] at t
      omega
  rw [z] at t
  rw [e, h.1]
  omega
def QInv (f g q r : Nat → Nat) (k : Nat) : Prop := Bit q ∧ Bit r ∧ (∀ j, j < k → q j = 0) ∧ val r 260 < val g 260 ∧ ∃ Q, val q 260 = Q * P2 k ∧ val f 260 = (Q * val g 260 + val r 260) * P2 k + val f k
theorem zero_a (P : Nat) : val zb 260 = 0 * P := by rw [val_zb, Nat.zero_mul]
theorem zero_b (f g : Nat → Nat) (P : Nat) : val f 260 = (0 * val g 260 + val zb 260) * P + val f 260 := by rw [val_zb]; simp
theorem QInv.start (f : Nat → Nat) {g : Nat → Nat} (hg : 0 < val g 260) : QInv f g zb zb 260 :=
  ⟨fun _ => by simp [zb], fun _ => by simp [zb], fun _ _ => rfl, by rw [val_zb]; exact hg, 0, zero_a _, zero_b f g _⟩
theorem QInv.step {f g q r : Nat → Nat} {m : Nat} (h : QInv f g q r (m + 1)) {r2 : Nat → Nat} (hs : Shifted r r2 (f m)) (hV : val g 260 ≤ 18446744073709551616) :
    ∃ Q, val q 260 = Q * P2 m ∧ val f 260 = (Q * val g 260 + val r2 260) * P2 m + val f m := by
  obtain ⟨hq, hr, hz, hl, Q, e1, e2⟩ := h
  refine ⟨2 * Q, by rw [e1, P2_succ, Nat.mul_comm (P2 m) 2, ← Nat.mul_assoc, Nat.mul_comm Q 2], ?_⟩
  rw [shift_val hr hs (by omega), e2]
  show (Q * val g 260 + val r 260) * P2 (m + 1) + (val f m + f m * P2 m) = _
  rw [P2_succ, Nat.mul_comm (P2 m) 2, ← Nat.mul_assoc, show 2 * Q * val g 260 + (2 * val r 260 + f m) = (Q * val g 260 + val r 260) * 2 + f m by rw [Nat.mul_assoc, Nat.add_mul, Nat.mul_comm 2 (Q * val g 260), Nat.mul_comm 2 (val r 260)]; omega, Nat.add_mul ((Q * val g 260 + val r 260) * 2) (f m) (P2 m)]
  omega
theorem QInv.less {f g q r : Nat → Nat} {m : Nat} (h : QInv f g q r (m + 1)) {r2 : Nat → Nat} (hs : Shifted r r2 (f m)) (hV : val g 260 ≤ 18446744073709551616) (hl : val r2 260 < val g 260) : QInv f g q r2 m :=
  ⟨h.1, hs.2.2, fun j hj => h.2.2.1 j (by omega), hl, h.step hs hV⟩
theorem minus_val {f g h : Nat → Nat} (hm : Minus f g h) (hl : val g 260 ≤ val f 260) : val h 260 = val f 260 - val g 260 := by
  obtain ⟨hb, c, hc, e⟩ := hm
  have := val_lt hb 260
  generalize P2 260 = P at *
  rcases Nat.lt_or_ge c 1 with a | a
  · rw [show c = 0 by omega, Nat.zero_mul] at e
    omega
  · rw [show c = 1 by omega, Nat.one_mul] at e
    omega
theorem QInv.more {f g q r : Nat → Nat} {m : Nat} (hm : m < 260) (hf : Bit f) (h : QInv f g q r (m + 1)) {r2 k : Nat → Nat} (hs : Shifted r r2 (f m)) (hV : val g 260 ≤ 18446744073709551616) (hl : ¬ val r2 260 < val g 260) (hk : Minus r2 g k) : QInv f g (upd q m 1) k m := by
  have hv := minus_val hk (by omega)
  have h2 := shift_val h.2.1 hs (by have := h.2.2.2.1; omega)
  have hfm := hf m
  obtain ⟨Q, e1, e2⟩ := h.step hs hV
  refine ⟨bit_upd h.1 (by omega), hk.1, fun j hj => ?_, ?_, Q + 1, ?_, ?_⟩
  · unfold upd
    rw [if_neg (by omega)]
    exact h.2.2.1 j (by omega)
  · have := h.2.2.2.1
    omega
  · rw [val_put (h.2.2.1 m (by omega)) hm, e1, Nat.add_mul]
  · rw [e2, hv, Nat.add_mul Q 1, Nat.one_mul, show Q * val g 260 + val g 260 + (val r2 260 - val g 260) = Q * val g 260 + val r2 260 by omega]
theorem QInv.done {f g q r : Nat → Nat} (h : QInv f g q r 0) : val q 260 = val f 260 / val g 260 ∧ val r 260 = val f 260 % val g 260 := by
  obtain ⟨_, _, _, hl, Q, e1, e2⟩ := h
  rw [P2_zero, Nat.mul_one] at e1 e2
  have e3 : val f 260 = val r 260 + val g 260 * Q := by
    rw [e2, Nat.mul_comm Q]
    show _ + 0 = _
    omega
  constructor
  · rw [e1, e3, Nat.add_mul_div_left _ _ (by omega), Nat.div_eq_of_lt hl]
    omega
  · rw [e3, Nat.add_mul_mod_self_left, Nat.mod_eq_of_lt hl]
end Go.Proofs.Ytmepmmhhiphfiaa
