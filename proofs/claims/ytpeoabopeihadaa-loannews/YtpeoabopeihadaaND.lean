/- The document's May of amounts to be solved. -/
import Derived.Test.YtpeoabopeihadaaNQK
import Derived.Test.YtpeoabopeihadaaNQJ
import Derived.Test.YtpeoabopeihadaaNL
import Derived.Test.YtpeoabopeihadaaNTri
import Derived.ProofKit
import Derived.OpenShut
import Derived.ShutString
import Derived.ChangeOld
import Derived.Test.YtpeoabopeihadaaNC
import Derived.Deep.QuietTactic
import Derived.BigQuiet
set_option linter.unusedVariables false
set_option linter.unusedSimpArgs false
set_option linter.unusedSectionVars false
set_option maxHeartbeats 4000000
namespace Go.Proofs.Ytpeoabopeihadaa.Mn
open Go.RowKit
attribute [local simp] Tri.typeInfo Tri.sizeOf Tri.underlying Tri.runUnderlying Tri.isAgg Tri.zeroValue Tri.depth Tri.stoodInHeld Tri.eqGuardType Tri.call15 Tri.call16 Tri.call26 Tri.call27 Tri.call28 Tri.call29 Tri.call30 Tri.call31 Tri.call46 Tri.call49 Tri.call50 Tri.call51 Tri.call52 Tri.call53 Tri.call54 Tri.call65 Tri.call66 Tri.call68 Tri.call69 Tri.call70 Tri.call71 Tri.call72 Tri.call73 Tri.call74 Tri.call75 Tri.call82 Tri.call84 Tri.call85 Tri.call86 Tri.call95 Tri.call101 Tri.call106 Tri.call107 Tri.call116 Tri.call117 Tri.call118 Tri.call119 Tri.call120 Tri.call122 Tri.call123 Tri.call124 Tri.call125 Tri.call126 Tri.call135 Tri.call137 Tri.call143 Tri.call144 Tri.call145 Tri.call146 Tri.call147 Tri.call149 Tri.call150 Tri.call151 Tri.call152 Tri.call156 Tri.call157 Tri.call159 Tri.call160 Tri.call161 Tri.call162 Tri.call163 Tri.call164 Tri.call165 Tri.call166 Tri.call167 Tri.call175 Tri.call176 Tri.call178 Tri.call179 Tri.call180 Tri.call181 Tri.call182 Tri.call183 Tri.call186 Tri.call187 Tri.call188 Tri.call205
def RMayA (w : World) (out : Int) (v : Value) (b : Bool) : Prop := Calls (Tri Try.prog) 50 #[.int .i64 out, v] w fun z w' => z = .returned (.bool b) ∧ w' = w
theorem rms_a (a : Option Addr) (len cap : Nat) (out : Int) (w : World) (h : len = 0) : RMayA w out (.slice a len cap) false := by
 unfold RMayA
 have d0 : ((len : Int) == 0) = true := by simp; omega
 go_enter (Tri.at (by decide) Try.func50), Try.ntmps50
 go_wp2_with fail
 go_ret
 exact ⟨rfl, rfl⟩
theorem rms_b (a : Option Addr) (len cap : Nat) (out : Int) (w : World) (h0 : 0 < len) (h : 600 < len) : RMayA w out (.slice a len cap) false := by
 unfold RMayA
 have d0 : ((len : Int) == 0) = false := by simp; omega
 have d1 : decide ((600 : Int) < (len : Int)) = true := decide_eq_true (by omega)
 go_enter (Tri.at (by decide) Try.func50), Try.ntmps50
 go_wp2_with fail
 go_ret
 exact ⟨rfl, rfl⟩
theorem rms_c (a : Option Addr) (len cap : Nat) (out : Int) (w : World) (h0 : 0 < len) (hl : len ≤ 600) (h : out < 1) : RMayA w out (.slice a len cap) false := by
 unfold RMayA
 have d0 : ((len : Int) == 0) = false := by simp; omega
 have d1 : decide ((600 : Int) < (len : Int)) = false := decide_eq_false (by omega)
 have d2 : decide (out < 1) = true := decide_eq_true h
 go_enter (Tri.at (by decide) Try.func50), Try.ntmps50
 go_wp2_with fail
 go_ret
 exact ⟨rfl, rfl⟩
theorem rms_d (a : Option Addr) (len cap : Nat) (out : Int) (w : World) (h0 : 0 < len) (hl : len ≤ 600) (h1 : 1 ≤ out) (h : 10000000000000 < out) : RMayA w out (.slice a len cap) false := by
 unfold RMayA
 have d0 : ((len : Int) == 0) = false := by simp; omega
 have d1 : decide ((600 : Int) < (len : Int)) = false := decide_eq_false (by omega)
 have d2 : decide (out < 1) = false := decide_eq_false (by omega)
 have d3 : decide (10000000000000 < out) = true := decide_eq_true h
 go_enter (Tri.at (by decide) Try.func50), Try.ntmps50
 go_wp2_with fail
 go_ret
 exact ⟨rfl, rfl⟩
theorem rms_row (b off cap : Nat) (l : List Int) (out : Int) (e : Bool) (w : World) (h : 1 ≤ out ∧ out ≤ 10000000000000) (hl : ¬ 600 < l.length) (h0 : 0 < l.length) (hc : ∀ j, j < l.length → w.cell? ⟨b, off + j, none⟩ = some (.int .i64 (l.getD j 0)))
  (he : (e = false ∧ ∃ j, j < l.length ∧ amtB (l.getD j 0) = false) ∨ ((∀ j, j < l.length → amtB (l.getD j 0) = true) ∧ (e = true ↔ ∃ j, j < l.length ∧ 0 < l.getD j 0))) : RMayA w out (.slice (some ⟨b, off, none⟩) l.length cap) e := by
 unfold RMayA
 have HC := hide hc
 have HE := hide he
 clear hc he
 generalize l.length = len at *
 have d0 : ((len : Int) == 0) = false := by simp; omega
 have d : decide (out < 1) = false := decide_eq_false (by omega)
 have d2 : decide (10000000000000 < out) = false := decide_eq_false (by omega)
 have d3 : decide ((600 : Int) < (len : Int)) = false := decide_eq_false (by omega)
 go_enter (Tri.at (by decide) Try.func50), Try.ntmps50
 go_wp2_with fail
 go_loop [5, 26] (fun c i => ∃ (k : Nat) (B : Bool), k ≤ len ∧ i = .int .i64 k ∧ c = .bool B ∧ Hid (∀ j, j < k → amtB (l.getD j 0) = true) ∧ Hid (B = true ↔ ∃ j, j < k ∧ 0 < l.getD j 0)) (fun c i => len - (intOf i).toNat)
 case atStart => exact ⟨0, false, Nat.zero_le _, rfl, rfl, hide (fun j hj => absurd hj (Nat.not_lt_zero j)), hide ⟨fun h => (by cases h), fun ⟨j, hj, _⟩ => absurd hj (Nat.not_lt_zero j)⟩⟩
 case round =>
  obtain ⟨k, B, hk, rfl, rfl, HA, HB⟩ := hrel
  by_cases hlt : k < len
  ·have ck := uh HC k hlt
   have HS : Hid (amtB (l.getD k 0) = true → ∀ j, j < k + 1 → amtB (l.getD j 0) = true) := hide (fun h j hj => by
    by_cases e : j = k
    ·rw [e]; exact h
    ·exact uh HA j (by omega))
   have HP : Hid (∀ C : Bool, (C = true ↔ B = true ∨ 0 < l.getD k 0) → (C = true ↔ ∃ j, j < k + 1 ∧ 0 < l.getD j 0)) := hide (fun C hC => by
    rw [hC, uh HB]
    constructor
    ·rintro (⟨j, h1, h2⟩ | h)
     ·exact ⟨j, by omega, h2⟩
     ·exact ⟨k, by omega, h⟩
    ·rintro ⟨j, h1, h2⟩
     by_cases e : j = k
     ·rw [e] at h2; exact .inr h2
     ·exact .inl ⟨j, by omega, h2⟩)
   have HN : Hid (amtB (l.getD k 0) = false → e = false) := hide (fun hz => by
    rcases uh HE with ⟨h, _⟩ | ⟨h, _⟩
    ·exact h
    ·have := h k hlt; rw [hz] at this; cases this)
   generalize l.getD k 0 = z at *
   by_cases z1 : z < 0
   ·have b1 : decide (z < 0) = true := decide_eq_true z1
    have he : e = false := uh HN (by simp [amtB]; omega)
    subst he
    go_wp2_with fail
    go_ret
    exact ⟨rfl, rfl⟩
   ·have b1 : decide (z < 0) = false := decide_eq_false z1
    by_cases z2 : 10000000000000 < z
    ·have b2 : decide (10000000000000 < z) = true := decide_eq_true z2
     have he : e = false := uh HN (by simp [amtB]; omega)
     subst he
     go_wp2_with fail
     go_ret
     exact ⟨rfl, rfl⟩
    ·have b2 : decide (10000000000000 < z) = false := decide_eq_false z2
     have HS2 := hide (uh HS (by simp [amtB]; omega))
     cases B with
     | true =>
      have HP2 := hide (uh HP true (by simp))
      clear HS HP HN HB HA
      go_wp2_with fail
      go_round
      case rel => exact ⟨k + 1, true, by omega, by go_num, rfl, HS2, HP2⟩
      case measure => simp [intOf]; omega
     | false =>
      by_cases z3 : 0 < z
      ·have b3 : decide (0 < z) = true := decide_eq_true z3
       have HP2 := hide (uh HP true (by simp [z3]))
       clear HS HP HN HB HA
       go_wp2_with fail
       go_round
       case rel => exact ⟨k + 1, true, by omega, by go_num, rfl, HS2, HP2⟩
       case measure => simp [intOf]; omega
      ·have b3 : decide (0 < z) = false := decide_eq_false z3
       have HP2 := hide (uh HP false (by simp [z3]))
       clear HS HP HN HB HA
       go_wp2_with fail
       go_round
       case rel => exact ⟨k + 1, false, by omega, by go_num, rfl, HS2, HP2⟩
       case measure => simp [intOf]; omega
  ·have hk2 : k = len := by omega
   subst hk2
   have he : e = B := by
    rcases uh HE with ⟨_, j, h1, h2⟩ | ⟨_, h⟩
    ·have := uh HA j h1; rw [h2] at this; cases this
    ·exact Bool.eq_iff_iff.2 (h.trans (uh HB).symm)
   subst he
   go_wp2_with fail
   go_ret
   exact ⟨rfl, rfl⟩
theorem rmaySo_any {w : World} {v : Value} {l : List Int} (out : Int) (h : Row w v l) : RMayA w out v (maySo out l) := by
 have hl := row_slice h
 by_cases h0 : l.length = 0
 ·obtain ⟨a, cap, rfl⟩ := hl
  have e : maySo out l = false := by
   have : l = [] := List.eq_nil_of_length_eq_zero h0
   rw [this]; exact maySo_nil
  rw [e]
  exact rms_a a _ cap out w h0
 by_cases h6 : 600 < l.length
 ·obtain ⟨a, cap, rfl⟩ := hl
  have e : maySo out l = false := by unfold maySo; rw [decide_eq_false (show ¬ l.length ≤ 600 by omega)]; simp
  rw [e]
  exact rms_b a _ cap out w (by omega) h6
 by_cases h1 : out < 1
 ·obtain ⟨a, cap, rfl⟩ := hl
  have e : maySo out l = false := by unfold maySo; rw [decide_eq_false (show ¬ 1 ≤ out by omega)]; simp
  rw [e]
  exact rms_c a _ cap out w (by omega) (by omega) h1
 by_cases h2 : 10000000000000 < out
 ·obtain ⟨a, cap, rfl⟩ := hl
  have e : maySo out l = false := by unfold maySo; rw [decide_eq_false (show ¬ out ≤ 10000000000000 by omega)]; simp
  rw [e]
  exact rms_d a _ cap out w (by omega) (by omega) (by omega) h2
 unfold maySo
 rw [decide_eq_true (show 1 ≤ out by omega), decide_eq_true (show out ≤ 10000000000000 by omega), decide_eq_true (show l.length ≤ 600 by omega)]
 simp only [Bool.true_and]
 rcases h with ⟨a, cap, rfl, rfl⟩ | ⟨b, off, cap, rfl, _, _, hc, _⟩
 ·exact absurd rfl h0
 ·refine rms_row b off cap l out _ w ⟨by omega, by omega⟩ (by omega) (by omega) hc ?_
  have mem : ∀ x, x ∈ l → ∃ j, j < l.length ∧ l.getD j 0 = x := fun x hx => by
   obtain ⟨j, hj, rfl⟩ := List.getElem_of_mem hx
   exact ⟨j, hj, by simp [List.getD, hj]⟩
  have mem2 : ∀ j, j < l.length → l.getD j 0 ∈ l := fun j hj => by
   rw [show l.getD j 0 = l[j] by simp [List.getD, hj]]
   exact List.getElem_mem hj
  cases ha : l.all amtB with
  | false =>
   obtain ⟨x, hx, hn⟩ := List.all_eq_false.1 ha
   obtain ⟨j, hj, e⟩ := mem x hx
   exact .inl ⟨rfl, j, hj, by rw [e]; simpa using hn⟩
  | true =>
   refine .inr ⟨fun j hj => List.all_eq_true.1 ha _ (mem2 j hj), ?_⟩
   rw [Bool.true_and, List.any_eq_true]
   constructor
   ·rintro ⟨x, hx, hp⟩
    obtain ⟨j, hj, e⟩ := mem x hx
    exact ⟨j, hj, by rw [e]; simpa using hp⟩
   ·rintro ⟨j, hj, hp⟩
    exact ⟨_, mem2 j hj, by simpa using hp⟩
def TimA (w : World) (v : Value) (l : List Int) (r b : Int) : Prop := Calls (Tri Try.prog) 135 #[v, .int .i64 r, .int .i64 b] w (fun e w' => WorPost w b l r e w')
theorem no_post {w : World} {b : Int} {l : List Int} {r e : Int} (h : valE b l r = e) (h0 : e ≠ 0) : WorPost w b l r (.returned (.tuple #[.slice none 0 0, .int .i64 e])) w := by
 refine ⟨_, by rw [h], ?_, Below.refl _ _⟩
 unfold valL
 rw [if_neg (by rw [h]; exact h0)]
 exact Or.inl ⟨_, _, rfl, rfl⟩
theorem tim_long {w : World} {v : Value} {l : List Int} {r b : Int} (hR : Row w v l) (h : 600 < l.length) : TimA w v l r b := by
 obtain ⟨a, c, rfl⟩ := row_slice hR
 have HP := hide (no_post (w := w) (b := b) (l := l) (r := r) (e := 10) (by unfold valE; rw [if_pos h]) (by decide))
 unfold TimA
 clear hR
 generalize l.length = len at *
 have d : decide ((600 : Int) < (len : Int)) = true := decide_eq_true (by omega)
 go_enter (Tri.at (by decide) Try.func135), Try.ntmps135
 go_wp2_with fail
 go_ret2
 exact uh HP
theorem ramount_yes {a : Int} (h : may a = true) (w : World) : Calls (Tri Try.prog) 149 #[.int .i64 a] w fun e w' => e = .returned (.bool true) ∧ w = w' := by
 have := Mn.rmay_any a w
 rwa [h] at this
theorem ramount_no {a : Int} (h : may a = false) (w : World) : Calls (Tri Try.prog) 149 #[.int .i64 a] w fun e w' => e = .returned (.bool false) ∧ w = w' := by
 have := Mn.rmay_any a w
 rwa [h] at this
theorem rrate_any (r : Int) (w : World) : Calls (Tri Try.prog) 53 #[.int .i64 r] w fun e w' => e = .returned (.bool (mayB r)) ∧ w = w' := _root_.Go.Proofs.Ytpeoabopeihadaa.rmay_any r w
theorem rrate_yes {r : Int} (h : mayB r = true) (w : World) : Calls (Tri Try.prog) 53 #[.int .i64 r] w fun e w' => e = .returned (.bool true) ∧ w = w' := by
 have := rrate_any r w
 rwa [h] at this
theorem rrate_no {r : Int} (h : mayB r = false) (w : World) : Calls (Tri Try.prog) 53 #[.int .i64 r] w fun e w' => e = .returned (.bool false) ∧ w = w' := by
 have := rrate_any r w
 rwa [h] at this
theorem radd_no {a b : Int} (ha : In64 a) (hb : In64 b) (h : ¬ In64 (a + b)) (w : World) : Calls (Tri Try.prog) 150 #[.int .i64 a, .int .i64 b] w fun e w' => e = .returned (.tuple #[.int .i64 0, .int .i64 3]) ∧ w = w' := by
 have := radd_any a b ha hb w
 have ht : ¬ turn (a + b) = 0 := fun c => h (in_of_turn c)
 rwa [okN_out ht, okE_out ht] at this
theorem radd_yes {a b : Int} (ha : In64 a) (hb : In64 b) (h : In64 (a + b)) (w : World) : Calls (Tri Try.prog) 150 #[.int .i64 a, .int .i64 b] w fun e w' => e = .returned (.tuple #[.int .i64 (a + b), .int .i64 0]) ∧ w = w' := by
 have := radd_any a b ha hb w
 rwa [okN_in (turn_in h), okE_in (turn_in h)] at this
theorem Own.drewN {w wr : World} {P len : Nat} {f : Nat → Int} (h : Own w wr P len f) (n : Nat) : Own w (wr.drewN n) P len f :=
 ⟨h.below.trans ⟨rfl, rfl, rfl, Nat.le_refl _, fun _ _ => rfl⟩, h.row⟩
theorem mem_at {l : List Int} {j : Nat} (hj : j < l.length) : l.getD j 0 ∈ l := by
 rw [show l.getD j 0 = l[j] by simp [List.getD, hj]]
 exact List.getElem_mem hj
theorem tim_amt {w : World} {a0 : Option Addr} {l0 c0 : Nat} {l : List Int} {r b : Int} (hR : Hid (Row w (.slice a0 l0 c0) l)) (h6 : ¬ 600 < l0) (hx : Hid (∃ x ∈ l, may x = false)) : TimA w (.slice a0 l0 c0) l r b := by
 have Hl := hide (row_len (uh hR))
 have HP := hide (no_post (w := w) (b := b) (l := l) (r := r) (e := 2) (by
  obtain ⟨x, h1, h2⟩ := uh hx
  unfold valE
  rw [if_neg (by rw [← uh Hl]; exact h6), if_pos]
  exact List.all_eq_false.2 ⟨x, h1, by simp [h2]⟩) (by decide))
 unfold TimA
 have d : decide ((600 : Int) < (l0 : Int)) = false := decide_eq_false (by omega)
 go_enter (Tri.at (by decide) Try.func135), Try.ntmps135
 go_wp2_with fail
 go_loop [20] (fun i => ∃ k : Nat, k ≤ l0 ∧ i = .int .i64 k ∧ Hid (∀ j, j < k → may (l.getD j 0) = true)) (fun i => l0 - (intOf i).toNat)
 case atStart => exact ⟨0, Nat.zero_le _, rfl, hide (fun j hj => absurd hj (Nat.not_lt_zero j))⟩
 case round =>
  obtain ⟨k, hk, rfl, HA⟩ := hrel
  by_cases hlt : k < l0
  ·obtain ⟨b1, off, cap, e⟩ := row_open' (uh hR) (by rw [← uh Hl]; omega)
   injection e with e1 e2 e3
   subst e1
   clear e2 e3
   have ck := row_cell (uh hR) (j := k) (by rw [← uh Hl]; exact hlt)
   have HX := hide (mem_at (l := l) (j := k) (by rw [← uh Hl]; exact hlt))
   have HS : Hid (may (l.getD k 0) = true → ∀ j, j < k + 1 → may (l.getD j 0) = true) := hide (fun h j hj => by
    by_cases e : j = k
    ·rw [e]; exact h
    ·exact uh HA j (by omega))
   generalize l.getD k 0 = z at *
   cases hz : may z with
   | true =>
    replace HS := hide (uh HS hz)
    have HM := hide (ramount_yes hz)
    clear hz
    go_wp2_with fail
    refine (uh HM _).mono ?_
    rintro e1 w1 ⟨rfl, rfl⟩
    go_wp2_with fail
    go_round
    case rel => exact ⟨k + 1, by omega, by go_num, HS⟩
    case measure => simp [intOf]; omega
   | false =>
    have HM := hide (ramount_no hz)
    clear hz HS
    go_wp2_with fail
    refine (uh HM _).mono ?_
    rintro e1 w1 ⟨rfl, rfl⟩
    go_wp2_with fail
    go_ret2
    exact uh HP
  ·exfalso
   obtain ⟨x, h1, h2⟩ := uh hx
   obtain ⟨j, hj, rfl⟩ := List.getElem_of_mem h1
   have := uh HA j (by have := uh Hl; omega)
   rw [show l.getD j 0 = l[j] by simp [List.getD, hj], h2] at this
   cases this
theorem tim_rate {w : World} {a0 : Option Addr} {l0 c0 : Nat} {l : List Int} {r b : Int} (hR : Hid (Row w (.slice a0 l0 c0) l)) (h6 : ¬ 600 < l0) (hx : Hid (l.all may = true)) (hr : mayB r = false) : TimA w (.slice a0 l0 c0) l r b := by
 have Hl := hide (row_len (uh hR))
 have HP := hide (no_post (w := w) (b := b) (l := l) (r := r) (e := 2) (by
  unfold valE
  rw [if_neg (by rw [← uh Hl]; exact h6), if_neg (by rw [uh hx]; decide), if_pos hr]) (by decide))
 unfold TimA
 have d : decide ((600 : Int) < (l0 : Int)) = false := decide_eq_false (by omega)
 have HR := hide (rrate_no hr)
 clear hr
 go_enter (Tri.at (by decide) Try.func135), Try.ntmps135
 go_wp2_with fail
 go_loop [20] (fun i => ∃ k : Nat, k ≤ l0 ∧ i = .int .i64 k ∧ Hid (∀ j, j < k → may (l.getD j 0) = true)) (fun i => l0 - (intOf i).toNat)
 case atStart => exact ⟨0, Nat.zero_le _, rfl, hide (fun j hj => absurd hj (Nat.not_lt_zero j))⟩
 case round =>
  obtain ⟨k, hk, rfl, HA⟩ := hrel
  by_cases hlt : k < l0
  ·obtain ⟨b1, off, cap, e⟩ := row_open' (uh hR) (by rw [← uh Hl]; omega)
   injection e with e1 e2 e3
   subst e1
   clear e2 e3
   have ck := row_cell (uh hR) (j := k) (by rw [← uh Hl]; exact hlt)
   have HX := hide (mem_at (l := l) (j := k) (by rw [← uh Hl]; exact hlt))
   have HS : Hid (may (l.getD k 0) = true → ∀ j, j < k + 1 → may (l.getD j 0) = true) := hide (fun h j hj => by
    by_cases e : j = k
    ·rw [e]; exact h
    ·exact uh HA j (by omega))
   generalize l.getD k 0 = z at *
   have hz : may z = true := List.all_eq_true.1 (uh hx) z (uh HX)
   ·skip
    replace HS := hide (uh HS hz)
    have HM := hide (ramount_yes hz)
    clear hz
    go_wp2_with fail
    refine (uh HM _).mono ?_
    rintro e1 w1 ⟨rfl, rfl⟩
    go_wp2_with fail
    go_round
    case rel => exact ⟨k + 1, by omega, by go_num, HS⟩
    case measure => simp [intOf]; omega
  ·have hk2 : k = l0 := by omega
   subst hk2
   go_wp2_with fail
   refine (uh HR _).mono ?_
   rintro e1 w1 ⟨rfl, rfl⟩
   go_wp2_with fail
   go_ret2
   exact uh HP
theorem tim_main {w : World} {a0 : Option Addr} {l0 c0 : Nat} {l : List Int} {r b : Int} (hR : Hid (Row w (.slice a0 l0 c0) l)) (h6 : ¬ 600 < l0) (hx : Hid (l.all may = true)) (hr : mayB r = true) (hb : b = 1 ∨ b = 1000) : TimA w (.slice a0 l0 c0) l r b := by
 have Hl := hide (row_len (uh hR))
 have hM : May r := by unfold mayB at hr; simpa [May] using hr
 have hck : chkE l r = 0 := by
  unfold chkE
  rw [if_neg (by rw [← uh Hl]; exact h6), if_neg (by rw [hr]; decide), if_neg (by rw [uh hx]; decide)]
 have HE := hide (fun (e : Ending) (w' : World) => wor_end (w := w) (W := w) (b := b) (e := e) (w' := w') hck (Below.refl _ _))
 obtain ⟨L, hL⟩ : ∃ L, l.map (· * b) = L := ⟨_, rfl⟩
 have hlen : L.length = l0 := by rw [← hL, List.length_map]; exact (uh Hl).symm
 have HG : Hid (∀ k, k < l0 → L.getD k 0 = l.getD k 0 * b ∧ In64 (l.getD k 0 * b)) := hide (fun k hk => by
  have hk' : k < l.length := by rw [← uh Hl]; exact hk
  have e1 : l.getD k 0 = l[k] := by simp [List.getD, hk']
  refine ⟨?_, all_bd (uh hx) hb _ (mem_at hk')⟩
  rw [← hL, e1]; simp [List.getD, hk'])
 rw [hL, ← uh Hl] at HE
 unfold FoldPost at HE
 have HW : Hid (∀ k, k < l0 → worth r (L.drop k) = qD (worth r (L.drop (k + 1)) + L.getD k 0) r) := hide (fun k hk => worth_drop (by omega))
 have HF : Hid (∀ k, k < l0 → fits r (L.drop k) = (fits r (L.drop (k + 1)) && fitB (worth r (L.drop (k + 1)) + L.getD k 0) (worth r (L.drop k)))) := hide (fun k hk => fits_step (by omega))
 have HN : Hid (∀ k, k < l0 → fitB (worth r (L.drop (k + 1)) + L.getD k 0) (worth r (L.drop k)) = false → fits r L = false) := hide (fun k hk => not_fits (by omega))
 have H0 : Hid (fits r (L.drop l0) = true) := hide (by rw [List.drop_eq_nil_of_le (by omega)]; rfl)
 have HY : Hid (fits r (L.drop 0) = fits r L) := hide rfl
 have HZ : Hid (∀ j, worthAt r L l0 j = 0) := hide (fun j => by rw [← hlen]; exact worthAt_end r L j)
 have hmk := make_next l0 (by omega)
 have HO := hide (made_own w (l0 + 1))
 unfold TimA
 have d : decide ((600 : Int) < (l0 : Int)) = false := decide_eq_false (by omega)
 have HR := hide (rrate_yes hr)
 clear hr hL hlen hb hck
 go_enter (Tri.at (by decide) Try.func135), Try.ntmps135
 go_wp2_with fail
 go_loop [20] (fun i => ∃ k : Nat, k ≤ l0 ∧ i = .int .i64 k ∧ Hid (∀ j, j < k → may (l.getD j 0) = true)) (fun i => l0 - (intOf i).toNat)
 case atStart => exact ⟨0, Nat.zero_le _, rfl, hide (fun j hj => absurd hj (Nat.not_lt_zero j))⟩
 case round =>
  obtain ⟨k, hk, rfl, HA⟩ := hrel
  by_cases hlt : k < l0
  ·obtain ⟨b1, off, cap, e⟩ := row_open' (uh hR) (by rw [← uh Hl]; omega)
   injection e with e1 e2 e3
   subst e1
   clear e2 e3
   have ck := row_cell (uh hR) (j := k) (by rw [← uh Hl]; exact hlt)
   have HX := hide (mem_at (l := l) (j := k) (by rw [← uh Hl]; exact hlt))
   have HS : Hid (may (l.getD k 0) = true → ∀ j, j < k + 1 → may (l.getD j 0) = true) := hide (fun h j hj => by
    by_cases e : j = k
    ·rw [e]; exact h
    ·exact uh HA j (by omega))
   generalize l.getD k 0 = z at *
   have hz : may z = true := List.all_eq_true.1 (uh hx) z (uh HX)
   ·skip
    replace HS := hide (uh HS hz)
    have HM := hide (ramount_yes hz)
    clear hz
    go_wp2_with fail
    refine (uh HM _).mono ?_
    rintro e1 w1 ⟨rfl, rfl⟩
    go_wp2_with fail
    go_round
    case rel => exact ⟨k + 1, by omega, by go_num, HS⟩
    case measure => simp [intOf]; omega
  ·have hk2 : k = l0 := by omega
   subst hk2
   go_wp2_with fail
   refine (uh HR _).mono ?_
   rintro e1 w1 ⟨rfl, rfl⟩
   go_wp2_with fail
   clear hmk HR HA
   generalize hWW : w.alloc (.cells (madeCells #[.int .i64 0] (k + 1)) 2) = W at *
   clear hWW
   go_loopw [11] (fun i wr => ∃ q : Nat, q ≤ k ∧ i = .int .i64 ((q : Int) - 1) ∧ Hid (fits r (L.drop q) = true) ∧ Hid (Own w wr w.heap.size (k + 1) (worthAt r L q))) (fun i _ => (intOf i + 1).toNat)
   case atStart => exact ⟨k, Nat.le_refl _, by go_num, H0, hide ((uh HO).as (fun j _ => (uh HZ j).symm))⟩
   case round =>
    clear HO
    obtain ⟨q, hq, rfl, HK, HO⟩ := hrel
    by_cases hlt2 : 0 < q
    ·obtain ⟨m, rfl⟩ : ∃ m, q = m + 1 := ⟨q - 1, by omega⟩
     rw [show (((m + 1 : Nat) : Int) - 1) = (m : Int) from by omega]
     obtain ⟨b1, off, cap, e⟩ := row_open' (uh hR) (by rw [← uh Hl]; omega)
     injection e with e1 e2 e3
     subst e1
     clear e2 e3
     have hw := (uh HO).below
     have cl := row_cell ((uh hR).below hw (Nat.le_refl _)) (j := m) (by rw [← uh Hl]; omega)
     have ca := (uh HO).row.cell (i := m + 1) (by omega)
     rw [worthAt_here] at ca
     obtain ⟨g1, g2⟩ := uh HG m (by omega)
     have t64 : In64 (worth r (L.drop (m + 1))) := by
      have := fits_in (uh HK)
      exact ⟨by omega, by omega⟩
     have hF := uh HF m (by omega)
     have hW := uh HW m (by omega)
     have hN := uh HN m (by omega)
     have HP := hide (worthAt_put r L m)
     rw [uh HK, Bool.true_and] at hF
     rw [g1] at hF hW hN
     rw [hW] at hF hN HP
     generalize worth r (L.drop (m + 1)) = t at *
     generalize l.getD m 0 = x at *
     have i1 : (0 : Int) ≤ (m : Int) := by omega
     have i2 : (m : Int) < (k : Int) := by omega
     have i3 : (0 : Int) ≤ (m : Int) + 1 := by omega
     have i4 : (m : Int) + 1 < (k : Int) + 1 := by omega
     have i6 : m < k := by omega
     have i7 : m + 1 < k + 1 := by omega
     have i8 : wrap64 (x * b) = x * b := wrap_in g2
     clear hw
     by_cases s1 : In64 (t + x * b)
     ·have HA1 := hide (radd_yes t64 g2 s1)
      by_cases s2 : In64 (qD (t + x * b) r)
      ·have HD := hide (in_ok (rdisc_ok s1 hM) s2)
       unfold Ans at HD
       by_cases s3 : 4611686018427387904 < qD (t + x * b) r
       ·have j1 := decide_eq_true s3
        have HN1 := hide (hN (by
         cases hB : fitB (t + x * b) (qD (t + x * b) r) with
         | false => rfl
         | true => have := (fitB_iff.1 hB).2.2; omega))
        clear hN hF hW t64 g2
        generalize t + x * b = s at *
        go_wp2_with fail
        go_quiet ((go_at_call 150; with_reducible exact Calls.quiet_eq (uh HA1 _)))
        replace HO := hide ((uh HO).drewN nq)
        generalize wr.drewN nq = wq at *
        clear cl ca HA1
        go_wp2_with fail
        refine (uh HD _).mono ?_
        rintro e1 w1 ⟨rfl, hb1⟩
        replace HO := hide ((uh HO).keep hb1)
        clear hb1 HD
        go_wp2_with fail
        go_ret2
        exact uh HE _ _ (Or.inr ⟨uh HN1, rfl, (uh HO).below⟩)
       ·have j1 := decide_eq_false s3
        by_cases s4 : qD (t + x * b) r < -4611686018427387904
        ·have j2 := decide_eq_true s4
         have HN1 := hide (hN (by
          cases hB : fitB (t + x * b) (qD (t + x * b) r) with
          | false => rfl
          | true => have := (fitB_iff.1 hB).2.1; omega))
         clear hN hF hW t64 g2
         generalize t + x * b = s at *
         go_wp2_with fail
         go_quiet ((go_at_call 150; with_reducible exact Calls.quiet_eq (uh HA1 _)))
         replace HO := hide ((uh HO).drewN nq)
         generalize wr.drewN nq = wq at *
         clear cl ca HA1
         go_wp2_with fail
         refine (uh HD _).mono ?_
         rintro e1 w1 ⟨rfl, hb1⟩
         replace HO := hide ((uh HO).keep hb1)
         clear hb1 HD
         go_wp2_with fail
         go_ret2
         exact uh HE _ _ (Or.inr ⟨uh HN1, rfl, (uh HO).below⟩)
        ·have j2 := decide_eq_false s4
         rw [fitB_iff.2 ⟨s1, by omega, by omega⟩] at hF
         have HF1 := hide hF
         clear hN hF hW t64 g2
         generalize t + x * b = s at *
         go_wp2_with fail
         go_quiet ((go_at_call 150; with_reducible exact Calls.quiet_eq (uh HA1 _)))
         replace HO := hide ((uh HO).drewN nq)
         generalize wr.drewN nq = wq at *
         clear cl ca HA1
         go_wp2_with fail
         refine (uh HD _).mono ?_
         rintro e1 w1 ⟨rfl, hb1⟩
         replace HO := hide ((uh HO).keep hb1)
         clear hb1 HD
         have cm := (uh HO).row.cell (i := m) (by omega)
         have fm := (uh HO).row.frozen m
         generalize qD s r = q at *
         go_wp2_with fail
         go_roundw
         case rel => exact ⟨m, by omega, by go_num, HF1, hide ((uh HO).put m q (uh HP))⟩
         case measure => simp [intOf]
      ·have hd := rdisc_ok s1 hM
       have s3 : ¬ turn (qD (t + x * b) r) = 0 := fun c => s2 (in_of_turn c)
       rw [okN_out s3, okE_out s3] at hd
       have HD := hide hd
       have HN1 := hide (hN (by
        cases hB : fitB (t + x * b) (qD (t + x * b) r) with
        | false => rfl
        | true => have := (fitB_iff.1 hB).2; exact absurd ⟨by omega, by omega⟩ s2))
       unfold Ans at HD
       clear hd
       clear hN hF hW t64 g2
       generalize t + x * b = s at *
       go_wp2_with fail
       go_quiet ((go_at_call 150; with_reducible exact Calls.quiet_eq (uh HA1 _)))
       replace HO := hide ((uh HO).drewN nq)
       generalize wr.drewN nq = wq at *
       clear cl ca HA1
       go_wp2_with fail
       refine (uh HD _).mono ?_
       rintro e1 w1 ⟨rfl, hb1⟩
       replace HO := hide ((uh HO).keep hb1)
       clear hb1 HD
       go_wp2_with fail
       go_ret2
       exact uh HE _ _ (Or.inr ⟨uh HN1, rfl, (uh HO).below⟩)
     ·have HA1 := hide (radd_no t64 g2 s1)
      have HN1 := hide (hN (by
       cases hB : fitB (t + x * b) (qD (t + x * b) r) with
       | false => rfl
       | true => exact absurd (fitB_iff.1 hB).1 s1))
      clear hN hF hW t64 g2
      generalize t + x * b = s at *
      go_wp2_with fail
      go_quiet ((go_at_call 150; with_reducible exact Calls.quiet_eq (uh HA1 _)))
      replace HO := hide ((uh HO).drewN nq)
      generalize wr.drewN nq = wq at *
      clear cl ca HA1
      go_wp2_with fail
      go_ret2
      exact uh HE _ _ (Or.inr ⟨uh HN1, rfl, (uh HO).below⟩)
    ·have e0 : q = 0 := by omega
     subst e0
     have HF1 : Hid (fits r L = true) := hide ((uh HY).symm.trans (uh HK))
     clear HK
     go_wp2_with fail
     go_ret2
     exact uh HE _ _ (Or.inl ⟨uh HF1, rfl, uh HO⟩)
theorem tim_any {w : World} {v : Value} {l : List Int} {r b : Int} (hb : b = 1 ∨ b = 1000) (hR : Row w v l) : TimA w v l r b := by
 by_cases h6 : 600 < l.length
 ·exact tim_long hR h6
 ·obtain ⟨a, c, rfl⟩ := row_slice hR
  cases ha : l.all may with
  | false =>
   obtain ⟨x, hx, hn⟩ := List.all_eq_false.1 ha
   exact tim_amt (hide hR) h6 (hide ⟨x, hx, by simpa using hn⟩)
  | true =>
   cases hr : mayB r with
   | false => exact tim_rate (hide hR) h6 (hide ha) hr
   | true => exact tim_main (hide hR) h6 (hide ha) hr hb
theorem rfine_any {w : World} {v : Value} {l : List Int} (r : Int) (hR : Row w v l) : NowA 107 w #[v, .int .i64 r] (valN 1000 l r) (valE 1000 l r) := by
 have HW : Hid (Calls (Tri Try.prog) 135 _ w (fun e w' => WorPost w 1000 l r e w')) := hide (tim_any (r := r) (Or.inr rfl : (1000 : Int) = 1 ∨ (1000 : Int) = 1000) hR)
 unfold NowA
 unfold WorPost at HW
 by_cases h : valE 1000 l r = 0
 ·obtain ⟨R, hR⟩ := valL_head h
  rw [hR, h] at HW
  rw [h]
  clear hR h
  generalize valN 1000 l r = n at *
  go_enter (Tri.at (by decide) Try.func107), Try.ntmps107
  go_wp2_with fail
  refine (uh HW).mono ?_
  rintro e w1 ⟨u, rfl, hu, hb⟩
  rcases hu with ⟨a, cap, rfl, h0⟩ | ⟨g, off, cap, rfl, _, _, hc, _⟩
  ·cases h0
  ·have c0 := hc 0 (by simp)
   rw [Nat.add_zero] at c0
   simp only [List.getD_cons_zero] at c0
   have HB := hide hb
   clear hc hb HW
   have i1 : (0 : Int) < ((n :: R).length : Int) := by simp only [List.length_cons]; omega
   generalize (n :: R).length = len at *
   have i2 : 0 < len := by omega
   go_wp2_with fail
   go_ret2
   exact ⟨rfl, uh HB⟩
 ·have h0 : valN 1000 l r = 0 := by unfold valN; rw [if_neg h]
  rw [h0]
  have hE : (valE 1000 l r != 0) = true := by simpa using h
  clear h h0
  generalize valE 1000 l r = E at *
  go_enter (Tri.at (by decide) Try.func107), Try.ntmps107
  go_wp2_with fail
  refine (uh HW).mono ?_
  rintro e w1 ⟨u, rfl, hu, hb⟩
  have HB := hide hb
  clear hu hb
  go_wp2_with fail
  go_ret2
  exact ⟨rfl, uh HB⟩
theorem rcov_any {w : World} {v : Value} {l : List Int} {out : Int} (r : Int) (ho : 1 ≤ out ∧ out ≤ 10000000000000) (hR : Row w v l) : CovA 51 w #[.int .i64 out, v, .int .i64 r] (covB out l r) := by
 have H := hide (rfine_any r hR)
 unfold CovA covB
 unfold NowA at H
 generalize valN 1000 l r = n at *
 generalize valE 1000 l r = E at *
 have i1 : In64 (1000 * out) := ⟨by omega, by omega⟩
 obtain ⟨j1, j2⟩ := i1
 by_cases h3 : E = 3
 ·subst h3
  go_enter (Tri.at (by decide) Try.func51), Try.ntmps51
  go_wp2_with fail
  refine (uh H).mono ?_
  rintro e w1 ⟨rfl, hb⟩
  go_wp2_with fail
  go_ret
  exact ⟨rfl, hb⟩
 ·have b3 : (E == 3) = false := by simpa using h3
  by_cases h0 : E = 0
  ·subst h0
   by_cases hc : 1000 * out ≤ n
   ·have bc : decide (1000 * out ≤ n) = true := by simpa using hc
    rw [bc]
    go_enter (Tri.at (by decide) Try.func51), Try.ntmps51
    go_wp2_with fail
    refine (uh H).mono ?_
    rintro e w1 ⟨rfl, hb⟩
    go_wp2_with fail
    go_ret
    exact ⟨rfl, hb⟩
   ·have bc : decide (1000 * out ≤ n) = false := by simpa using hc
    rw [bc]
    go_enter (Tri.at (by decide) Try.func51), Try.ntmps51
    go_wp2_with fail
    refine (uh H).mono ?_
    rintro e w1 ⟨rfl, hb⟩
    go_wp2_with fail
    go_ret
    exact ⟨rfl, hb⟩
  ·have b0 : (E == 0) = false := by simpa using h0
   have d3 : decide (E = 3) = false := by simpa using h3
   have d0 : decide (E = 0) = false := by simpa using h0
   rw [d3, d0]
   go_enter (Tri.at (by decide) Try.func51), Try.ntmps51
   go_wp2_with fail
   refine (uh H).mono ?_
   rintro e w1 ⟨rfl, hb⟩
   go_wp2_with fail
   go_ret
   exact ⟨rfl, hb⟩
def RSolA (w : World) (out : Int) (v : Value) (l : List Int) : Prop := Calls (Tri Try.prog) 16 #[.int .i64 out, v] w fun z w' => ∃ r e, Eir out l r e ∧ z = .returned (.tuple #[.int .i64 r, .int .i64 e]) ∧ Below w.heap.size w w'
theorem rs_no {w : World} {v : Value} {l : List Int} {out : Int} (hR : Row w v l) (h : maySo out l = false) : RSolA w out v l := by
 unfold RSolA
 have HM := hide (rmaySo_any out hR)
 unfold RMayA at HM
 rw [h] at HM
 have HE : Hid (Eir out l 0 2) := hide (.inl ⟨h, rfl, rfl⟩)
 clear hR h
 go_enter (Tri.at (by decide) Try.func16), Try.ntmps16
 go_wp2_with fail
 refine (uh HM).mono ?_
 rintro z w1 ⟨rfl, rfl⟩
 go_wp2_with fail
 go_ret2
 exact ⟨0, 2, uh HE, rfl, Below.refl _ _⟩
theorem rs_go {w : World} {v : Value} {l : List Int} {out : Int} (hR : Row w v l) (h : maySo out l = true) (ho : 1 ≤ out ∧ out ≤ 10000000000000) : RSolA w out v l := by
 unfold RSolA
 have HM := hide (rmaySo_any out hR)
 unfold RMayA at HM
 rw [h] at HM
 have HC : Hid (∀ W r, Below w.heap.size w W → CovA 51 W #[.int .i64 out, v, .int .i64 r] (covB out l r)) := hide (fun W r hb => rcov_any r ho (hR.below hb (Nat.le_refl _)))
 unfold CovA at HC
 have HMs := hide h
 clear hR h ho
 by_cases c1 : covB out l (-990000000000) = true
 case neg =>
  have c1 := Bool.eq_false_iff.2 c1
  have HE : Hid (Eir out l 0 13) := hide (.inr ⟨uh HMs, .inl ⟨.inl (by rw [← covB_cov (maySo_yes (uh HMs)) ⟨by omega, by omega⟩]; exact c1), rfl, rfl⟩⟩)
  go_enter (Tri.at (by decide) Try.func16), Try.ntmps16
  go_wp2_with fail
  refine (uh HM).mono ?_
  rintro z w1 ⟨rfl, rfl⟩
  have HC1 := hide (uh HC _ (-990000000000) (Below.refl _ _))
  rw [c1] at HC1
  go_wp2_with fail
  refine (uh HC1).mono ?_
  rintro z w2 ⟨rfl, hb⟩
  have HB := hide hb
  clear hb
  go_wp2_with fail
  go_ret2
  exact ⟨0, 13, uh HE, rfl, uh HB⟩
 by_cases c2 : covB out l 10000000000000 = true
 ·have HE : Hid (Eir out l 0 13) := hide (.inr ⟨uh HMs, .inl ⟨.inr (by rw [← covB_cov (maySo_yes (uh HMs)) ⟨by omega, by omega⟩]; exact c2), rfl, rfl⟩⟩)
  go_enter (Tri.at (by decide) Try.func16), Try.ntmps16
  go_wp2_with fail
  refine (uh HM).mono ?_
  rintro z w1 ⟨rfl, rfl⟩
  have HC1 := hide (uh HC _ (-990000000000) (Below.refl _ _))
  rw [c1] at HC1
  go_wp2_with fail
  refine (uh HC1).mono ?_
  rintro z w2 ⟨rfl, hb⟩
  have HB := hide hb
  have HC2 := hide (uh HC _ 10000000000000 hb)
  rw [c2] at HC2
  clear hb HC1
  go_wp2_with fail
  refine (uh HC2).mono ?_
  rintro z w3 ⟨rfl, hb⟩
  replace HB := hide (below_via (uh HB) hb)
  clear hb
  go_wp2_with fail
  go_ret2
  exact ⟨0, 13, uh HE, rfl, uh HB⟩
 replace c2 := Bool.eq_false_iff.2 c2
 have HCa := hide c1
 have HCb := hide c2
 go_enter (Tri.at (by decide) Try.func16), Try.ntmps16
 go_wp2_with fail
 refine (uh HM).mono ?_
 rintro z w1 ⟨rfl, rfl⟩
 have HC1 := hide (uh HC _ (-990000000000) (Below.refl _ _))
 rw [c1] at HC1
 go_wp2_with fail
 refine (uh HC1).mono ?_
 rintro z w2 ⟨rfl, hb⟩
 have HB := hide hb
 have HC2 := hide (uh HC _ 10000000000000 hb)
 rw [c2] at HC2
 clear hb HC1 c1 c2
 go_wp2_with fail
 refine (uh HC2).mono ?_
 rintro z w3 ⟨rfl, hb⟩
 replace HB := hide (below_via (uh HB) hb)
 clear hb HC2
 go_wp2_with fail
 go_loopw [6, 7] (fun x y wr => ∃ lo hi : Int, (-990000000000 ≤ lo ∧ lo < hi ∧ hi ≤ 10000000000000) ∧ x = .int .i64 lo ∧ y = .int .i64 hi ∧ Hid (covB out l lo = true) ∧ Hid (covB out l hi = false) ∧ Hid (Below w1.heap.size w1 wr)) (fun x y _ => (intOf y - intOf x).toNat)
 case atStart => exact ⟨-990000000000, 10000000000000, ⟨by omega, by omega, by omega⟩, rfl, rfl, HCa, HCb, HB⟩
 case round =>
  clear HB HCa HCb
  obtain ⟨lo, hi, hlh, rfl, rfl, HCa, HCb, HB⟩ := hrel
  by_cases hg : 1 < hi - lo
  ·have d1 : decide (1 < hi - lo) = true := decide_eq_true hg
   have q1 : (hi - lo).tdiv 2 = (hi - lo) / 2 := Int.tdiv_eq_ediv_of_nonneg (by omega)
   have q2 : lo < lo + (hi - lo) / 2 ∧ lo + (hi - lo) / 2 < hi := by omega
   have HCm := hide (uh HC wr (lo + (hi - lo) / 2) (uh HB))
   go_wp2_with fail
   refine (uh HCm).mono ?_
   rintro z w4 ⟨rfl, hb⟩
   replace HB := hide (below_via (uh HB) hb)
   clear hb HCm
   generalize hm : lo + (hi - lo) / 2 = m at *
   clear hm
   by_cases cm : covB out l m = true
   ·have HCm := hide cm
    rw [cm]
    clear cm
    go_wp2_with fail
    go_roundw
    case rel => exact ⟨m, hi, by omega, rfl, rfl, HCm, HCb, HB⟩
    case measure => simp [intOf]; omega
   ·replace cm := Bool.eq_false_iff.2 cm
    have HCm := hide cm
    rw [cm]
    clear cm
    go_wp2_with fail
    go_roundw
    case rel => exact ⟨lo, m, by omega, rfl, rfl, HCa, HCm, HB⟩
    case measure => simp [intOf]; omega
  ·have d1 : decide (1 < hi - lo) = false := decide_eq_false hg
   have e1 : hi = lo + 1 := by omega
   have HE : Hid (Eir out l lo 0) := hide (eir_found (z := lo) (uh HMs) (by omega) (by omega) (.inr (uh HCa)) (.inr (by rw [← e1]; exact uh HCb)) (.inr (.inr ⟨by omega, by omega, rfl, rfl⟩)))
   clear e1
   go_wp2_with fail
   go_ret2
   exact ⟨lo, 0, uh HE, rfl, uh HB⟩
theorem rsolve_any {w : World} {v : Value} {l : List Int} {out : Int} (hR : Row w v l) : RSolA w out v l := by
 cases h : maySo out l with
 | false => exact rs_no hR h
 | true => exact rs_go hR h ⟨(maySo_yes h).lo, (maySo_yes h).hi⟩
theorem row56n : isRowB (Tri Try.prog) 56 = true := by kernel_rfl
theorem size56n : ((Tri Try.prog).info? 56).map (·.size) = some 13 := by kernel_rfl
theorem rcopy_any {L : Ln} {a : Option Addr} {n c : Nat} {l : List Int} {w : World} (hR : Row w (.slice a n c) l) (hS : Sl a n c) (hl : l.length ≤ 17592186044000) : Calls (Tri Try.prog) 71 #[.agg (lnA L (.slice a n c))] w fun z w' => ∃ a' c', z = .returned (.agg (lnA L (.slice a' l.length c'))) ∧ Row w' (.slice a' l.length c') l ∧ (∀ x, a' = some x → w.heap.size ≤ x.block) ∧ Below w.heap.size w w' := by
 have HX := hide ((Blk.new w (lnA L (.slice a n c)) 56).alloc (.cells lnZ 56))
 have HZ : Hid (Blk ((w.alloc (.cells (lnA L (.slice a n c)) 56)).alloc (.cells lnZ 56)) (w.heap.size + 1) lnZ 56) := hide (by have := Blk.new (w.alloc (.cells (lnA L (.slice a n c)) 56)) lnZ 56; simpa using this)
 have HG := hide (Grow.empty ((w.alloc (.cells (lnA L (.slice a n c)) 56)).alloc (.cells lnZ 56)) ((w.alloc (.cells (lnA L (.slice a n c)) 56)).alloc (.cells lnZ 56)) (Below.refl _ _))
 have HF := hide (from_row (((hR.alloc (.cells (lnA L (.slice a n c)) 56)).alloc (.cells lnZ 56)).alloc (.cells #[] 2)) hS.2)
 have HB := hide (below_via (below1L w (.cells (lnA L (.slice a n c)) 56)) (below1L (w.alloc (.cells (lnA L (.slice a n c)) 56)) (.cells lnZ 56)))
 have HI := hide (row_in hR)
 have HL := hide hl
 have hsz : Hid (((w.alloc (.cells (lnA L (.slice a n c)) 56)).alloc (.cells lnZ 56)).heap.size = w.heap.size + 1 + 1) := hide (by simp)
 clear hR hS hl
 generalize hw2 : ((w.alloc (.cells (lnA L (.slice a n c)) 56)).alloc (.cells lnZ 56)) = w2 at *
 have c12 := ((show Blk _ _ _ _ from uh HX).alloc (.cells #[] 2)).at 12 (.slice a n c) rfl
 go_enter (Tri.at (by decide) Try.func71), Try.ntmps71
 go_wp2_with (refine list_from rfl (.tmp 3) (.tmp 5) rfl _ _ _ _ [] l (uh HG) (uh HF) rfl rfl (by have := uh HL; simp; omega) (uh HI) ?_)
 intro v W hG
 clear hw2 c12
 obtain ⟨a', c', rfl, h1, h2, h3⟩ := grow_sl hG (by have := uh HL; simp; omega)
 have hfar : Hid (∀ x, a' = some x → w.heap.size + 1 + 1 ≤ x.block) := hide (fun x hx => by have := h3 x hx; have := uh hsz; omega)
 replace HX := hide ((show Blk _ _ _ _ from uh HX).keep hG.below)
 replace HZ := hide ((show Blk _ _ _ _ from uh HZ).keep hG.below)
 replace HB := hide (below_via (uh HB) hG.below)
 have HR : Hid (Row W (.slice a' l.length c') l) := hide h1
 clear hG h1 h2 h3 HG HF HI
 have c12 := (show Blk _ _ _ _ from uh HX).at 12 (.slice a n c) rfl
 have f12 := (show Blk _ _ _ _ from uh HX).fz 12
 have HP := hide (past_setCells [.slice a' l.length c'] 12 W (b := w.heap.size))
 have HX2 : Hid (Blk (W.setCell ⟨w.heap.size, 12, none⟩ (.slice a' l.length c')) w.heap.size (lnA L (.slice a' l.length c')) 56) := hide ((show Blk _ _ _ _ from uh HX).set 12 (.slice a' l.length c'))
 have HZ2 : Hid (Blk (W.setCell ⟨w.heap.size, 12, none⟩ (.slice a' l.length c')) (w.heap.size + 1) lnZ 56) := hide ((uh HP).blk (show w.heap.size + 1 ≠ w.heap.size by omega) (show Blk _ _ _ _ from uh HZ))
 have HB2 : Hid (Below w.heap.size w (W.setCell ⟨w.heap.size, 12, none⟩ (.slice a' l.length c'))) := hide ((uh HP).bel (Nat.le_refl _) (uh HB))
 have HR2 : Hid (Row (W.setCell ⟨w.heap.size, 12, none⟩ (.slice a' l.length c')) (.slice a' l.length c') l) := hide ((uh HP).row (fun x hx => by have := uh hfar x hx; omega) (uh HR))
 clear HX HZ HB HR HP
 generalize hn3 : l.length = n3 at *
 replace hn3 := hide hn3
 go_wp2_with (first | refine load_blk rfl 56 _ rfl (show Blk _ _ _ _ from uh HX2) rfl row56n size56n rfl ?_ | refine store_blk rfl 56 _ _ rfl (show Blk _ _ _ _ from uh HZ2) rfl rfl size56n rfl rfl rfl ?_)
 intro V1 q1 kp
 have q6 := kp.bel (show w.heap.size ≤ w.heap.size + 1 by omega) (uh HB2)
 have q7 := kp.row (fun x hx => by have := uh hfar x hx; omega) (uh HR2)
 clear kp HX2 HZ2 HB2 HR2 c12 f12
 go_wp2_with fail
 have e3 := uh hn3
 subst e3
 exact bodyPost_ret (v := .agg (lnA L (.slice a' l.length c'))) (res_c (cs0 := (lnA L (.slice a' l.length c'))) rfl q1 row56n size56n rfl rfl) rfl ⟨a', c', rfl, q7, fun x hx => by have := uh hfar x hx; omega, q6⟩
def RNewA (w : World) (id out : Int) (v : Value) (l : List Int) : Prop := Calls (Tri Try.prog) 28 #[.int .i64 id, .int .i64 out, v] w fun z w' => ∃ r e, NewE id out l r e ∧ ((e ≠ 0 ∧ z = .returned (.tuple #[.agg lnZ, .int .i64 e])) ∨ (e = 0 ∧ ∃ a' c', z = .returned (.tuple #[.agg (lnA (newK id out r) (.slice a' l.length c')), .int .i64 0]) ∧ Row w' (.slice a' l.length c') l ∧ (∀ x, a' = some x → w.heap.size ≤ x.block))) ∧ Below w.heap.size w w'
theorem rnew_bad (id out : Int) (v : Value) (w : World) (l : List Int) (hb : id < 0 ∨ ¬ id < 0 ∧ 2147483647 < id) : RNewA w id out v l := by
 unfold RNewA
 have HN := hide (show NewE id out l 0 2 from .inl ⟨by unfold inB; simp; omega, rfl, rfl⟩)
 have HZ := hide (Blk.new w lnZ 56)
 have HB := hide (below1L w (.cells lnZ 56))
 rcases hb with h1 | ⟨h1, h2⟩
 ·go_enter (Tri.at (by decide) Try.func28), Try.ntmps28
  go_wp2_with (first | refine store_blk rfl 56 _ _ rfl (show Blk _ _ _ _ from uh HZ) rfl rfl size56n rfl rfl rfl ?_)
  intro V1 q1 kp
  have q6 := kp.bel (Nat.le_refl _) (uh HB)
  clear kp HZ HB
  go_wp2_with fail
  exact bodyPost_ret (v := .tuple #[.agg lnZ, .int .i64 2]) (res_ct (cs0 := lnZ) rfl q1 row56n size56n rfl rfl rfl) rfl ⟨0, 2, uh HN, .inl ⟨by decide, rfl⟩, q6⟩
 ·go_enter (Tri.at (by decide) Try.func28), Try.ntmps28
  go_wp2_with (first | refine store_blk rfl 56 _ _ rfl (show Blk _ _ _ _ from uh HZ) rfl rfl size56n rfl rfl rfl ?_)
  intro V1 q1 kp
  have q6 := kp.bel (Nat.le_refl _) (uh HB)
  clear kp HZ HB
  go_wp2_with fail
  exact bodyPost_ret (v := .tuple #[.agg lnZ, .int .i64 2]) (res_ct (cs0 := lnZ) rfl q1 row56n size56n rfl rfl rfl) rfl ⟨0, 2, uh HN, .inl ⟨by decide, rfl⟩, q6⟩
theorem rnew_go (id out : Int) (a : Option Addr) (n c : Nat) (w : World) (l : List Int) (h1 : ¬ id < 0) (h2 : ¬ 2147483647 < id) (hR : Row w (.slice a n c) l) (hS : Sl a n c) (hl : l.length ≤ 17592186044000) : RNewA w id out (.slice a n c) l := by
 unfold RNewA
 have HN : Hid (∀ r e, Eir out l r e → NewE id out l r e) := hide (fun r e k => .inr ⟨by unfold inB; simp; omega, k⟩)
 have HZ := hide (Blk.new w lnZ 56)
 have HB := hide (below1L w (.cells lnZ 56))
 have HR := hide (hR.alloc (.cells lnZ 56))
 have HQ := hide (rsolve_any (out := out) (hR.alloc (.cells lnZ 56)))
 unfold RSolA at HQ
 have HSl := hide hS
 have HL := hide hl
 clear hR hS hl
 go_enter (Tri.at (by decide) Try.func28), Try.ntmps28
 go_wp2_with fail
 refine (uh HQ).mono ?_
 rintro z w1 ⟨r, e, hE, rfl, hb⟩
 replace HB := hide (below_via (uh HB) hb)
 replace HZ := hide ((uh HZ).keep hb)
 replace HR := hide ((uh HR).below hb (Nat.le_refl _))
 replace HN := hide (uh HN r e hE)
 clear hb hE HQ
 by_cases he : e = 0
 ·subst he
  have t0 : ((0 : Int) != 0) = false := rfl
  go_wp2_with fail
  refine (rcopy_any (L := newK id out r) (uh HR) (uh HSl) (uh HL)).mono ?_
  rintro z w2 ⟨a', c', rfl, hr, hf, hb⟩
  have HF : Hid (∀ x, a' = some x → w.heap.size + 1 ≤ x.block) := hide (fun x hx => by have := hf x hx; have := (uh HZ).lt; omega)
  replace HB := hide (below_via (uh HB) hb)
  replace HZ := hide ((uh HZ).keep hb)
  replace HR := hide hr
  clear hb hr hf HSl
  generalize hn3 : l.length = n3 at *
  replace hn3 := hide hn3
  go_wp2_with (first | refine store_blk rfl 56 _ _ rfl (show Blk _ _ _ _ from uh HZ) rfl rfl size56n rfl rfl rfl ?_)
  intro V1 q1 kp
  have q6 := kp.bel (Nat.le_refl _) (uh HB)
  have q7 := kp.row (fun x hx => by have := uh HF x hx; omega) (uh HR)
  clear kp HZ HB HR
  go_wp2_with fail
  have e3 := uh hn3
  subst e3
  exact bodyPost_ret (v := .tuple #[.agg (lnA (newK id out r) (.slice a' l.length c')), .int .i64 0]) (res_ct (cs0 := (lnA (newK id out r) (.slice a' l.length c'))) rfl q1 row56n size56n rfl rfl rfl) rfl ⟨r, 0, uh HN, .inr ⟨rfl, a', c', rfl, q7, fun x hx => by have := uh HF x hx; omega⟩, q6⟩
 ·have t0 : (e != 0) = true := by simpa using he
  go_wp2_with (first | refine store_blk rfl 56 _ _ rfl (show Blk _ _ _ _ from uh HZ) rfl rfl size56n rfl rfl rfl ?_)
  intro V1 q1 kp
  have q6 := kp.bel (Nat.le_refl _) (uh HB)
  clear kp HZ HB HR
  go_wp2_with fail
  exact bodyPost_ret (v := .tuple #[.agg lnZ, .int .i64 e]) (res_ct (cs0 := lnZ) rfl q1 row56n size56n rfl rfl rfl) rfl ⟨r, e, uh HN, .inl ⟨he, rfl⟩, q6⟩
theorem rnew_any {id out : Int} {a : Option Addr} {n c : Nat} {w : World} {l : List Int} (hR : Row w (.slice a n c) l) (hS : Sl a n c) (hl : l.length ≤ 17592186044000) : RNewA w id out (.slice a n c) l := by
 by_cases h1 : id < 0
 ·exact rnew_bad id out _ w l (.inl h1)
 by_cases h2 : 2147483647 < id
 ·exact rnew_bad id out _ w l (.inr ⟨h1, h2⟩)
 exact rnew_go id out a n c w l h1 h2 hR hS hl
theorem NewE.only {id out : Int} {l : List Int} {r e r' e' : Int} (h : NewE id out l r e) (h' : NewE id out l r' e') : r = r' ∧ e = e' := by
 rcases h with ⟨h1, rfl, rfl⟩ | ⟨h1, h⟩ <;> rcases h' with ⟨h2, rfl, rfl⟩ | ⟨h2, h'⟩
 ·exact ⟨rfl, rfl⟩
 ·rw [h1] at h2; cases h2
 ·rw [h1] at h2; cases h2
 ·exact Eir.only h h'
end Go.Proofs.Ytpeoabopeihadaa.Mn
