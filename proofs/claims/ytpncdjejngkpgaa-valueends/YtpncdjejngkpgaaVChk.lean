/- What value's check, earlier and the step of its fold answer. -/
import Derived.Test.YtpncdjejngkpgaaVNum
import Derived.Test.YtpncdjejngkpgaaMLeaf
import Derived.Laws.EntriesVeiled
import Derived.Deep.RegionHeld3
namespace Go.Proofs.Ytpncdjejngkpgaa.Mn
open Go.RowKit
set_option linter.unusedSimpArgs false
/-- What check answers. -/
def chkE (l : List Int) (r : Int) : Int := if 600 < l.length then 10 else if mayB r = false then 2 else if l.all may = false then 2 else 0
def ChkA (w : World) (v : Value) (r e : Int) : Prop := Calls Try.prog 26 #[v, .int .i64 r] w fun z w' => z = .returned (.int .i64 e) ∧ w = w'
theorem rate_yes {r : Int} (h : mayB r = true) (w : World) : Calls Try.prog 36 #[.int .i64 r] w fun e w' => e = .returned (.bool true) ∧ w = w' := by
  have := _root_.Go.Proofs.Ytpncdjejngkpgaa.may_any r w
  rwa [h] at this
theorem rate_no {r : Int} (h : mayB r = false) (w : World) : Calls Try.prog 36 #[.int .i64 r] w fun e w' => e = .returned (.bool false) ∧ w = w' := by
  have := _root_.Go.Proofs.Ytpncdjejngkpgaa.may_any r w
  rwa [h] at this
theorem amount_yes {a : Int} (h : may a = true) (w : World) : Calls Try.prog 38 #[.int .i64 a] w fun e w' => e = .returned (.bool true) ∧ w = w' := by
  have := may_any a w
  rwa [h] at this
theorem amount_no {a : Int} (h : may a = false) (w : World) : Calls Try.prog 38 #[.int .i64 a] w fun e w' => e = .returned (.bool false) ∧ w = w' := by
  have := may_any a w
  rwa [h] at this
theorem chk_long (a : Option Addr) (len cap : Nat) (r : Int) (w : World) (h : 600 < len) : ChkA w (.slice a len cap) r 10 := by
  unfold ChkA
  have d : decide ((600 : Int) < (len : Int)) = true := decide_eq_true (by omega)
  go_enter Try.func26, Try.ntmps26
  go_wp2_with fail
  go_ret
  exact ⟨rfl, rfl⟩
theorem chk_rate (a : Option Addr) (len cap : Nat) (r : Int) (w : World) (h : ¬ 600 < len) (hr : mayB r = false) : ChkA w (.slice a len cap) r 2 := by
  unfold ChkA
  have d : decide ((600 : Int) < (len : Int)) = false := decide_eq_false (by omega)
  have HR := hide (rate_no hr)
  clear hr
  go_enter Try.func26, Try.ntmps26
  go_wp2_with fail
  refine (unhide HR _).mono ?_
  rintro e w1 ⟨rfl, rfl⟩
  go_wp2_with fail
  go_ret
  exact ⟨rfl, rfl⟩
theorem chk_none (a : Option Addr) (cap : Nat) (r : Int) (w : World) (hr : mayB r = true) : ChkA w (.slice a 0 cap) r 0 := by
  unfold ChkA
  have HR := hide (rate_yes hr)
  clear hr
  go_enter Try.func26, Try.ntmps26
  go_wp2_with fail
  refine (unhide HR _).mono ?_
  rintro e w1 ⟨rfl, rfl⟩
  go_wp2_with fail
  refine wp_loop_rounds 1 ?_
  rw [rounds_succ]
  go_wp2_with fail
  go_ret
  exact ⟨rfl, rfl⟩
set_option maxHeartbeats 800000 in
theorem chk_row (b off cap : Nat) (l : List Int) (r e : Int) (w : World) (h : ¬ 600 < l.length) (hr : mayB r = true) (hc : ∀ j, j < l.length → w.cell? ⟨b, off + j, none⟩ = some (.int .i64 (l.getD j 0)))
    (he : (e = 0 ∧ ∀ x ∈ l, may x = true) ∨ (e = 2 ∧ ∃ x ∈ l, may x = false)) : ChkA w (.slice (some ⟨b, off, none⟩) l.length cap) r e := by
  unfold ChkA
  have HC := hide hc
  have HE := hide he
  have HR := hide (rate_yes hr)
  have HX : Hid (∀ j, j < l.length → l.getD j 0 ∈ l) := hide (fun j hj => by rw [show l.getD j 0 = l[j] by simp [List.getD, hj]]; exact List.getElem_mem hj)
  have HY : Hid ((∀ j, j < l.length → may (l.getD j 0) = true) → ∀ x ∈ l, may x = true) := hide (fun h x hx => by
    obtain ⟨j, hj, rfl⟩ := List.getElem_of_mem hx
    have := h j hj
    rwa [show l.getD j 0 = l[j] by simp [List.getD, hj]] at this)
  clear hc he hr
  generalize l.length = len at *
  have d : decide ((600 : Int) < (len : Int)) = false := decide_eq_false (by omega)
  go_enter Try.func26, Try.ntmps26
  go_wp2_with fail
  refine (unhide HR _).mono ?_
  rintro z w1 ⟨rfl, rfl⟩
  go_wp2_with fail
  go_loop [15] (fun i => ∃ k : Nat, k ≤ len ∧ i = .int .i64 k ∧ Hid (∀ j, j < k → may (l.getD j 0) = true)) (fun i => len - (intOf i).toNat)
  case atStart => exact ⟨0, Nat.zero_le _, rfl, hide (fun j hj => absurd hj (Nat.not_lt_zero j))⟩
  case round =>
    obtain ⟨k, hk, rfl, HA⟩ := hrel
    by_cases hlt : k < len
    · have ck := unhide HC k hlt
      have HN := hide (unhide HX k hlt)
      have HS : Hid (may (l.getD k 0) = true → ∀ j, j < k + 1 → may (l.getD j 0) = true) := hide (fun h j hj => by
        by_cases e : j = k
        · rw [e]; exact h
        · exact unhide HA j (by omega))
      generalize l.getD k 0 = z at *
      cases hz : may z with
      | true =>
        replace HS := hide (unhide HS hz)
        have HM := hide (amount_yes hz)
        clear hz
        go_wp2_with fail
        refine (unhide HM _).mono ?_
        rintro e1 w1 ⟨rfl, rfl⟩
        go_wp2_with fail
        go_round
        case rel => exact ⟨k + 1, by omega, by go_num, HS⟩
        case measure => simp [intOf]; omega
      | false =>
        have he : e = 2 := by
          rcases unhide HE with ⟨_, h⟩ | ⟨h, _⟩
          · have := h z (unhide HN); rw [hz] at this; cases this
          · exact h
        have HM := hide (amount_no hz)
        have HE2 := hide he
        clear hz HS he
        go_wp2_with fail
        refine (unhide HM _).mono ?_
        rintro e1 w1 ⟨rfl, rfl⟩
        go_wp2_with fail
        go_ret
        exact ⟨by rw [unhide HE2]; rfl, rfl⟩
    · have hk2 : k = len := by omega
      subst hk2
      have he : e = 0 := by
        rcases unhide HE with ⟨h, _⟩ | ⟨_, x, hx, h⟩
        · exact h
        · have := unhide HY (unhide HA) x hx; rw [h] at this; cases this
      have HE2 := hide he
      clear he
      go_wp2_with fail
      go_ret
      exact ⟨by rw [unhide HE2]; rfl, rfl⟩
theorem chk_any {w : World} {v : Value} {l : List Int} (r : Int) (h : Row w v l) : ChkA w v r (chkE l r) := by
  unfold chkE
  by_cases h6 : 600 < l.length
  · obtain ⟨a, cap, rfl⟩ := row_slice h
    rw [if_pos h6]
    exact chk_long a _ cap r w h6
  · rw [if_neg h6]
    cases hr : mayB r with
    | false =>
      obtain ⟨a, cap, rfl⟩ := row_slice h
      rw [if_pos rfl]
      exact chk_rate a _ cap r w h6 hr
    | true =>
      rw [if_neg (by decide)]
      rcases h with ⟨a, cap, rfl, rfl⟩ | ⟨b, off, cap, rfl, _, _, hc, _⟩
      · exact chk_none a cap r w hr
      · refine chk_row b off cap l r _ w h6 hr hc ?_
        cases ha : l.all may with
        | true => exact Or.inl ⟨by simp, fun x hx => List.all_eq_true.1 ha x hx⟩
        | false =>
          refine Or.inr ⟨by simp, ?_⟩
          have := List.all_eq_false.1 ha
          obtain ⟨x, hx, hn⟩ := this
          exact ⟨x, hx, by simpa using hn⟩
/-- What earlier answers: the worth a period ahead, or ErrOver. -/
def EarA (t a r n e : Int) : Prop := ∀ w : World, Calls Try.prog 29 #[.int .i64 t, .int .i64 a, .int .i64 r] w fun z w' => z = .returned (.tuple #[.int .i64 n, .int .i64 e]) ∧ Below w.heap.size w w'
theorem add_no {a b : Int} (ha : In64 a) (hb : In64 b) (h : ¬ In64 (a + b)) (w : World) : Calls Try.prog 39 #[.int .i64 a, .int .i64 b] w fun e w' => e = .returned (.tuple #[.int .i64 0, .int .i64 3]) ∧ w = w' := by
  have := add_any a b ha hb w
  have ht : ¬ turn (a + b) = 0 := fun c => h (in_of_turn c)
  rwa [okN_out ht, okE_out ht] at this
theorem add_yes {a b : Int} (ha : In64 a) (hb : In64 b) (h : In64 (a + b)) (w : World) : Calls Try.prog 39 #[.int .i64 a, .int .i64 b] w fun e w' => e = .returned (.tuple #[.int .i64 (a + b), .int .i64 0]) ∧ w = w' := by
  have := add_any a b ha hb w
  rwa [okN_in (turn_in h), okE_in (turn_in h)] at this
theorem ear_sum {t a r : Int} (ht : In64 t) (ha : In64 a) (h : ¬ In64 (t + a)) : EarA t a r 0 3 := by
  intro w
  have HA := hide (add_no ht ha h)
  clear h ht ha
  go_enter Try.func29, Try.ntmps29
  go_wp2_with fail
  refine (unhide HA _).mono ?_
  rintro e w1 ⟨rfl, rfl⟩
  go_wp2_with fail
  go_ret2
  exact ⟨rfl, Below.refl _ _⟩
theorem ear_disc {t a r : Int} (ht : In64 t) (ha : In64 a) (hr : May r) (h : In64 (t + a)) (hq : ¬ In64 (qD (t + a) r)) : EarA t a r 0 3 := by
  intro w
  have HA := hide (add_yes ht ha h)
  have hd := discount_ok h hr
  have hq' : ¬ turn (qD (t + a) r) = 0 := fun c => hq (in_of_turn c)
  rw [okN_out hq', okE_out hq'] at hd
  have HD := hide hd
  clear hd hq hq' hr ht ha
  generalize t + a = s at *
  clear h
  go_enter Try.func29, Try.ntmps29
  go_wp2_with fail
  refine (unhide HA _).mono ?_
  rintro e w1 ⟨rfl, rfl⟩
  go_wp2_with fail
  refine (unhide HD _).mono ?_
  rintro e w1 ⟨rfl, hb⟩
  go_wp2_with fail
  go_ret2
  exact ⟨rfl, hb⟩
theorem ear_lo {t a r : Int} (ht : In64 t) (ha : In64 a) (hr : May r) (h : In64 (t + a)) (hq : In64 (qD (t + a) r)) (d1 : decide (qD (t + a) r < -4611686018427387904) = true) : EarA t a r 0 3 := by
  intro w
  have HA := hide (add_yes ht ha h)
  have HD := hide (in_ok (discount_ok h hr) hq)
  clear hq hr ht ha
  generalize qD (t + a) r = q at *
  generalize t + a = s at *
  clear h
  go_enter Try.func29, Try.ntmps29
  go_wp2_with fail
  refine (unhide HA _).mono ?_
  rintro e w1 ⟨rfl, rfl⟩
  go_wp2_with fail
  refine (unhide HD _).mono ?_
  rintro e w1 ⟨rfl, hb⟩
  go_wp2_with fail
  go_ret2
  exact ⟨rfl, hb⟩
theorem ear_hi {t a r : Int} (ht : In64 t) (ha : In64 a) (hr : May r) (h : In64 (t + a)) (hq : In64 (qD (t + a) r)) (d1 : decide (qD (t + a) r < -4611686018427387904) = false) (d2 : decide (4611686018427387904 < qD (t + a) r) = true) : EarA t a r 0 3 := by
  intro w
  have HA := hide (add_yes ht ha h)
  have HD := hide (in_ok (discount_ok h hr) hq)
  clear hq hr ht ha
  generalize qD (t + a) r = q at *
  generalize t + a = s at *
  clear h
  go_enter Try.func29, Try.ntmps29
  go_wp2_with fail
  refine (unhide HA _).mono ?_
  rintro e w1 ⟨rfl, rfl⟩
  go_wp2_with fail
  refine (unhide HD _).mono ?_
  rintro e w1 ⟨rfl, hb⟩
  go_wp2_with fail
  go_ret2
  exact ⟨rfl, hb⟩
theorem ear_ok {t a r : Int} (ht : In64 t) (ha : In64 a) (hr : May r) (h : In64 (t + a)) (hq : In64 (qD (t + a) r)) (d1 : decide (qD (t + a) r < -4611686018427387904) = false) (d2 : decide (4611686018427387904 < qD (t + a) r) = false) : EarA t a r (qD (t + a) r) 0 := by
  intro w
  have HA := hide (add_yes ht ha h)
  have HD := hide (in_ok (discount_ok h hr) hq)
  clear hq hr ht ha
  generalize qD (t + a) r = q at *
  generalize t + a = s at *
  clear h
  go_enter Try.func29, Try.ntmps29
  go_wp2_with fail
  refine (unhide HA _).mono ?_
  rintro e w1 ⟨rfl, rfl⟩
  go_wp2_with fail
  refine (unhide HD _).mono ?_
  rintro e w1 ⟨rfl, hb⟩
  go_wp2_with fail
  go_ret2
  exact ⟨rfl, hb⟩
theorem ear_yes {t a r : Int} (ht : In64 t) (ha : In64 a) (hr : May r) (h : fitB (t + a) (qD (t + a) r) = true) : EarA t a r (qD (t + a) r) 0 := by
  obtain ⟨h1, h2, h3⟩ := fitB_iff.1 h
  exact ear_ok ht ha hr h1 ⟨by omega, by omega⟩ (decide_eq_false (by omega)) (decide_eq_false (by omega))
theorem ear_no {t a r : Int} (ht : In64 t) (ha : In64 a) (hr : May r) (h : fitB (t + a) (qD (t + a) r) = false) : EarA t a r 0 3 := by
  by_cases h1 : In64 (t + a)
  · by_cases hq : In64 (qD (t + a) r)
    · by_cases h2 : qD (t + a) r < -4611686018427387904
      · exact ear_lo ht ha hr h1 hq (decide_eq_true h2)
      · by_cases h3 : 4611686018427387904 < qD (t + a) r
        · exact ear_hi ht ha hr h1 hq (decide_eq_false h2) (decide_eq_true h3)
        · rw [fitB_iff.2 ⟨h1, by omega, by omega⟩] at h
          cases h
    · exact ear_disc ht ha hr h1 hq
  · exact ear_sum ht ha h1
/-- Two boxes: how many times, and the rate. -/
structure Box2 (w : World) (bt br : Nat) (b r : Int) : Prop where
  c0 : w.cell? ⟨bt, 0, none⟩ = some (.int .i64 b)
  c1 : w.cell? ⟨br, 0, none⟩ = some (.int .i64 r)
theorem Box2.keep {w w' : World} {bt br : Nat} {b r : Int} (h : Box2 w bt br b r) (hb : Below w.heap.size w w') : Box2 w' bt br b r :=
  ⟨(hb.cell (p := ⟨bt, 0, none⟩) (lt_of_cell h.c0)).trans h.c0, (hb.cell (p := ⟨br, 0, none⟩) (lt_of_cell h.c1)).trans h.c1⟩
/-- The step of the fold, as a closure over both boxes. -/
theorem step_of {x t b r n e : Int} (hx : In64 (x * b)) (H : EarA t (x * b) r n e) (bt br : Nat) (w : World) (hB : Box2 w bt br b r) :
    Calls Try.prog 28 #[.int .i64 x, .int .i64 t, .pointer (some ⟨bt, 0, none⟩), .pointer (some ⟨br, 0, none⟩)] w fun z w' => z = .returned (.tuple #[.int .i64 n, .int .i64 e]) ∧ Below w.heap.size w w' := by
  have c0 := hB.c0
  have c1 := hB.c1
  have hw : wrap64 (x * b) = x * b := wrap_in hx
  replace H := hide H
  clear hB hx
  go_enter Try.func28, Try.ntmps28
  go_wp2_with fail
  refine (unhide H _).mono ?_
  rintro e w1 ⟨rfl, hb⟩
  go_wp2_with fail
  go_ret2
  exact ⟨rfl, hb⟩
end Go.Proofs.Ytpncdjejngkpgaa.Mn
