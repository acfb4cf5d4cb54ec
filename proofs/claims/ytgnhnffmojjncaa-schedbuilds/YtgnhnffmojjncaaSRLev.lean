/- What the document's Level answers: the same amount, sought bit by bit. -/
import Derived.Test.YtgnhnffmojjncaaBits14
import Derived.Test.YtgnhnffmojjncaaSLevel
namespace Go.Proofs.Ytgnhnffmojjncaa.Mn
open Go.RowKit
set_option linter.unusedSimpArgs false
theorem ask24 {x r : Int} (h0 : 0 ≤ x) (h1 : x ≤ 40000000000000) (r0 : 0 ≤ r) (r1 : r ≤ 1000000000000) : Ans 24 x r (qI x r) 0 := by
  have h := qI_bd h0 r0 r1
  exact in_ok (rint_ok ⟨by omega, by omega⟩ ⟨by omega, by omega⟩) ⟨by omega, by omega⟩
set_option maxHeartbeats 1000000 in
theorem rpays_any (x r a : Int) (k : Nat) (x0 : 0 ≤ x) (x1 : x ≤ 10000000000000) (r0 : 0 ≤ r) (r1 : r ≤ 1000000000000) (k1 : k ≤ 600) (a0 : 0 ≤ a) (a1 : a ≤ 140737488355328) (w : World) :
    Calls Try.prog 31 #[.int .i64 x, .int .i64 r, .int .i64 k, .int .i64 a] w fun e w' => e = .returned (.bool (payR r a k x)) ∧ Below w.heap.size w w' := by
  have HI : Hid (∀ y, 0 ≤ y → y ≤ 40000000000000 → Ans 24 y r (qI y r) 0) := hide (fun y h0 h1 => ask24 h0 h1 r0 r1)
  obtain ⟨P, hP⟩ : ∃ P, payR r a k x = P := ⟨_, rfl⟩
  rw [hP]
  have HP := hide hP
  clear hP
  go_enter Try.func31, Try.ntmps31
  go_wp2_with fail
  go_loopw [0, 9] (fun l i wr => ∃ (j : Nat) (y : Int), j ≤ k ∧ i = .int .i64 j ∧ l = .int .i64 y ∧ -140737488355328 ≤ y ∧ y ≤ 40000000000000 ∧ Hid (payR r a (k - j) y = P) ∧ Hid (Below w.heap.size w wr)) (fun _ i _ => k - (intOf i).toNat)
  case atStart => exact ⟨0, x, by omega, rfl, rfl, by omega, by omega, HP, hide (Below.refl _ _)⟩
  case round =>
    clear HP
    obtain ⟨j, y, hj, rfl, rfl, hy0, hy1, HP, HB⟩ := hrel
    by_cases hlt : j < k
    · by_cases hy : 0 < y
      · have hq := hide (unhide HI y (by omega) hy1)
        obtain ⟨q0, q1⟩ := qI_bd (x := y) (by omega) r0 r1
        obtain ⟨m, hm⟩ : ∃ m, k - j = m + 1 := ⟨k - j - 1, by omega⟩
        rw [hm] at HP
        have H2 : Hid (40000000000000 < y + (qI y r - a) → P = false) := hide (fun h1 => by rw [← unhide HP]; exact payR_big r0 r1 hy hy1 (by omega))
        have H3 : Hid (payR r a (k - (j + 1)) (y + (qI y r - a)) = P) := hide (by rw [show k - (j + 1) = m from by omega, ← unhide HP, show y + (qI y r - a) = y + qI y r - a from by omega]; exact (payR_step hy).symm)
        unfold Ans at hq
        generalize qI y r = q at *
        clear HP hm
        by_cases t1 : 40000000000000 < y + (q - a)
        · have HP := hide (unhide H2 t1)
          clear H2 H3
          go_wp2_with fail
          refine (unhide hq _).mono ?_
          rintro e w1 ⟨rfl, hb⟩
          replace HB := hide (below_via (unhide HB) hb)
          clear hb
          go_wp2_with fail
          go_ret
          exact ⟨ret_bool (unhide HP).symm, unhide HB⟩
        · clear H2
          go_wp2_with fail
          refine (unhide hq _).mono ?_
          rintro e w1 ⟨rfl, hb⟩
          replace HB := hide (below_via (unhide HB) hb)
          clear hb
          go_wp2_with fail
          go_roundw
          case rel => exact ⟨j + 1, y + (q - a), by omega, by go_num, rfl, by omega, by omega, H3, HB⟩
          case measure => simp [intOf]; omega
      · have HP2 : Hid (P = true) := hide (by rw [← unhide HP]; exact payR_zero (by omega))
        clear HP
        have t1 : y ≤ 0 := by omega
        go_wp2_with fail
        go_ret
        exact ⟨ret_bool (unhide HP2).symm, unhide HB⟩
    · have hP : P = decide (y ≤ 0) := by
        rw [← unhide HP, show k - j = 0 from by omega]
        rfl
      have HP2 := hide hP
      clear hP HP
      by_cases t1 : y ≤ 0
      · rw [decide_eq_true t1] at HP2
        go_wp2_with fail
        go_ret
        exact ⟨ret_bool (unhide HP2).symm, unhide HB⟩
      · rw [decide_eq_false t1] at HP2
        go_wp2_with fail
        go_ret
        exact ⟨ret_bool (unhide HP2).symm, unhide HB⟩
/-- The bit that is tried when e are left. -/
def pw : Nat → Int
  | 0 => 0
  | e + 1 => 2 ^ e
theorem pw_half (e : Nat) : pw (e + 1) / 2 = pw e := by
  cases e with
  | zero => rfl
  | succ e => show (2 : Int) ^ (e + 1) / 2 = 2 ^ e; rw [Int.pow_succ]; omega
theorem pw_le (e : Nat) : pw e ≤ 2 ^ e := by
  cases e with
  | zero => show (0 : Int) ≤ 1; omega
  | succ e =>
    have hp : (0 : Int) < 2 ^ e := Int.pow_pos (by decide)
    show (2 : Int) ^ e ≤ 2 ^ (e + 1)
    rw [Int.pow_succ]; omega
theorem pw_pos (e : Nat) : 0 < pw (e + 1) := Int.pow_pos (by decide)
theorem bits_no {P : Int → Bool} {e : Nat} {n : Int} (h : P (n + pw (e + 1)) = true) : bits P (e + 1) n = bits P e n := by
  show bits P e (if P (n + 2 ^ e) = true then n else n + 2 ^ e) = _
  rw [if_pos (show P (n + 2 ^ e) = true from h)]
theorem bits_yes {P : Int → Bool} {e : Nat} {n : Int} (h : P (n + pw (e + 1)) = false) : bits P (e + 1) n = bits P e (n + pw (e + 1)) := by
  show bits P e (if P (n + 2 ^ e) = true then n else n + 2 ^ e) = _
  rw [if_neg (by rw [show P (n + 2 ^ e) = false from h]; decide)]
  rfl
theorem room_step {e : Nat} {n : Int} (h : n + 2 ^ (e + 1) ≤ 140737488355328) : n + 2 ^ e ≤ 140737488355328 ∧ n + pw (e + 1) + 2 ^ e ≤ 140737488355328 ∧ pw (e + 1) ≤ 140737488355328 - n := by
  have hp : (0 : Int) < 2 ^ e := Int.pow_pos (by decide)
  rw [Int.pow_succ] at h
  refine ⟨by omega, ?_, ?_⟩
  · show n + 2 ^ e + 2 ^ e ≤ _; omega
  · show 2 ^ e ≤ _; omega
theorem rlevel_no (x r k : Int) (hno : ¬ LevelOk x r k) : LevelA 18 x r k 0 2 := by
  intro w
  by_cases t1 : x < 0
  · have d1 := decide_eq_true t1
    go_enter Try.func18, Try.ntmps18
    go_wp2_with fail
    go_ret2
    exact ⟨rfl, Below.refl _ _⟩
  have d1 := decide_eq_false t1
  by_cases t2 : 10000000000000 < x
  · have d2 := decide_eq_true t2
    clear t1 t2 hno
    go_enter Try.func18, Try.ntmps18
    go_wp2_with fail
    go_ret2
    exact ⟨rfl, Below.refl _ _⟩
  have d2 := decide_eq_false t2
  by_cases t3 : r < 0
  · have d3 := decide_eq_true t3
    clear t1 t2 t3 hno
    go_enter Try.func18, Try.ntmps18
    go_wp2_with fail
    go_ret2
    exact ⟨rfl, Below.refl _ _⟩
  have d3 := decide_eq_false t3
  by_cases t4 : 1000000000000 < r
  · have d4 := decide_eq_true t4
    clear t1 t2 t3 t4 hno
    go_enter Try.func18, Try.ntmps18
    go_wp2_with fail
    go_ret2
    exact ⟨rfl, Below.refl _ _⟩
  have d4 := decide_eq_false t4
  by_cases t5 : k < 1
  · have d5 := decide_eq_true t5
    clear t1 t2 t3 t4 t5 hno
    go_enter Try.func18, Try.ntmps18
    go_wp2_with fail
    go_ret2
    exact ⟨rfl, Below.refl _ _⟩
  have d5 := decide_eq_false t5
  by_cases t6 : 600 < k
  · have d6 := decide_eq_true t6
    clear t1 t2 t3 t4 t5 t6 hno
    go_enter Try.func18, Try.ntmps18
    go_wp2_with fail
    go_ret2
    exact ⟨rfl, Below.refl _ _⟩
  exact absurd ⟨by omega, by omega, by simp [bearB]; omega, by simp [lastB]; omega⟩ hno
set_option maxHeartbeats 1000000 in
theorem rlevel_ok (x r : Int) (k : Nat) (x0 : 0 ≤ x) (x1 : x ≤ 10000000000000) (hr : bearB r = true) (hk : lastB k = true) : LevelA 18 x r k (lvlR r k x) 0 := by
  intro w
  obtain ⟨r0, r1⟩ := bearB_bd hr
  obtain ⟨k0, k1⟩ := lastB_bd hk
  have HP : Hid (∀ a, 0 ≤ a → a ≤ 140737488355328 → ∀ w : World, Calls Try.prog 31 #[.int .i64 x, .int .i64 r, .int .i64 k, .int .i64 a] w fun e w' => e = .returned (.bool (payR r a k x)) ∧ Below w.heap.size w w') := hide (fun a a0 a1 => rpays_any x r a k x0 x1 r0 r1 (by omega) a0 a1)
  have d1 : decide (x < 0) = false := decide_eq_false (by omega)
  have d2 : decide (10000000000000 < x) = false := decide_eq_false (by omega)
  have d3 : decide (r < 0) = false := decide_eq_false (by omega)
  have d4 : decide (1000000000000 < r) = false := decide_eq_false (by omega)
  have d5 : decide ((k : Int) < 1) = false := decide_eq_false (by omega)
  have d6 : decide (600 < (k : Int)) = false := decide_eq_false (by omega)
  have HZ := hide (unhide HP 0 (by omega) (by omega))
  clear hr hk r0 r1 x0 x1 k0 k1
  cases hz : payR r 0 k x with
  | true =>
    have hv : lvlR r k x = 0 := if_pos hz
    rw [hv]
    rw [hz] at HZ
    clear hv hz HP
    go_enter Try.func18, Try.ntmps18
    go_wp2_with fail
    refine (unhide HZ _).mono ?_
    rintro e w1 ⟨rfl, hb⟩
    go_wp2_with fail
    go_ret2
    exact ⟨rfl, hb⟩
  | false =>
    have hv : lvlR r k x = bits (fun a => payR r a k x) 47 0 + 1 := if_neg (by rw [show pay (fun y => qI y r) 0 k x = false from hz]; decide)
    rw [hv]
    rw [hz] at HZ
    clear hv hz
    obtain ⟨V, hV⟩ : ∃ V, bits (fun a => payR r a k x) 47 0 = V := ⟨_, rfl⟩
    rw [hV]
    have HV := hide hV
    clear hV
    go_enter Try.func18, Try.ntmps18
    go_wp2_with fail
    refine (unhide HZ _).mono ?_
    rintro e w1 ⟨rfl, hb⟩
    have HB := hide hb
    clear hb HZ d1 d2 d3 d4 d5 d6
    go_wp2_with fail
    go_loopw [8, 9] (fun l t wr => ∃ (e : Nat) (n B : Int), l = .int .i64 n ∧ t = .int .i64 B ∧ 0 ≤ n ∧ n ≤ 140737488355328 ∧ 0 ≤ B ∧ B ≤ 140737488355328 - n ∧ Hid (B = pw e) ∧ Hid (n + 2 ^ e ≤ 140737488355328) ∧ Hid (bits (fun a => payR r a k x) e n = V) ∧ Hid (Below w.heap.size w wr)) (fun _ t _ => (intOf t).toNat)
    case atStart => exact ⟨47, 0, 70368744177664, rfl, rfl, by omega, by omega, by omega, by omega, hide (by decide), hide (by decide), HV, HB⟩
    case round =>
      clear HV HB
      obtain ⟨e, n, B, rfl, rfl, n0, n1, B0, B1, HE, HR, HV, HB⟩ := hrel
      cases e with
      | zero =>
        have hB : B = 0 := unhide HE
        have hn : n = V := unhide HV
        have HN := hide hn
        clear HE HR HV hn
        subst hB
        go_wp2_with fail
        go_ret2
        exact ⟨by rw [← unhide HN]; rfl, unhide HB⟩
      | succ e =>
        obtain ⟨s1, s2, s3⟩ := room_step (unhide HR)
        have hp := pw_pos e
        have hh := pw_half e
        rw [← unhide HE] at hp hh s2 s3
        have hB2 : n + B ≤ 140737488355328 := by omega
        have s4 : n + B + B / 2 ≤ 140737488355328 := by
          have := pw_le e
          rw [hh]
          omega
        have S1 := hide s1
        have S2 := hide s2
        have HH := hide hh
        have HY : Hid (payR r (n + B) k x = false → bits (fun a => payR r a k x) e (n + B) = V) := hide (fun h => by
          rw [← unhide HV, bits_yes (P := fun a => payR r a k x) (by rw [← unhide HE]; exact h), ← unhide HE])
        have HNo : Hid (payR r (n + B) k x = true → bits (fun a => payR r a k x) e n = V) := hide (fun h => by
          rw [← unhide HV, bits_no (P := fun a => payR r a k x) (by rw [← unhide HE]; exact h)])
        have HC := hide (unhide HP (n + B) (by omega) hB2)
        clear s1 s2 s3 hh HE HR HV
        cases hq : payR r (n + B) k x with
        | true =>
          have HV := hide (unhide HNo hq)
          rw [hq] at HC
          clear HNo HY hq
          go_wp2_with fail
          refine (unhide HC _).mono ?_
          rintro e w1 ⟨rfl, hb⟩
          replace HB := hide (below_via (unhide HB) hb)
          clear hb
          go_wp2_with fail
          go_roundw
          case rel => exact ⟨_, n, B / 2, rfl, rfl, n0, n1, by omega, by omega, HH, S1, HV, HB⟩
          case measure => simp [intOf]; omega
        | false =>
          have HV := hide (unhide HY hq)
          rw [hq] at HC
          clear HNo HY hq
          go_wp2_with fail
          refine (unhide HC _).mono ?_
          rintro e w1 ⟨rfl, hb⟩
          replace HB := hide (below_via (unhide HB) hb)
          clear hb
          go_wp2_with fail
          go_roundw
          case rel => exact ⟨_, n + B, B / 2, rfl, rfl, by omega, by omega, by omega, by omega, HH, S2, HV, HB⟩
          case measure => simp [intOf]; omega
/-- What both Levels answer. -/
def levE (x r k : Int) : Int := if 0 ≤ x ∧ x ≤ 10000000000000 ∧ bearB r = true ∧ lastB k = true then 0 else 2
def levV (x r k : Int) : Int := if 0 ≤ x ∧ x ≤ 10000000000000 ∧ bearB r = true ∧ lastB k = true then lvlR r k.toNat x else 0
theorem level_any (x r k : Int) : LevelA 17 x r k (levV x r k) (levE x r k) := by
  by_cases h : 0 ≤ x ∧ x ≤ 10000000000000 ∧ bearB r = true ∧ lastB k = true
  · unfold levE levV
    rw [if_pos h, if_pos h]
    obtain ⟨h1, h2, h3, h4⟩ := h
    obtain ⟨k0, k1⟩ := lastB_bd h4
    obtain ⟨m, rfl⟩ := Int.eq_ofNat_of_zero_le (show 0 ≤ k by omega)
    exact level_ok x r m h1 h2 h3 h4
  · unfold levE levV
    rw [if_neg h, if_neg h]
    by_cases t1 : x < 0
    · exact level_lo x r k (decide_eq_true t1)
    by_cases t2 : 10000000000000 < x
    · exact level_hi x r k (decide_eq_false t1) (decide_eq_true t2)
    cases t3 : bearB r with
    | false => exact level_rate x r k (decide_eq_false t1) (decide_eq_false t2) t3
    | true =>
      cases t4 : lastB k with
      | false => exact level_long x r k (decide_eq_false t1) (decide_eq_false t2) t3 t4
      | true => exact absurd ⟨by omega, by omega, t3, t4⟩ h
theorem rlevel_any (x r k : Int) : LevelA 18 x r k (levV x r k) (levE x r k) := by
  by_cases h : 0 ≤ x ∧ x ≤ 10000000000000 ∧ bearB r = true ∧ lastB k = true
  · unfold levE levV
    rw [if_pos h, if_pos h]
    obtain ⟨h1, h2, h3, h4⟩ := h
    obtain ⟨k0, k1⟩ := lastB_bd h4
    obtain ⟨m, rfl⟩ := Int.eq_ofNat_of_zero_le (show 0 ≤ k by omega)
    exact rlevel_ok x r m h1 h2 h3 h4
  · unfold levE levV
    rw [if_neg h, if_neg h]
    exact rlevel_no x r k h
end Go.Proofs.Ytgnhnffmojjncaa.Mn
