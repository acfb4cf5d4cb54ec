/- Interest as sched reckons it; whether an amount pays something off; what sched's Level answers. -/
import Derived.Test.YtgnhnffmojjncaaRate
import Derived.Test.YtgnhnffmojjncaaSPay
import Derived.Test.YtgnhnffmojjncaaMRow
import Derived.Laws.EntriesVeiled
import Derived.Deep.RegionHeld3
namespace Go.Proofs.Ytgnhnffmojjncaa.Mn
open Go.RowKit
set_option linter.unusedSimpArgs false
theorem qI_int2 : Int2 qI where
  bears r r0 r1 := {
    mono := fun x y h => near_mono (by omega) (Int.mul_le_mul_of_nonneg_right h r0)
    zero := by show near (0 * r) 1000000000000 = 0; rw [Int.zero_mul]; exact near_zero (by omega)
    le := fun x hx => near_le (by omega) (Int.mul_le_mul_of_nonneg_left r1 hx) }
  rate x r s hx _ h := near_mono (by omega) (Int.mul_le_mul_of_nonneg_left h hx)
  flat x := by show near (x * 0) 1000000000000 = 0; rw [Int.mul_zero]; exact near_zero (by omega)
theorem qI_bd {x r : Int} (h0 : 0 ≤ x) (r0 : 0 ≤ r) (r1 : r ≤ 1000000000000) : 0 ≤ qI x r ∧ qI x r ≤ x := by
  have h := qI_int2.bears r r0 r1
  exact ⟨h.nonneg h0, h.le x h0⟩
theorem ask19 {x r : Int} (h0 : 0 ≤ x) (h1 : x ≤ 40000000000000) (r0 : 0 ≤ r) (r1 : r ≤ 1000000000000) : Ans 19 x r (qI x r) 0 := by
  have h := qI_bd h0 r0 r1
  exact in_ok (interest_ok ⟨by omega, by omega⟩ ⟨by omega, by omega⟩) ⟨by omega, by omega⟩
/-- What sched's own interest answers. -/
def Int1 (x r : Int) : Prop := ∀ w : World, Calls Try.prog 27 #[.int .i64 x, .int .i64 r] w fun e w' => e = .returned (.int .i64 (qI x r)) ∧ Below w.heap.size w w'
theorem int1_any {x r : Int} (h0 : 0 ≤ x) (h1 : x ≤ 40000000000000) (r0 : 0 ≤ r) (r1 : r ≤ 1000000000000) : Int1 x r := by
  intro w
  have H := hide (ask19 h0 h1 r0 r1)
  go_enter Try.func27, Try.ntmps27
  go_wp2_with fail
  refine (unhide H _).mono ?_
  rintro e w1 ⟨rfl, hb⟩
  go_wp2_with fail
  go_ret
  exact ⟨rfl, hb⟩
/-- Whether an amount pays off, at a rate. -/
def payR (r a : Int) (k : Nat) (x : Int) : Bool := pay (fun y => qI y r) a k x
/-- One period of it. -/
theorem payR_end {r a y : Int} {m : Nat} (h : y + qI y r - a ≤ 0) : payR r a (m + 1) y = true := by
  by_cases c : y ≤ 0
  · exact pay_zero _ c
  · exact (pay_succ m (by omega)).trans (pay_zero _ h)
theorem payR_never {r a y : Int} {m : Nat} (r0 : 0 ≤ r) (r1 : r ≤ 1000000000000) (h0 : 0 < y) (h : y ≤ y + qI y r - a) : payR r a m y = false :=
  pay_never (qI_int2.bears r r0 r1) m y h0 (by show a ≤ qI y r; omega)
theorem payR_step {r a y : Int} {m : Nat} (h0 : 0 < y) : payR r a (m + 1) y = payR r a m (y + qI y r - a) := pay_succ m h0
theorem payR_big {r a y : Int} {m : Nat} (r0 : 0 ≤ r) (r1 : r ≤ 1000000000000) (h0 : 0 < y) (h1 : y ≤ 40000000000000) (h : 40000000000000 < y + qI y r - a) : payR r a (m + 1) y = false := by
  rw [payR_step h0]
  have hm := (qI_int2.bears r r0 r1).mono y (y + qI y r - a) (by omega)
  exact payR_never r0 r1 (by omega) (by have : qI y r ≤ qI (y + qI y r - a) r := hm; omega)
theorem payR_zero {r a y : Int} {m : Nat} (h : y ≤ 0) : payR r a m y = true := pay_zero m h
theorem payR_none {r a y : Int} (h : 0 < y) : payR r a 0 y = false := pay_none h
set_option maxHeartbeats 1000000 in
theorem pays_any (x r a : Int) (k : Nat) (x0 : 0 ≤ x) (x1 : x ≤ 10000000000000) (r0 : 0 ≤ r) (r1 : r ≤ 1000000000000) (k0 : 0 < k) (k1 : k ≤ 600) (a0 : 0 ≤ a) (a1 : a ≤ 20000000000000) (w : World) :
    Calls Try.prog 30 #[.int .i64 x, .int .i64 r, .int .i64 k, .int .i64 a] w fun e w' => e = .returned (.bool (payR r a k x)) ∧ Below w.heap.size w w' := by
  have HI : Hid (∀ y, 0 ≤ y → y ≤ 10000000000000 → Int1 y r) := hide (fun y h0 h1 => int1_any h0 (by omega) r0 r1)
  obtain ⟨P, hP⟩ : ∃ P, payR r a k x = P := ⟨_, rfl⟩
  rw [hP]
  have HP := hide hP
  clear hP
  go_enter Try.func30, Try.ntmps30
  go_wp2_with fail
  go_loopw [0, 11] (fun l i wr => ∃ (j : Nat) (y : Int), j ≤ k ∧ i = .int .i64 j ∧ l = .int .i64 y ∧ 0 ≤ y ∧ y ≤ 10000000000000 ∧ Hid (0 < j → 0 < y) ∧ Hid (payR r a (k - j) y = P) ∧ Hid (Below w.heap.size w wr)) (fun _ i _ => k - (intOf i).toNat)
  case atStart => exact ⟨0, x, by omega, rfl, rfl, x0, x1, hide (fun h => by omega), HP, hide (Below.refl _ _)⟩
  case round =>
    clear HP
    obtain ⟨j, y, hj, rfl, rfl, hy0, hy1, H0, HP, HB⟩ := hrel
    by_cases hlt : j < k
    · have hq := hide (unhide HI y hy0 hy1)
      obtain ⟨q0, q1⟩ := qI_bd hy0 r0 r1
      obtain ⟨m, hm⟩ : ∃ m, k - j = m + 1 := ⟨k - j - 1, by omega⟩
      rw [hm] at HP
      have H1 : Hid (y + qI y r - a ≤ 0 → P = true) := hide (fun h => by rw [← unhide HP]; exact payR_end h)
      have H2 : Hid (¬ y + qI y r - a ≤ 0 → y ≤ y + qI y r - a → P = false) := hide (fun h1 h2 => by rw [← unhide HP]; exact payR_never r0 r1 (by omega) h2)
      have H3 : Hid (¬ y + qI y r - a ≤ 0 → ¬ y ≤ y + qI y r - a → payR r a (k - (j + 1)) (y + qI y r - a) = P) := hide (fun h1 h2 => by rw [show k - (j + 1) = m from by omega, ← unhide HP]; exact (payR_step (by omega)).symm)
      unfold Int1 at hq
      generalize qI y r = q at *
      clear HP H0 hm
      by_cases t1 : y + q - a ≤ 0
      · have HP := hide (unhide H1 t1)
        clear H1 H2 H3
        go_wp2_with fail
        refine (unhide hq _).mono ?_
        rintro e w1 ⟨rfl, hb⟩
        replace HB := hide (below_via (unhide HB) hb)
        clear hb
        go_wp2_with fail
        go_ret
        exact ⟨ret_bool (unhide HP).symm, unhide HB⟩
      · by_cases t2 : y ≤ y + q - a
        · have HP := hide (unhide H2 t1 t2)
          clear H1 H2 H3
          go_wp2_with fail
          refine (unhide hq _).mono ?_
          rintro e w1 ⟨rfl, hb⟩
          replace HB := hide (below_via (unhide HB) hb)
          clear hb
          go_wp2_with fail
          go_ret
          exact ⟨ret_bool (unhide HP).symm, unhide HB⟩
        · have HP := hide (unhide H3 t1 t2)
          clear H1 H2 H3
          go_wp2_with fail
          refine (unhide hq _).mono ?_
          rintro e w1 ⟨rfl, hb⟩
          replace HB := hide (below_via (unhide HB) hb)
          clear hb
          go_wp2_with fail
          go_roundw
          case rel => exact ⟨j + 1, y + q - a, by omega, by go_num, rfl, by omega, by omega, hide (fun _ => by omega), HP, HB⟩
          case measure => simp [intOf]; omega
    · have hP : P = false := by
        rw [← unhide HP, show k - j = 0 from by omega]
        exact payR_none (unhide H0 (by omega))
      have HP2 := hide hP
      clear hP HP H0
      go_wp2_with fail
      go_ret
      exact ⟨ret_bool (unhide HP2).symm, unhide HB⟩
end Go.Proofs.Ytgnhnffmojjncaa.Mn
/- What sched's Level answers: the least amount that pays off, sought by halves. -/
namespace Go.Proofs.Ytgnhnffmojjncaa.Mn
open Go.RowKit
set_option linter.unusedSimpArgs false
/-- Three boxes: what is left, the rate, the periods. -/
structure Box3 (w : World) (b0 b1 b2 : Nat) (x r k : Int) : Prop where
  c0 : w.cell? ⟨b0, 0, none⟩ = some (.int .i64 x)
  c1 : w.cell? ⟨b1, 0, none⟩ = some (.int .i64 r)
  c2 : w.cell? ⟨b2, 0, none⟩ = some (.int .i64 k)
theorem Box3.keep {w w' : World} {b0 b1 b2 : Nat} {x r k : Int} (h : Box3 w b0 b1 b2 x r k) (hb : Below w.heap.size w w') : Box3 w' b0 b1 b2 x r k :=
  ⟨(hb.cell (p := ⟨b0, 0, none⟩) (lt_of_cell h.c0)).trans h.c0, (hb.cell (p := ⟨b1, 0, none⟩) (lt_of_cell h.c1)).trans h.c1, (hb.cell (p := ⟨b2, 0, none⟩) (lt_of_cell h.c2)).trans h.c2⟩
theorem Box3.drew {w : World} {b0 b1 b2 : Nat} {x r k : Int} (h : Box3 w b0 b1 b2 x r k) : Box3 w.drew b0 b1 b2 x r k := ⟨h.c0, h.c1, h.c2⟩
theorem seek_any (x r a : Int) (k : Nat) (x0 : 0 ≤ x) (x1 : x ≤ 10000000000000) (r0 : 0 ≤ r) (r1 : r ≤ 1000000000000) (k0 : 0 < k) (k1 : k ≤ 600) (a0 : 0 ≤ a) (a1 : a ≤ 20000000000000) (b0 b1 b2 : Nat) (w : World) (H : Box3 w b0 b1 b2 x r k) :
    Calls Try.prog 29 #[.int .i64 a, .pointer (some ⟨b0, 0, none⟩), .pointer (some ⟨b1, 0, none⟩), .pointer (some ⟨b2, 0, none⟩)] w fun e w' => e = .returned (.bool (payR r a k x)) ∧ Below w.heap.size w w' := by
  have c0 := H.c0
  have c1 := H.c1
  have c2 := H.c2
  have HP := hide (pays_any x r a k x0 x1 r0 r1 k0 k1 a0 a1)
  clear H
  generalize payR r a k x = P at *
  go_enter Try.func29, Try.ntmps29
  go_wp2_with fail
  refine (unhide HP _).mono ?_
  rintro e w1 ⟨rfl, hb⟩
  go_wp2_with fail
  go_ret
  exact ⟨rfl, hb⟩
set_option maxHeartbeats 1000000 in
theorem least_any (x r T n : Int) (k : Nat) (x0 : 0 ≤ x) (x1 : x ≤ 10000000000000) (r0 : 0 ≤ r) (r1 : r ≤ 1000000000000) (k0 : 0 < k) (k1 : k ≤ 600) (T1 : T ≤ 20000000000000) (hn : IsLev (fun y => qI y r) k x n) (hT : n ≤ T) (b0 b1 b2 : Nat) (w : World) (H : Box3 w b0 b1 b2 x r k) :
    Calls Try.prog 28 #[.int .i64 T, .func (.func 29) #[] #[.pointer (some ⟨b0, 0, none⟩), .pointer (some ⟨b1, 0, none⟩), .pointer (some ⟨b2, 0, none⟩)]] w fun e w' => e = .returned (.int .i64 n) ∧ Below w.heap.size w w' := by
  have HS : Hid (∀ a, 0 ≤ a → a ≤ 20000000000000 → ∀ w, Box3 w b0 b1 b2 x r k → Calls Try.prog 29 #[.int .i64 a, .pointer (some ⟨b0, 0, none⟩), .pointer (some ⟨b1, 0, none⟩), .pointer (some ⟨b2, 0, none⟩)] w fun e w' => e = .returned (.bool (payR r a k x)) ∧ Below w.heap.size w w') := hide (fun a a0 a1 w h => seek_any x r a k x0 x1 r0 r1 k0 k1 a0 a1 b0 b1 b2 w h)
  have n0 := hn.pos
  have HU : Hid (∀ a, 0 ≤ a → payR r a k x = true → n ≤ a) := hide (fun a h0 h => hn.le h0 h)
  have HD : Hid (∀ a, payR r a k x = false → a < n) := hide (fun a h => by
    by_cases c : a < n
    · exact c
    · have : payR r a k x = true := pay_amount (qI_int2.bears r r0 r1) (Int.not_lt.1 c) hn.pays
      rw [this] at h
      cases h)
  replace H := hide H
  clear hn
  go_enter Try.func28, Try.ntmps28
  go_wp2_with fail
  go_loopw [5, 0] (fun l t wr => ∃ lo hi : Int, l = .int .i64 lo ∧ t = .int .i64 hi ∧ 0 ≤ lo ∧ lo ≤ n ∧ n ≤ hi ∧ hi ≤ 20000000000000 ∧ Hid (Box3 wr b0 b1 b2 x r k) ∧ Hid (Below w.heap.size w wr)) (fun l t _ => (intOf t - intOf l).toNat)
  case atStart => exact ⟨0, T, rfl, rfl, by omega, n0, hT, T1, H, hide (Below.refl _ _)⟩
  case round =>
    clear H
    obtain ⟨lo, hi, rfl, rfl, l0, l1, h0, h1, H, HB⟩ := hrel
    by_cases hlt : lo < hi
    · have m0 : 0 ≤ lo + (hi - lo) / 2 := by omega
      have m1 : lo + (hi - lo) / 2 ≤ 20000000000000 := by omega
      have HC := hide (unhide HS _ m0 m1 _ (unhide H))
      have HU1 := hide (unhide HU _ m0)
      have HD1 := hide (unhide HD (lo + (hi - lo) / 2))
      cases hP : payR r (lo + (hi - lo) / 2) k x with
      | true =>
        rw [hP] at HC
        have u := unhide HU1 hP
        clear HU1 HD1 hP
        go_wp2_with fail
        refine (unhide HC).mono ?_
        rintro e w1 ⟨rfl, hb⟩
        replace HB := hide (below_via (unhide HB) hb)
        replace H := hide ((unhide H).keep hb)
        clear hb HC
        go_wp2_with fail
        go_roundw
        case rel => exact ⟨lo, lo + (hi - lo) / 2, rfl, rfl, l0, l1, u, m1, H, HB⟩
        case measure => simp [intOf]; omega
      | false =>
        rw [hP] at HC
        have u := unhide HD1 hP
        clear HU1 HD1 hP
        go_wp2_with fail
        refine (unhide HC).mono ?_
        rintro e w1 ⟨rfl, hb⟩
        replace HB := hide (below_via (unhide HB) hb)
        replace H := hide ((unhide H).keep hb)
        clear hb HC
        go_wp2_with fail
        go_roundw
        case rel => exact ⟨lo + (hi - lo) / 2 + 1, hi, rfl, rfl, by omega, by omega, h0, h1, H, HB⟩
        case measure => simp [intOf]; omega
    · have e : lo = n := by omega
      go_wp2_with fail
      go_ret
      exact ⟨rfl, unhide HB⟩
def bearB (r : Int) : Bool := decide (0 ≤ r) && decide (r ≤ 1000000000000)
def lastB (k : Int) : Bool := decide (1 ≤ k) && decide (k ≤ 600)
theorem bears_any (r : Int) (w : World) : Calls Try.prog 26 #[.int .i64 r] w fun e w' => e = .returned (.bool (bearB r)) ∧ w = w' := by
  by_cases h1 : 0 ≤ r
  · by_cases h2 : r ≤ 1000000000000
    · have e : bearB r = true := by unfold bearB; rw [decide_eq_true h1, decide_eq_true h2]; rfl
      rw [e]
      have t1 := decide_eq_true h1
      have t2 := decide_eq_true h2
      go_enter Try.func26, Try.ntmps26
      go_wp2_with fail
      go_ret
      exact ⟨rfl, rfl⟩
    · have e : bearB r = false := by unfold bearB; rw [decide_eq_true h1, decide_eq_false h2]; rfl
      rw [e]
      have t1 := decide_eq_true h1
      have t2 := decide_eq_false h2
      go_enter Try.func26, Try.ntmps26
      go_wp2_with fail
      go_ret
      exact ⟨rfl, rfl⟩
  · have e : bearB r = false := by unfold bearB; rw [decide_eq_false h1]; rfl
    rw [e]
    have t1 := decide_eq_false h1
    go_enter Try.func26, Try.ntmps26
    go_wp2_with fail
    go_ret
    exact ⟨rfl, rfl⟩
theorem lasts_any (k : Int) (w : World) : Calls Try.prog 25 #[.int .i64 k] w fun e w' => e = .returned (.bool (lastB k)) ∧ w = w' := by
  by_cases h1 : 1 ≤ k
  · by_cases h2 : k ≤ 600
    · have e : lastB k = true := by unfold lastB; rw [decide_eq_true h1, decide_eq_true h2]; rfl
      rw [e]
      have t1 := decide_eq_true h1
      have t2 := decide_eq_true h2
      go_enter Try.func25, Try.ntmps25
      go_wp2_with fail
      go_ret
      exact ⟨rfl, rfl⟩
    · have e : lastB k = false := by unfold lastB; rw [decide_eq_true h1, decide_eq_false h2]; rfl
      rw [e]
      have t1 := decide_eq_true h1
      have t2 := decide_eq_false h2
      go_enter Try.func25, Try.ntmps25
      go_wp2_with fail
      go_ret
      exact ⟨rfl, rfl⟩
  · have e : lastB k = false := by unfold lastB; rw [decide_eq_false h1]; rfl
    rw [e]
    have t1 := decide_eq_false h1
    go_enter Try.func25, Try.ntmps25
    go_wp2_with fail
    go_ret
    exact ⟨rfl, rfl⟩
/-- What a call of Level answers: 17 the program's, 18 the document's. -/
def LevelA (f : Nat) (x r k v e : Int) : Prop := ∀ w : World, Calls Try.prog f #[.int .i64 x, .int .i64 r, .int .i64 k] w fun z w' => z = .returned (.tuple #[.int .i64 v, .int .i64 e]) ∧ Below w.heap.size w w'
def LevelOk (x r k : Int) : Prop := 0 ≤ x ∧ x ≤ 10000000000000 ∧ bearB r = true ∧ lastB k = true
theorem bearB_bd {r : Int} (h : bearB r = true) : 0 ≤ r ∧ r ≤ 1000000000000 := by simpa [bearB] using h
theorem lastB_bd {k : Int} (h : lastB k = true) : 1 ≤ k ∧ k ≤ 600 := by simpa [lastB] using h
theorem cell_new (w : World) (v : Value) (T : TypeId) : (w.alloc (.cells #[v] T)).cell? ⟨w.heap.size, 0, none⟩ = some v := by
  rw [cell_of_row _ _ _ _ _ _ (heap_alloc_new w _)]; rfl
theorem cell_old {w : World} {b o : Nat} {v : Value} (h : w.cell? ⟨b, o, none⟩ = some v) (x : Obj) : (w.alloc x).cell? ⟨b, o, none⟩ = some v :=
  (((Below.refl w.heap.size w).alloc (Nat.le_refl _) x).cell (p := ⟨b, o, none⟩) (lt_of_cell h)).trans h
/-- Where the boxes lie behind Level's own. -/
theorem box3_new (w : World) (x r k : Int) : Box3 (((w.alloc (.cells #[.int .i64 x] 2)).alloc (.cells #[.int .i64 r] 2)).alloc (.cells #[.int .i64 k] 3)) w.heap.size (w.heap.size + 1) (w.heap.size + 1 + 1) x r k := by
  refine ⟨cell_old (cell_old (cell_new _ _ _) _) _, ?_, ?_⟩
  · have h := cell_new (w.alloc (.cells #[.int .i64 x] 2)) (.int .i64 r) 2
    rw [show (w.alloc (.cells #[.int .i64 x] 2)).heap.size = w.heap.size + 1 from by simp] at h
    exact cell_old h _
  · have h := cell_new ((w.alloc (.cells #[.int .i64 x] 2)).alloc (.cells #[.int .i64 r] 2)) (.int .i64 k) 3
    rw [show ((w.alloc (.cells #[.int .i64 x] 2)).alloc (.cells #[.int .i64 r] 2)).heap.size = w.heap.size + 1 + 1 from by simp] at h
    exact h
theorem below3 (w : World) (o p q : Obj) : Below w.heap.size w (((w.alloc o).alloc p).alloc q) := (((Below.refl _ _).alloc (Nat.le_refl _) _).alloc (by simp) _).alloc (by simp; omega) _
theorem bears_yes {r : Int} (h : bearB r = true) (w : World) : Calls Try.prog 26 #[.int .i64 r] w fun e w' => e = .returned (.bool true) ∧ w = w' := by
  have := bears_any r w
  rwa [h] at this
theorem bears_no {r : Int} (h : bearB r = false) (w : World) : Calls Try.prog 26 #[.int .i64 r] w fun e w' => e = .returned (.bool false) ∧ w = w' := by
  have := bears_any r w
  rwa [h] at this
theorem lasts_yes {k : Int} (h : lastB k = true) (w : World) : Calls Try.prog 25 #[.int .i64 k] w fun e w' => e = .returned (.bool true) ∧ w = w' := by
  have := lasts_any k w
  rwa [h] at this
theorem lasts_no {k : Int} (h : lastB k = false) (w : World) : Calls Try.prog 25 #[.int .i64 k] w fun e w' => e = .returned (.bool false) ∧ w = w' := by
  have := lasts_any k w
  rwa [h] at this
theorem level_lo (x r k : Int) (t1 : decide (x < 0) = true) : LevelA 17 x r k 0 2 := by
  intro w
  go_enter Try.func17, Try.ntmps17
  go_wp2_with fail
  go_ret2
  exact ⟨rfl, below3 _ _ _ _⟩
theorem level_hi (x r k : Int) (t1 : decide (x < 0) = false) (t2 : decide (10000000000000 < x) = true) : LevelA 17 x r k 0 2 := by
  intro w
  go_enter Try.func17, Try.ntmps17
  go_wp2_with fail
  go_ret2
  exact ⟨rfl, below3 _ _ _ _⟩
theorem level_rate (x r k : Int) (t1 : decide (x < 0) = false) (t2 : decide (10000000000000 < x) = false) (hr : bearB r = false) : LevelA 17 x r k 0 2 := by
  intro w
  have HR := hide (bears_no hr)
  clear hr
  go_enter Try.func17, Try.ntmps17
  go_wp2_with fail
  refine (unhide HR _).mono ?_
  rintro e w1 ⟨rfl, rfl⟩
  go_wp2_with fail
  go_ret2
  exact ⟨rfl, below3 _ _ _ _⟩
theorem level_long (x r k : Int) (t1 : decide (x < 0) = false) (t2 : decide (10000000000000 < x) = false) (hr : bearB r = true) (hk : lastB k = false) : LevelA 17 x r k 0 2 := by
  intro w
  have HR := hide (bears_yes hr)
  have HK := hide (lasts_no hk)
  clear hr hk
  go_enter Try.func17, Try.ntmps17
  go_wp2_with fail
  refine (unhide HR _).mono ?_
  rintro e w1 ⟨rfl, rfl⟩
  go_wp2_with fail
  refine (unhide HK _).mono ?_
  rintro e w1 ⟨rfl, rfl⟩
  go_wp2_with fail
  go_ret2
  exact ⟨rfl, below3 _ _ _ _⟩
/-- The level payment at a rate. -/
def lvlR (r : Int) (k : Nat) (x : Int) : Int := lvl (fun y => qI y r) k x
theorem lvlR_is {x r : Int} {k : Nat} (x0 : 0 ≤ x) (x1 : x ≤ 10000000000000) (r0 : 0 ≤ r) (r1 : r ≤ 1000000000000) (k0 : 0 < k) : IsLev (fun y => qI y r) k x (lvlR r k x) := lvl_is (qI_int2.bears r r0 r1) k0 x0 x1
theorem lvlR_bd {x r : Int} {k : Nat} (x0 : 0 ≤ x) (x1 : x ≤ 10000000000000) (r0 : 0 ≤ r) (r1 : r ≤ 1000000000000) (k0 : 0 < k) : 0 ≤ lvlR r k x ∧ lvlR r k x ≤ x + qI x r := lvl_bd (qI_int2.bears r r0 r1) k0 x0 x1
theorem kept1 {W w1 : World} {b : Nat} {v : Value} (hb : Below W.heap.size W w1) (h : W.cell? ⟨b, 0, none⟩ = some v) : w1.cell? ⟨b, 0, none⟩ = some v := (hb.cell (p := ⟨b, 0, none⟩) (lt_of_cell h)).trans h
set_option maxHeartbeats 1000000 in
theorem level_ok (x r : Int) (k : Nat) (x0 : 0 ≤ x) (x1 : x ≤ 10000000000000) (hr : bearB r = true) (hk : lastB k = true) : LevelA 17 x r k (lvlR r k x) 0 := by
  intro w
  obtain ⟨r0, r1⟩ := bearB_bd hr
  obtain ⟨k0, k1⟩ := lastB_bd hk
  have HR := hide (bears_yes hr)
  have HK := hide (lasts_yes hk)
  have hI := hide (int1_any x0 (by omega) r0 r1)
  obtain ⟨q0, q1⟩ := qI_bd x0 r0 r1
  have HL := hide (least_any x r (x + qI x r) (lvlR r k x) k x0 x1 r0 r1 (by omega) (by omega) (by omega) (lvlR_is x0 x1 r0 r1 (by omega)) (lvlR_bd x0 x1 r0 r1 (by omega)).2)
  have t1 : decide (x < 0) = false := decide_eq_false (by omega)
  have t2 : decide (10000000000000 < x) = false := decide_eq_false (by omega)
  have HB3 := hide (box3_new w x r k)
  have HB := hide (below3 w (.cells #[.int .i64 x] 2) (.cells #[.int .i64 r] 2) (.cells #[.int .i64 k] 3))
  unfold Int1 at hI
  generalize qI x r = q at *
  generalize lvlR r k x = v at *
  have hw : IntKind.i64.wrap (x + q) = x + q := by
    rw [IntKind.wrap_i64]; omega
  clear hr hk
  go_enter Try.func17, Try.ntmps17
  go_wp2_with fail
  refine (unhide HR _).mono ?_
  rintro e w1 ⟨rfl, rfl⟩
  go_wp2_with fail
  refine (unhide HK _).mono ?_
  rintro e w1 ⟨rfl, rfl⟩
  generalize ((w.alloc (.cells #[.int .i64 x] 2)).alloc (.cells #[.int .i64 r] 2)).alloc (.cells #[.int .i64 k] 3) = W at *
  have c0 := (unhide HB3).c0
  have c1 := (unhide HB3).c1
  have c2 := (unhide HB3).c2
  go_wp2_with fail
  go_region_held3 (fun w' => w'.cell? ⟨w.heap.size, 0, none⟩ = some (.int .i64 x) ∧ w'.cell? ⟨w.heap.size + 1, 0, none⟩ = some (.int .i64 r) ∧ Hid (Box3 w' w.heap.size (w.heap.size + 1) (w.heap.size + 1 + 1) x r k) ∧ Hid (Below w.heap.size w w'))
    (first
      | exact ⟨kept1 hb c0, kept1 hb c1, hide ((unhide HB3).drew.keep hb), hide (below_via (below_drew (unhide HB)) hb)⟩
      | exact ⟨c0, c1, HB3, HB⟩
      | exact ⟨c0, c1, hide (unhide HB3).drew, hide (below_drew (unhide HB))⟩)
    ((go_at_call 27; refine (unhide hI _).mono ?_; rintro e w1 ⟨rfl, hb⟩))
  rename_i hH
  have H3 := hide (unhide hH.2.2.1)
  have HB5 := hide (unhide hH.2.2.2)
  clear hH hb c0 c1 c2 HB HB3
  go_wp2_with fail
  refine (unhide HL _ _ _ _ (unhide H3)).mono ?_
  rintro e w2 ⟨rfl, hb⟩
  replace HB5 := hide (below_via (unhide HB5) hb)
  clear hb
  go_wp2_with fail
  go_ret2
  exact ⟨rfl, unhide HB5⟩
end Go.Proofs.Ytgnhnffmojjncaa.Mn
