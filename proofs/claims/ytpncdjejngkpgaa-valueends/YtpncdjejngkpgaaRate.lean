/- What rate's functions answer. -/
import Derived.Test.YtpncdjejngkpgaaNear
import Derived.Handy
namespace Go.Proofs.Ytpncdjejngkpgaa
open Go.RowKit
set_option linter.unusedSimpArgs false
def May (r : Int) : Prop := -990000000000 ≤ r ∧ r ≤ 10000000000000
def mayB (r : Int) : Bool := decide (-990000000000 ≤ r) && decide (r ≤ 10000000000000)
theorem mayB_yes {r : Int} (h : May r) : mayB r = true := by
  unfold mayB
  rw [decide_eq_true h.1, decide_eq_true h.2]; rfl
theorem mayB_no {r : Int} (h : ¬ May r) : mayB r = false := by
  unfold mayB
  by_cases h1 : -990000000000 ≤ r
  · by_cases h2 : r ≤ 10000000000000
    · exact absurd ⟨h1, h2⟩ h
    · rw [decide_eq_true h1, decide_eq_false h2]; rfl
  · rw [decide_eq_false h1]; rfl
theorem may_any (r : Int) (w : World) : Calls Try.prog 36 #[.int .i64 r] w fun e w' => e = .returned (.bool (mayB r)) ∧ w = w' := by
  by_cases h1 : -990000000000 ≤ r
  · by_cases h2 : r ≤ 10000000000000
    · have hm : mayB r = true := mayB_yes ⟨h1, h2⟩
      have t1 := decide_eq_true h1
      have t2 := decide_eq_true h2
      rw [hm]
      go_enter Try.func36, Try.ntmps36
      go_wp2_with fail
      go_ret
      exact ⟨rfl, rfl⟩
    · have hm : mayB r = false := mayB_no (fun h => h2 h.2)
      have t1 := decide_eq_true h1
      have t2 := decide_eq_false h2
      rw [hm]
      go_enter Try.func36, Try.ntmps36
      go_wp2_with fail
      go_ret
      exact ⟨rfl, rfl⟩
  · have hm : mayB r = false := mayB_no (fun h => h1 h.1)
    have t1 := decide_eq_false h1
    rw [hm]
    go_enter Try.func36, Try.ntmps36
    go_wp2_with fail
    go_ret
    exact ⟨rfl, rfl⟩
theorem may_yes {r : Int} (h : May r) (w : World) : Calls Try.prog 36 #[.int .i64 r] w fun e w' => e = .returned (.bool true) ∧ w = w' := by
  have := may_any r w
  rwa [mayB_yes h] at this
theorem may_no {r : Int} (h : ¬ May r) (w : World) : Calls Try.prog 36 #[.int .i64 r] w fun e w' => e = .returned (.bool false) ∧ w = w' := by
  have := may_any r w
  rwa [mayB_no h] at this
theorem md_near (a b c : Int) (ha : In64 a) (hb : In64 b) (hc : In64 c) (h0 : 0 < c) (w : World) : Calls Try.prog 37 #[.int .i64 a, .int .i64 b, .int .i64 c, .int .i64 1] w fun e w' => e = .returned (.tuple #[.int .i64 (okN (near (a * b) c)), .int .i64 (okE (near (a * b) c))]) ∧ Below w.heap.size w w' := by
  have := muldiv_near a b c ha hb hc (by omega) w
  rwa [quot1_near h0] at this
theorem may64 {r : Int} (h : May r) : In64 r := ⟨by have := h.1; omega, by have := h.2; omega⟩
/-- What a call answers: a number and an error. -/
def Ans (f : Nat) (x r n e : Int) : Prop := ∀ w : World, Calls Try.prog f #[.int .i64 x, .int .i64 r] w fun z w' => z = .returned (.tuple #[.int .i64 n, .int .i64 e]) ∧ Below w.heap.size w w'
theorem earlier_any (r : Int) (h : May r) (w : World) : Calls Try.prog 82 #[.agg #[], .int .i64 r] w fun e w' => e = .returned (.tuple #[.int .i64 (1000000000000), .int .i64 (1000000000000 + r)]) ∧ Below w.heap.size w w' := by
  have hw : wrap64 (1000000000000 + r) = 1000000000000 + r := wrap_in ⟨by have := h.1; omega, by have := h.2; omega⟩
  go_enter Try.func82, Try.ntmps82
  go_wp2_with fail
  go_ret2
  exact ⟨by rw [hw]; rfl, (Below.refl _ _).alloc (Nat.le_refl _) _⟩
theorem earlier_no (x r : Int) (h : ¬ May r) : Ans 25 x r 0 2 := by
  intro w
  have hm := hide (may_no h)
  go_enter Try.func25, Try.ntmps25
  go_wp2_with fail
  refine (unhide hm _).mono ?_
  rintro e w1 ⟨rfl, rfl⟩
  go_wp2_with fail
  go_ret2
  exact ⟨rfl, Below.refl _ _⟩
theorem earlier_yes (x r : Int) (hx : In64 x) (h : May r) : Ans 25 x r (okN (near (x * (1000000000000)) (1000000000000 + r))) (okE (near (x * (1000000000000)) (1000000000000 + r))) := by
  intro w
  have hm := hide (may_yes h)
  have hl := hide (earlier_any r h)
  have hd := hide (md_near x (1000000000000) (1000000000000 + r) hx ⟨by have := h.1; omega, by have := h.2; omega⟩ ⟨by have := h.1; omega, by have := h.2; omega⟩ (by have := h.1; omega))
  go_enter Try.func25, Try.ntmps25
  go_wp2_with fail
  refine (unhide hm _).mono ?_
  rintro e w1 ⟨rfl, rfl⟩
  go_wp2_with fail
  refine (unhide hl _).mono ?_
  rintro e w2 ⟨rfl, hb⟩
  replace hb := hide hb
  go_wp2_with fail
  refine (unhide hd _).mono ?_
  rintro e w3 ⟨rfl, hb3⟩
  go_wp2_with fail
  go_ret2
  exact ⟨rfl, below_via (below_via ((Below.refl _ _).alloc (Nat.le_refl _) _) (unhide hb)) hb3⟩
theorem discount_of {x r n e : Int} (H : Ans 25 x r n e) : Ans 18 x r n e := by
  intro w
  replace H := hide H
  go_enter Try.func18, Try.ntmps18
  go_wp2_with fail
  refine (unhide H _).mono ?_
  rintro e w1 ⟨rfl, hb⟩
  go_wp2_with fail
  go_ret2
  exact ⟨rfl, hb⟩
def qD (x r : Int) : Int := near (x * 1000000000000) (1000000000000 + r)
theorem discount_ok {x r : Int} (hx : In64 x) (h : May r) : Ans 18 x r (okN (qD x r)) (okE (qD x r)) := discount_of (earlier_yes x r hx h)
theorem discount_no {x r : Int} (h : ¬ May r) : Ans 18 x r 0 2 := discount_of (earlier_no x r h)
theorem in_ok {f : Nat} {x r q : Int} (h : Ans f x r (okN q) (okE q)) (hq : In64 q) : Ans f x r q 0 := by
  rwa [okN_in (turn_in hq), okE_in (turn_in hq)] at h
end Go.Proofs.Ytpncdjejngkpgaa
