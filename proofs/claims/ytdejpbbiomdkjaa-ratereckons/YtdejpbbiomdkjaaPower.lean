/- What rate's Power and Part answer. -/
import Derived.Test.YtdejpbbiomdkjaaRate
namespace Go.Proofs.Ytdejpbbiomdkjaa
open Go.RowKit
set_option linter.unusedSimpArgs false
def pwNext (r : Int) : Option Int → Option Int
  | none => none
  | some x => if turn (qG x r) = 0 then some (qG x r) else none
def pw (r : Int) : Nat → Option Int
  | 0 => some 1000000000000
  | n + 1 => pwNext r (pw r n)
def pN : Option Int → Int
  | none => 0
  | some x => x
def pE : Option Int → Int
  | none => 3
  | some _ => 0
theorem pw_none {r : Int} {k : Nat} (h : pw r k = none) (m : Nat) : pw r (k + m) = none := by
  induction m with
  | zero => exact h
  | succ m ih => show pwNext r (pw r (k + m)) = none; rw [ih]; rfl
theorem pw_in {r : Int} {k : Nat} {x : Int} (h : pw r k = some x) : In64 x := by
  cases k with
  | zero => cases h; exact ⟨by omega, by omega⟩
  | succ k =>
    change pwNext r (pw r k) = some x at h
    cases hp : pw r k with
    | none => rw [hp] at h; cases h
    | some y =>
      rw [hp] at h
      unfold pwNext at h
      simp only at h
      split at h
      · rename_i ht
        cases h
        exact in_of_turn ht
      · cases h
theorem pw_next {r : Int} {k : Nat} {x : Int} (h : pw r k = some x) : pw r (k + 1) = if turn (qG x r) = 0 then some (qG x r) else none := by
  show pwNext r (pw r k) = _
  rw [h]
  rfl
/-- Power answers. -/
def Pows (r n a e : Int) : Prop := ∀ w : World, Calls Try.prog 18 #[.int .i64 r, .int .i64 n] w fun z w' => z = .returned (.tuple #[.int .i64 a, .int .i64 e]) ∧ Below w.heap.size w w'
theorem power_no (r n : Int) (h : ¬ May r) : Pows r n 0 2 := by
  intro w
  have hm := hide (may_no h)
  go_enter Try.func18, Try.ntmps18
  go_wp2_with fail
  refine (unhide hm _).mono ?_
  rintro e w1 ⟨rfl, rfl⟩
  go_wp2_with fail
  go_ret2
  exact ⟨rfl, Below.refl _ _⟩
set_option maxHeartbeats 800000 in
theorem power_yes (r : Int) (n : Nat) (hn : n ≤ 600) (h : May r) : Pows r n (pN (pw r n)) (pE (pw r n)) := by
  intro w
  have hm := hide (may_yes h)
  have hg := hide (fun (x : Int) (hx : In64 x) => grow_ok hx h)
  have Hnext := hide (fun (k : Nat) (x : Int) => pw_next (r := r) (k := k) (x := x))
  have d1 : decide ((n : Int) < 0) = false := decide_eq_false (by omega)
  have d2 : decide (600 < (n : Int)) = false := decide_eq_false (by omega)
  go_enter Try.func18, Try.ntmps18
  go_wp2_with fail
  refine (unhide hm _).mono ?_
  rintro e w1 ⟨rfl, rfl⟩
  go_wp2_with fail
  go_loopw [6, 21] (fun a i wr => ∃ (k : Nat) (x : Int), k ≤ n ∧ i = .int .i64 k ∧ a = .int .i64 x ∧ Hid (pw r k = some x) ∧ Hid (Below w.heap.size w wr)) (fun _ i _ => n - (intOf i).toNat)
  case atStart => exact ⟨0, _, by omega, rfl, rfl, hide rfl, hide (Below.refl _ _)⟩
  case round =>
    obtain ⟨k, x, hk, rfl, rfl, HP, HB⟩ := hrel
    by_cases hlt : k < n
    · have hlt' : decide ((k : Int) < (n : Int)) = true := decide_eq_true (by omega)
      have hG := unhide hg x (pw_in (unhide HP))
      have hN := unhide Hnext k x (unhide HP)
      by_cases ht : turn (qG x r) = 0
      · rw [okN_in ht, okE_in ht] at hG
        rw [if_pos ht] at hN
        replace hG := hide hG
        replace hN := hide hN
        clear ht
        generalize qG x r = y at *
        go_wp2_with fail
        refine (unhide hG _).mono ?_
        rintro e w2 ⟨rfl, hb⟩
        replace hb := hide hb
        go_wp2_with fail
        go_roundw
        case rel => exact ⟨k + 1, y, by omega, by go_num, rfl, hN, hide (below_via (unhide HB) (unhide hb))⟩
        case measure => simp [intOf]; omega
      · rw [okN_out ht, okE_out ht] at hG
        rw [if_neg ht] at hN
        have hnone : pw r n = none := by
          have := pw_none hN (n - (k + 1))
          rwa [show k + 1 + (n - (k + 1)) = n from by omega] at this
        replace hG := hide hG
        replace hnone := hide hnone
        clear ht hN
        go_wp2_with fail
        refine (unhide hG _).mono ?_
        rintro e w2 ⟨rfl, hb⟩
        replace hb := hide hb
        go_wp2_with fail
        rw [unhide hnone]
        go_ret2
        exact ⟨rfl, below_via (unhide HB) (unhide hb)⟩
    · have hk2 : k = n := by omega
      subst hk2
      have hlt' : decide ((k : Int) < (k : Int)) = false := decide_eq_false (by omega)
      go_wp2_with fail
      rw [unhide HP]
      go_ret2
      exact ⟨rfl, unhide HB⟩
/-- Part answers. -/
def Parts (r o l a e : Int) : Prop := ∀ w : World, Calls Try.prog 20 #[.int .i64 r, .int .i64 o, .int .i64 l] w fun z w' => z = .returned (.tuple #[.int .i64 a, .int .i64 e]) ∧ Below w.heap.size w w'
theorem part_yes (r o l : Int) (hr : In64 r) (ho : In64 o) (hl : In64 l) (h0 : 0 ≤ o) (h1 : 0 < l) : Parts r o l (okN (near (r * o) l)) (okE (near (r * o) l)) := by
  intro w
  have hd := hide (md_near r o l hr ho hl h1)
  have d1 : decide (o < 0) = false := decide_eq_false (by omega)
  have d2 : decide (l ≤ 0) = false := decide_eq_false (by omega)
  generalize near (r * o) l = q at *
  go_enter Try.func20, Try.ntmps20
  go_wp2_with fail
  refine (unhide hd _).mono ?_
  rintro e w1 ⟨rfl, hb⟩
  go_wp2_with fail
  go_ret2
  exact ⟨rfl, hb⟩
end Go.Proofs.Ytdejpbbiomdkjaa
