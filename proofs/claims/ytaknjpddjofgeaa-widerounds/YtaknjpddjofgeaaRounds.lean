/- Proved here: WideRounds: at any three numbers of 64 bits what is rounded to the nearer one is the one downwards, or one more; downwards it is the greatest one whose product is no greater. No condition. -/
import Derived.Test.YtaknjpddjofgeaaAlive
import Derived.ProofKit
import Derived.OpenShut
import Derived.ShutString
import Derived.ChangeOld
import Derived.Below
namespace Go.Proofs.Ytaknjpddjofgeaa.wideRounds
open Go.ChangeShapes Go.WideShapes Go.ChangeAt Go.RowKit
/-- What MulDiv answers, at one way. -/
def Says (a b c way n e : Int) : Prop := ∀ w : World, Calls Try.prog 22 #[.int .i64 a, .int .i64 b, .int .i64 c, .int .i64 way] w fun x w' => x = .returned (.tuple #[.int .i64 n, .int .i64 e]) ∧ Below w.heap.size w w'
def Good (a b c : Int) (w : World) : Prop := Calls Try.prog 5 #[.int .i64 a, .int .i64 b, .int .i64 c] w fun e w' => e = .returned (.bool true) ∧ Below w.heap.size w w'
set_option maxHeartbeats 400000 in
theorem walk_zero (a b : Int) (w : World) (hN : Hid (Says a b 0 1 0 4)) (hF : Hid (Says a b 0 0 0 4)) : Good a b 0 w := by
  unfold Good
  go_enter Try.func5, Try.ntmps5
  go_wp2_with fail
  refine (alive_any _).mono ?_
  rintro e w1 ⟨rfl, hb1⟩
  replace hb1 := hide hb1
  go_wp2_with fail
  refine (unhide hN _).mono ?_
  rintro e w2 ⟨rfl, hb2⟩
  replace hb2 := hide (below_via (unhide hb1) hb2)
  clear hb1
  go_wp2_with fail
  refine (unhide hF _).mono ?_
  rintro e w3 ⟨rfl, hb3⟩
  replace hb3 := hide (below_via (unhide hb2) hb3)
  clear hb2
  go_wp2_with fail
  go_ret
  exact ⟨rfl, unhide hb3⟩
set_option maxHeartbeats 1000000 in
theorem walk_err (a b c n f e g : Int) (hc : ¬ c = 0) (h : e = 3 ∧ g = 0 ∨ e = 0 ∧ g = 3 ∨ e = 3 ∧ g = 3) (w : World) (hN : Hid (Says a b c 1 n e)) (hF : Hid (Says a b c 0 f g)) : Good a b c w := by
  unfold Good
  rcases h with ⟨rfl, rfl⟩ | ⟨rfl, rfl⟩ | ⟨rfl, rfl⟩
  · go_enter Try.func5, Try.ntmps5
    go_wp2_with fail
    refine (alive_any _).mono ?_
    rintro e w1 ⟨rfl, hb1⟩
    replace hb1 := hide hb1
    go_wp2_with fail
    refine (unhide hN _).mono ?_
    rintro e w2 ⟨rfl, hb2⟩
    replace hb2 := hide (below_via (unhide hb1) hb2)
    clear hb1
    go_wp2_with fail
    refine (unhide hF _).mono ?_
    rintro e w3 ⟨rfl, hb3⟩
    replace hb3 := hide (below_via (unhide hb2) hb3)
    clear hb2
    go_wp2_with fail
    go_ret
    exact ⟨rfl, unhide hb3⟩
  · go_enter Try.func5, Try.ntmps5
    go_wp2_with fail
    refine (alive_any _).mono ?_
    rintro e w1 ⟨rfl, hb1⟩
    replace hb1 := hide hb1
    go_wp2_with fail
    refine (unhide hN _).mono ?_
    rintro e w2 ⟨rfl, hb2⟩
    replace hb2 := hide (below_via (unhide hb1) hb2)
    clear hb1
    go_wp2_with fail
    refine (unhide hF _).mono ?_
    rintro e w3 ⟨rfl, hb3⟩
    replace hb3 := hide (below_via (unhide hb2) hb3)
    clear hb2
    go_wp2_with fail
    go_ret
    exact ⟨rfl, unhide hb3⟩
  · go_enter Try.func5, Try.ntmps5
    go_wp2_with fail
    refine (alive_any _).mono ?_
    rintro e w1 ⟨rfl, hb1⟩
    replace hb1 := hide hb1
    go_wp2_with fail
    refine (unhide hN _).mono ?_
    rintro e w2 ⟨rfl, hb2⟩
    replace hb2 := hide (below_via (unhide hb1) hb2)
    clear hb1
    go_wp2_with fail
    refine (unhide hF _).mono ?_
    rintro e w3 ⟨rfl, hb3⟩
    replace hb3 := hide (below_via (unhide hb2) hb3)
    clear hb2
    go_wp2_with fail
    go_ret
    exact ⟨rfl, unhide hb3⟩
def MulAt (a b X : Int) : Prop := ∀ w : World, Calls Try.prog 16 #[.int .i64 a, .int .i64 b] w fun e w' => e = .returned (.agg #[.int .i64 (hi X), .int .u64 (lo X)]) ∧ Below w.heap.size w w'
def CmpAt (X Y o : Int) : Prop := ∀ w : World, Calls Try.prog 14 #[.agg #[.int .i64 (hi X), .int .u64 (lo X)], .agg #[.int .i64 (hi Y), .int .u64 (lo Y)]] w fun e w' => e = .returned (.int .i64 o) ∧ Below w.heap.size w w'
set_option maxHeartbeats 1000000 in
theorem walk_same (a b c F X Y Z l h : Int) (h1 : -9223372036854775808 ≤ F) (h2 : F < 9223372036854775807) (_hc : ¬ c = 0) (hs : 0 < c ∧ l ≤ 0 ∧ 0 < h ∨ c < 0 ∧ 0 ≤ l ∧ h < 0) (w : World) (hN : Hid (Says a b c 1 F 0)) (hF : Hid (Says a b c 0 F 0))
    (hm1 : Hid (MulAt F c Y)) (hm2 : Hid (MulAt a b X)) (hm3 : Hid (MulAt (F + 1) c Z)) (hcl : Hid (CmpAt Y X l)) (hch : Hid (CmpAt Z X h)) : Good a b c w := by
  unfold Good
  have k1 : (F == F + 1) = false := ne_beq (by omega)
  have k2 : (F + 1 == F) = false := ne_beq (by omega)
  rcases hs with ⟨s1, s2, s3⟩ | ⟨s1, s2, s3⟩
  · go_enter Try.func5, Try.ntmps5
    go_wp2_with fail
    refine (alive_any _).mono ?_
    rintro e w1 ⟨rfl, hb1⟩
    replace hb1 := hide hb1
    go_wp2_with fail
    refine (unhide hN _).mono ?_
    rintro e w2 ⟨rfl, hb2⟩
    replace hb2 := hide (below_via (unhide hb1) hb2)
    clear hb1
    go_wp2_with fail
    refine (unhide hF _).mono ?_
    rintro e w3 ⟨rfl, hb3⟩
    replace hb3 := hide (below_via (unhide hb2) hb3)
    clear hb2
    go_wp2_with fail
    refine (unhide hm1 _).mono ?_
    rintro e w4 ⟨rfl, hb4⟩
    replace hb4 := hide (below_via (unhide hb3) hb4)
    clear hb3
    go_wp2_with fail
    refine (unhide hm2 _).mono ?_
    rintro e w5 ⟨rfl, hb5⟩
    replace hb5 := hide (below_via (unhide hb4) hb5)
    clear hb4
    go_wp2_with fail
    refine (unhide hcl _).mono ?_
    rintro e w6 ⟨rfl, hb6⟩
    replace hb6 := hide (below_via (unhide hb5) hb6)
    clear hb5
    go_wp2_with fail
    refine (unhide hm3 _).mono ?_
    rintro e w7 ⟨rfl, hb7⟩
    replace hb7 := hide (below_via (unhide hb6) hb7)
    clear hb6
    go_wp2_with fail
    refine (unhide hm2 _).mono ?_
    rintro e w8 ⟨rfl, hb8⟩
    replace hb8 := hide (below_via (unhide hb7) hb8)
    clear hb7
    go_wp2_with fail
    refine (unhide hch _).mono ?_
    rintro e w9 ⟨rfl, hb9⟩
    replace hb6 := hide (below_via (unhide hb8) hb9)
    clear hb8 hb9
    go_wp2_with fail
    go_ret
    exact ⟨rfl, unhide hb6⟩
  · have s4 : ¬ 0 < c := by omega
    go_enter Try.func5, Try.ntmps5
    go_wp2_with fail
    refine (alive_any _).mono ?_
    rintro e w1 ⟨rfl, hb1⟩
    replace hb1 := hide hb1
    go_wp2_with fail
    refine (unhide hN _).mono ?_
    rintro e w2 ⟨rfl, hb2⟩
    replace hb2 := hide (below_via (unhide hb1) hb2)
    clear hb1
    go_wp2_with fail
    refine (unhide hF _).mono ?_
    rintro e w3 ⟨rfl, hb3⟩
    replace hb3 := hide (below_via (unhide hb2) hb3)
    clear hb2
    go_wp2_with fail
    refine (unhide hm1 _).mono ?_
    rintro e w4 ⟨rfl, hb4⟩
    replace hb4 := hide (below_via (unhide hb3) hb4)
    clear hb3
    go_wp2_with fail
    refine (unhide hm2 _).mono ?_
    rintro e w5 ⟨rfl, hb5⟩
    replace hb5 := hide (below_via (unhide hb4) hb5)
    clear hb4
    go_wp2_with fail
    refine (unhide hcl _).mono ?_
    rintro e w6 ⟨rfl, hb6⟩
    replace hb6 := hide (below_via (unhide hb5) hb6)
    clear hb5
    go_wp2_with fail
    refine (unhide hm3 _).mono ?_
    rintro e w7 ⟨rfl, hb7⟩
    replace hb7 := hide (below_via (unhide hb6) hb7)
    clear hb6
    go_wp2_with fail
    refine (unhide hm2 _).mono ?_
    rintro e w8 ⟨rfl, hb8⟩
    replace hb8 := hide (below_via (unhide hb7) hb8)
    clear hb7
    go_wp2_with fail
    refine (unhide hch _).mono ?_
    rintro e w9 ⟨rfl, hb9⟩
    replace hb6 := hide (below_via (unhide hb8) hb9)
    clear hb8 hb9
    go_wp2_with fail
    go_ret
    exact ⟨rfl, unhide hb6⟩
set_option maxHeartbeats 1000000 in
theorem walk_more (a b c F X Y Z l h : Int) (h1 : -9223372036854775808 ≤ F) (h2 : F < 9223372036854775807) (_hc : ¬ c = 0) (hs : 0 < c ∧ l ≤ 0 ∧ 0 < h ∨ c < 0 ∧ 0 ≤ l ∧ h < 0) (w : World) (hN : Hid (Says a b c 1 (F + 1) 0)) (hF : Hid (Says a b c 0 F 0))
    (hm1 : Hid (MulAt F c Y)) (hm2 : Hid (MulAt a b X)) (hm3 : Hid (MulAt (F + 1) c Z)) (hcl : Hid (CmpAt Y X l)) (hch : Hid (CmpAt Z X h)) : Good a b c w := by
  unfold Good
  have k1 : (F == F + 1) = false := ne_beq (by omega)
  have k2 : (F + 1 == F) = false := ne_beq (by omega)
  rcases hs with ⟨s1, s2, s3⟩ | ⟨s1, s2, s3⟩
  · go_enter Try.func5, Try.ntmps5
    go_wp2_with fail
    refine (alive_any _).mono ?_
    rintro e w1 ⟨rfl, hb1⟩
    replace hb1 := hide hb1
    go_wp2_with fail
    refine (unhide hN _).mono ?_
    rintro e w2 ⟨rfl, hb2⟩
    replace hb2 := hide (below_via (unhide hb1) hb2)
    clear hb1
    go_wp2_with fail
    refine (unhide hF _).mono ?_
    rintro e w3 ⟨rfl, hb3⟩
    replace hb3 := hide (below_via (unhide hb2) hb3)
    clear hb2
    go_wp2_with fail
    refine (unhide hm1 _).mono ?_
    rintro e w4 ⟨rfl, hb4⟩
    replace hb4 := hide (below_via (unhide hb3) hb4)
    clear hb3
    go_wp2_with fail
    refine (unhide hm2 _).mono ?_
    rintro e w5 ⟨rfl, hb5⟩
    replace hb5 := hide (below_via (unhide hb4) hb5)
    clear hb4
    go_wp2_with fail
    refine (unhide hcl _).mono ?_
    rintro e w6 ⟨rfl, hb6⟩
    replace hb6 := hide (below_via (unhide hb5) hb6)
    clear hb5
    go_wp2_with fail
    refine (unhide hm3 _).mono ?_
    rintro e w7 ⟨rfl, hb7⟩
    replace hb7 := hide (below_via (unhide hb6) hb7)
    clear hb6
    go_wp2_with fail
    refine (unhide hm2 _).mono ?_
    rintro e w8 ⟨rfl, hb8⟩
    replace hb8 := hide (below_via (unhide hb7) hb8)
    clear hb7
    go_wp2_with fail
    refine (unhide hch _).mono ?_
    rintro e w9 ⟨rfl, hb9⟩
    replace hb6 := hide (below_via (unhide hb8) hb9)
    clear hb8 hb9
    go_wp2_with fail
    go_ret
    exact ⟨rfl, unhide hb6⟩
  · have s4 : ¬ 0 < c := by omega
    go_enter Try.func5, Try.ntmps5
    go_wp2_with fail
    refine (alive_any _).mono ?_
    rintro e w1 ⟨rfl, hb1⟩
    replace hb1 := hide hb1
    go_wp2_with fail
    refine (unhide hN _).mono ?_
    rintro e w2 ⟨rfl, hb2⟩
    replace hb2 := hide (below_via (unhide hb1) hb2)
    clear hb1
    go_wp2_with fail
    refine (unhide hF _).mono ?_
    rintro e w3 ⟨rfl, hb3⟩
    replace hb3 := hide (below_via (unhide hb2) hb3)
    clear hb2
    go_wp2_with fail
    refine (unhide hm1 _).mono ?_
    rintro e w4 ⟨rfl, hb4⟩
    replace hb4 := hide (below_via (unhide hb3) hb4)
    clear hb3
    go_wp2_with fail
    refine (unhide hm2 _).mono ?_
    rintro e w5 ⟨rfl, hb5⟩
    replace hb5 := hide (below_via (unhide hb4) hb5)
    clear hb4
    go_wp2_with fail
    refine (unhide hcl _).mono ?_
    rintro e w6 ⟨rfl, hb6⟩
    replace hb6 := hide (below_via (unhide hb5) hb6)
    clear hb5
    go_wp2_with fail
    refine (unhide hm3 _).mono ?_
    rintro e w7 ⟨rfl, hb7⟩
    replace hb7 := hide (below_via (unhide hb6) hb7)
    clear hb6
    go_wp2_with fail
    refine (unhide hm2 _).mono ?_
    rintro e w8 ⟨rfl, hb8⟩
    replace hb8 := hide (below_via (unhide hb7) hb8)
    clear hb7
    go_wp2_with fail
    refine (unhide hch _).mono ?_
    rintro e w9 ⟨rfl, hb9⟩
    replace hb6 := hide (below_via (unhide hb8) hb9)
    clear hb8 hb9
    go_wp2_with fail
    go_ret
    exact ⟨rfl, unhide hb6⟩
set_option maxHeartbeats 1000000 in
theorem walk_top (a b c X Y l : Int) (_hc : ¬ c = 0) (hs : 0 < c ∧ l ≤ 0 ∨ c < 0 ∧ 0 ≤ l) (w : World) (hN : Hid (Says a b c 1 9223372036854775807 0)) (hF : Hid (Says a b c 0 9223372036854775807 0))
    (hm1 : Hid (MulAt 9223372036854775807 c Y)) (hm2 : Hid (MulAt a b X)) (hcl : Hid (CmpAt Y X l)) : Good a b c w := by
  unfold Good
  rcases hs with ⟨s1, s2⟩ | ⟨s1, s2⟩
  · have s5 : ¬ c < 0 := by omega
    go_enter Try.func5, Try.ntmps5
    go_wp2_with fail
    refine (alive_any _).mono ?_
    rintro e w1 ⟨rfl, hb1⟩
    replace hb1 := hide hb1
    go_wp2_with fail
    refine (unhide hN _).mono ?_
    rintro e w2 ⟨rfl, hb2⟩
    replace hb2 := hide (below_via (unhide hb1) hb2)
    clear hb1
    go_wp2_with fail
    refine (unhide hF _).mono ?_
    rintro e w3 ⟨rfl, hb3⟩
    replace hb3 := hide (below_via (unhide hb2) hb3)
    clear hb2
    go_wp2_with fail
    refine (unhide hm1 _).mono ?_
    rintro e w4 ⟨rfl, hb4⟩
    replace hb4 := hide (below_via (unhide hb3) hb4)
    clear hb3
    go_wp2_with fail
    refine (unhide hm2 _).mono ?_
    rintro e w5 ⟨rfl, hb5⟩
    replace hb5 := hide (below_via (unhide hb4) hb5)
    clear hb4
    go_wp2_with fail
    refine (unhide hcl _).mono ?_
    rintro e w6 ⟨rfl, hb6⟩
    replace hb6 := hide (below_via (unhide hb5) hb6)
    clear hb5
    go_wp2_with fail
    go_ret
    exact ⟨rfl, unhide hb6⟩
  · have s4 : ¬ 0 < c := by omega
    go_enter Try.func5, Try.ntmps5
    go_wp2_with fail
    refine (alive_any _).mono ?_
    rintro e w1 ⟨rfl, hb1⟩
    replace hb1 := hide hb1
    go_wp2_with fail
    refine (unhide hN _).mono ?_
    rintro e w2 ⟨rfl, hb2⟩
    replace hb2 := hide (below_via (unhide hb1) hb2)
    clear hb1
    go_wp2_with fail
    refine (unhide hF _).mono ?_
    rintro e w3 ⟨rfl, hb3⟩
    replace hb3 := hide (below_via (unhide hb2) hb3)
    clear hb2
    go_wp2_with fail
    refine (unhide hm1 _).mono ?_
    rintro e w4 ⟨rfl, hb4⟩
    replace hb4 := hide (below_via (unhide hb3) hb4)
    clear hb3
    go_wp2_with fail
    refine (unhide hm2 _).mono ?_
    rintro e w5 ⟨rfl, hb5⟩
    replace hb5 := hide (below_via (unhide hb4) hb5)
    clear hb4
    go_wp2_with fail
    refine (unhide hcl _).mono ?_
    rintro e w6 ⟨rfl, hb6⟩
    replace hb6 := hide (below_via (unhide hb5) hb6)
    clear hb5
    go_wp2_with fail
    go_ret
    exact ⟨rfl, unhide hb6⟩
theorem okE_03 (n : Int) : okE n = 0 ∨ okE n = 3 := by unfold okE; split <;> simp
theorem quot_parts (X c : Int) (h0 : c ≠ 0) : (0 < c ∧ quot 0 X c * c ≤ X ∧ X < (quot 0 X c + 1) * c) ∨ (c < 0 ∧ X ≤ quot 0 X c * c ∧ (quot 0 X c + 1) * c < X) := by
  have hp := nB_pos h0
  have e : nX X c % nB c + nB c * (nX X c / nB c) = nX X c := Int.emod_add_mul_ediv _ _
  have r0 := Int.emod_nonneg (nX X c) (show nB c ≠ 0 from by omega)
  have r1 := Int.emod_lt_of_pos (nX X c) hp
  have eq : quot 0 X c = nX X c / nB c := if_pos rfl
  rw [eq]
  generalize nX X c / nB c = q at *
  generalize nX X c % nB c = r at *
  rw [Int.add_mul, Int.one_mul]
  unfold nB nX at *
  by_cases h : c < 0
  · right
    rw [if_pos h] at r1 e
    rw [if_pos h, Int.neg_mul, Int.mul_comm c q] at e
    refine ⟨h, by omega, by omega⟩
  · left
    rw [if_neg h] at r1 e
    rw [if_neg h, Int.mul_comm c q] at e
    refine ⟨by omega, by omega, by omega⟩
theorem quot_near (X c : Int) : quot 1 X c = quot 0 X c ∨ quot 1 X c = quot 0 X c + 1 := by
  unfold quot
  rw [if_neg (by decide), if_pos rfl]
  rcases up_01 (nX X c / nB c) (nX X c % nB c) (nB c) with h | h <;> rw [h] <;> omega
theorem ord_le {x y : Int} (h : x ≤ y) : ord x y ≤ 0 := by unfold ord; split <;> (try split) <;> omega
theorem ord_ge {x y : Int} (h : y ≤ x) : 0 ≤ ord x y := by unfold ord; split <;> (try split) <;> omega
theorem walk (a b c : Int) (w : World) (wa : (Lit.int .i64 a).wf = true) (wb : (Lit.int .i64 b).wf = true) (wc : (Lit.int .i64 c).wf = true) : Good a b c w := by
  have ha := in64_of wa
  have hb := in64_of wb
  have hc := in64_of wc
  by_cases h0 : c = 0
  · subst h0
    exact walk_zero a b w (muldiv_by0 a b 1 ha hb (by omega) (by omega)) (muldiv_by0 a b 0 ha hb (by omega) (by omega))
  · have hN : Says a b c 1 _ _ := muldiv_near a b c ha hb hc h0
    have hF : Says a b c 0 _ _ := muldiv_floor a b c ha hb hc h0
    by_cases hn : turn (quot 1 (a * b) c) = 0
    · by_cases hf : turn (quot 0 (a * b) c) = 0
      · rw [okN_in hn, okE_in hn] at hN
        rw [okN_in hf, okE_in hf] at hF
        have n64 := in_of_turn hn
        have f64 := in_of_turn hf
        have hq := quot_parts (a * b) c h0
        have hX := mul128 ha hb
        rcases quot_near (a * b) c with e | e
        · rw [e] at hN n64
          generalize quot 0 (a * b) c = F at *
          have hm2 : MulAt a b (a * b) := mul_any a b ha hb
          have f1 := f64.lo
          have f2 := f64.hi
          by_cases ht : F < 9223372036854775807
          · have hs : In64 (F + 1) := ⟨by omega, by omega⟩
            exact walk_same a b c F (a * b) (F * c) ((F + 1) * c) _ _ f1 ht h0 (by rcases hq with ⟨g1, g2, g3⟩ | ⟨g1, g2, g3⟩; exact Or.inl ⟨g1, ord_le g2, by rw [ord_gt g3]; decide⟩; exact Or.inr ⟨g1, ord_ge g2, by rw [ord_lt g3]; decide⟩) w hN hF
              (mul_any F c f64 hc) hm2 (mul_any (F + 1) c hs hc) (compare_any _ _ (mul128 f64 hc) hX) (compare_any _ _ (mul128 hs hc) hX)
          · obtain rfl : F = 9223372036854775807 := by omega
            exact walk_top a b c (a * b) (9223372036854775807 * c) _ h0 (by rcases hq with ⟨g1, g2, g3⟩ | ⟨g1, g2, g3⟩; exact Or.inl ⟨g1, ord_le g2⟩; exact Or.inr ⟨g1, ord_ge g2⟩) w hN hF
              (mul_any _ c f64 hc) hm2 (compare_any _ _ (mul128 f64 hc) hX)
        · rw [e] at hN n64
          generalize quot 0 (a * b) c = F at *
          have hm2 : MulAt a b (a * b) := mul_any a b ha hb
          exact walk_more a b c F (a * b) (F * c) ((F + 1) * c) _ _ f64.lo (by have := n64.hi; omega) h0 (by rcases hq with ⟨g1, g2, g3⟩ | ⟨g1, g2, g3⟩; exact Or.inl ⟨g1, ord_le g2, by rw [ord_gt g3]; decide⟩; exact Or.inr ⟨g1, ord_ge g2, by rw [ord_lt g3]; decide⟩) w hN hF
            (mul_any F c f64 hc) hm2 (mul_any (F + 1) c n64 hc) (compare_any _ _ (mul128 f64 hc) hX) (compare_any _ _ (mul128 n64 hc) hX)
      · rw [okE_in hn] at hN
        rw [okE_out hf] at hF
        exact walk_err a b c _ _ 0 3 h0 (by simp) w hN hF
    · rw [okE_out hn] at hN
      rcases okE_03 (quot 0 (a * b) c) with h | h <;> rw [h] at hF
      · exact walk_err a b c _ _ 3 0 h0 (by simp) w hN hF
      · exact walk_err a b c _ _ 3 3 h0 (by simp) w hN hF
theorem own : ownKnob Try.prog.godebug = none := by kernel_rfl
set_option linter.unusedVariables false in
set_option maxRecDepth 100000 in
theorem lifted (os : Os) (started : os.Started) (H : Type) (enc : TypeId × Value → H) :
    ReturnsInHanded {} Try.checked os 5 .any (Rows.wideRoundsSpec.pre6 enc Try.prog Try.f5 Rows.wideRoundsRow.domain false) (Rows.wideRoundsSpec.post enc Try.prog Try.f5 false true false false) := by
  refine returnsInHanded_of_change (C := Try.checked) own started (by kernel_rfl) Try.func5
    (ChangeSpec.witness6 (enc := enc) (C := Try.checked) false ⟨#[], #[.int .i64 0, .int .i64 0, .int .i64 0], []⟩ 8 (by kernel_rfl) (by kernel_rfl) (by kernel_rfl) (by kernel_rfl)) ?_
  intro W base args ds gs before hval0 hW hcnd _
  have hval : ∀ (j : Nat) t v, Try.f5.params[j]? = some t → args[j]? = some v → Value.okWide Try.prog W .any base t v := hval0
  have hW' := hW
  obtain ⟨p, q, hA0, hV, rfl, hfz, hnd⟩ := hW
  have hA : DataW.TrodAll enc Try.prog W 0 (fun _ => true) true Try.f5.params.toList args.toList ds p := hA0
  rw [Try.params5] at hA hval
  obtain ⟨v0, vs0, d0, ds0, p0, q0, hargs, rfl, rfl, h0, r0⟩ := trodAll_cons hA
  obtain ⟨v1, vs1, d1, ds1, p1, q1, rfl, rfl, rfl, h1, r1⟩ := trodAll_cons r0
  obtain ⟨v2, vs2, d2, ds2, p2, q2, rfl, rfl, rfl, h2, r2⟩ := trodAll_cons r1
  obtain ⟨rfl, rfl, rfl⟩ := trodAll_nil r2
  obtain rfl : args = #[v0, v1, v2] := by cases args; simp_all
  obtain ⟨rfl, rfl⟩ := trodVars_none hV
  obtain ⟨a0, rfl, rfl, rfl, w0⟩ := open_int Try.underlying2 (hval 0 2 v0 rfl rfl) h0
  obtain ⟨a1, rfl, rfl, rfl, w1⟩ := open_int Try.underlying2 (hval 1 2 v1 rfl rfl) h1
  obtain ⟨a2, rfl, rfl, rfl, w2⟩ := open_int Try.underlying2 (hval 2 2 v2 rfl rfl) h2
  clear hA0 hval0
  simp only [List.append_nil] at hW'
  refine (walk a0 a1 a2 W w0 w1 w2).mono fun e W' ⟨he, bel⟩ => ?_
  subst he
  exact ⟨_, rfl, _, _, _, [], _, [], hW', trodAll_mk1 (shut_bool Try.underlying4 _), (trodAll_cons_mk (shut_int Try.underlying2 w0) (trodAll_cons_mk (shut_int Try.underlying2 w1) (trodAll_cons_mk (shut_int Try.underlying2 w2) trodAll_mk0))), rfl, bel.frame _, fun h => by cases h⟩
theorem over : Rows.wideRoundsRow.holds Try.pinned (OpenSpec.ofChange Rows.wideRoundsSpec) :=
  OpenClaim.holds_of_wide 5 Try.f5 rfl rfl rfl rfl rfl rfl rfl ⟨rfl, rfl, rfl, rfl, rfl⟩ rfl rfl rfl rfl rfl (by kernel_rfl) Try.func5 (by kernel_rfl)
    (of_decide_eq_true (by kernel_rfl)) (by unfold Func.isWrapper; first | (rw [if_pos (by decide +kernel)]; kernel_rfl) | (rw [if_neg (by decide +kernel)]; exact ⟨rfl, rfl⟩))
    (fun os started H enc _ => lifted os started H enc)
/-- The statement. -/
theorem proved : Rows.WideRoundsSaid := over
#print axioms proved
end Go.Proofs.Ytaknjpddjofgeaa.wideRounds
namespace Go.Proofs.Ytaknjpddjofgeaa
theorem wideRounds_holds : Rows.WideRoundsSaid := wideRounds.proved
end Go.Proofs.Ytaknjpddjofgeaa
