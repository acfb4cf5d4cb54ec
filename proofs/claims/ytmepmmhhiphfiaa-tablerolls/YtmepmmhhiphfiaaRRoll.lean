/- A table's rows, as the document makes them. -/
import Derived.Test.YtmepmmhhiphfiaaTConv
import Derived.Test.YtmepmmhhiphfiaaBits14
import Derived.Deep.CutRange
import Derived.Deep.CutBlock
namespace Go.Proofs.Ytmepmmhhiphfiaa.Mn
open Go.RowKit
set_option linter.unusedSimpArgs false
/-- beyond: whether a Close is too far. -/
def BeyA (x i p : Int) (b : Bool) : Prop := ∀ w : World, Calls Try.prog 25 #[rowV x i p 0] w fun z w' => z = .returned (.bool b) ∧ Below w.heap.size w w'
theorem bey_out {x i p : Int} (hx : In64 x) (hi : In64 i) (h : ¬ In64 (x + i)) : BeyA x i p true := by
  intro w
  have H1 := hide (radd_any x i hx hi)
  have ht : ¬ turn (x + i) = 0 := fun c => h (in_of_turn c)
  rw [okN_out ht, okE_out ht] at H1
  have t : ((3 : Int) != 0) = true := rfl
  clear h hx hi ht
  go_enter Try.func25, Try.ntmps25
  go_wp2_with fail
  refine (unhide H1 _).mono ?_
  rintro e w1 ⟨rfl, rfl⟩
  go_wp2_with fail
  go_ret
  exact ⟨rfl, below1 _ _⟩
theorem bey_low {x i p : Int} (hx : In64 x) (hi : In64 i) (hp : In64 p) (h : In64 (x + i)) (h2 : ¬ In64 (x + i - p)) : BeyA x i p true := by
  intro w
  have H1 := hide (radd_any x i hx hi)
  rw [okN_in (turn_in h), okE_in (turn_in h)] at H1
  have H2 := hide (rsub_any (x + i) p h hp)
  have ht : ¬ turn (x + i - p) = 0 := fun c => h2 (in_of_turn c)
  rw [okN_out ht, okE_out ht] at H2
  have t0 : ((0 : Int) != 0) = false := rfl
  have t : ((3 : Int) != 0) = true := rfl
  clear h hx hi h2 hp ht
  generalize x + i = y at *
  go_enter Try.func25, Try.ntmps25
  go_wp2_with fail
  refine (unhide H1 _).mono ?_
  rintro e w1 ⟨rfl, rfl⟩
  go_wp2_with fail
  refine (unhide H2 _).mono ?_
  rintro e w1 ⟨rfl, rfl⟩
  go_wp2_with fail
  go_ret
  exact ⟨rfl, below1 _ _⟩
theorem bey_hi {x i p : Int} (hx : In64 x) (hi : In64 i) (hp : In64 p) (h : In64 (x + i)) (h2 : In64 (x + i - p)) (h3 : 4611686018427387904 < x + i - p) : BeyA x i p true := by
  intro w
  have H1 := hide (radd_any x i hx hi)
  rw [okN_in (turn_in h), okE_in (turn_in h)] at H1
  have H2 := hide (rsub_any (x + i) p h hp)
  rw [okN_in (turn_in h2), okE_in (turn_in h2)] at H2
  have t0 : ((0 : Int) != 0) = false := rfl
  have d1 : decide (4611686018427387904 < x + i - p) = true := decide_eq_true h3
  clear h hx hi h2 hp h3
  generalize x + i - p = s at *
  generalize x + i = y at *
  go_enter Try.func25, Try.ntmps25
  go_wp2_with fail
  refine (unhide H1 _).mono ?_
  rintro e w1 ⟨rfl, rfl⟩
  go_wp2_with fail
  refine (unhide H2 _).mono ?_
  rintro e w1 ⟨rfl, rfl⟩
  go_wp2_with fail
  go_ret
  exact ⟨rfl, below1 _ _⟩
theorem bey_lo {x i p : Int} (hx : In64 x) (hi : In64 i) (hp : In64 p) (h : In64 (x + i)) (h2 : In64 (x + i - p)) (h3 : x + i - p < -4611686018427387904) : BeyA x i p true := by
  intro w
  have H1 := hide (radd_any x i hx hi)
  rw [okN_in (turn_in h), okE_in (turn_in h)] at H1
  have H2 := hide (rsub_any (x + i) p h hp)
  rw [okN_in (turn_in h2), okE_in (turn_in h2)] at H2
  have t0 : ((0 : Int) != 0) = false := rfl
  have d1 : decide (4611686018427387904 < x + i - p) = false := decide_eq_false (by omega)
  have d2 : decide (x + i - p < -4611686018427387904) = true := decide_eq_true h3
  clear h hx hi h2 hp h3
  generalize x + i - p = s at *
  generalize x + i = y at *
  go_enter Try.func25, Try.ntmps25
  go_wp2_with fail
  refine (unhide H1 _).mono ?_
  rintro e w1 ⟨rfl, rfl⟩
  go_wp2_with fail
  refine (unhide H2 _).mono ?_
  rintro e w1 ⟨rfl, rfl⟩
  go_wp2_with fail
  go_ret
  exact ⟨rfl, below1 _ _⟩
theorem bey_in {x i p : Int} (hx : In64 x) (hi : In64 i) (hp : In64 p) (h : In64 (x + i)) (h2 : In64 (x + i - p)) (h3 : ¬ far (x + i - p)) : BeyA x i p false := by
  intro w
  have H1 := hide (radd_any x i hx hi)
  rw [okN_in (turn_in h), okE_in (turn_in h)] at H1
  have H2 := hide (rsub_any (x + i) p h hp)
  rw [okN_in (turn_in h2), okE_in (turn_in h2)] at H2
  have t0 : ((0 : Int) != 0) = false := rfl
  have d1 : decide (4611686018427387904 < x + i - p) = false := decide_eq_false (fun c => h3 (Or.inr c))
  have d2 : decide (x + i - p < -4611686018427387904) = false := decide_eq_false (fun c => h3 (Or.inl c))
  clear h hx hi h2 hp h3
  generalize x + i - p = s at *
  generalize x + i = y at *
  go_enter Try.func25, Try.ntmps25
  go_wp2_with fail
  refine (unhide H1 _).mono ?_
  rintro e w1 ⟨rfl, rfl⟩
  go_wp2_with fail
  refine (unhide H2 _).mono ?_
  rintro e w1 ⟨rfl, rfl⟩
  go_wp2_with fail
  go_ret
  exact ⟨rfl, below1 _ _⟩
theorem bey_yes {x i p : Int} (hx : In64 x) (hi : In64 i) (hp0 : 0 ≤ p) (hp1 : p ≤ 10000000000000) (h : far (x + i - p)) : BeyA x i p true := by
  have hp : In64 p := ⟨by omega, by omega⟩
  by_cases h1 : In64 (x + i)
  · by_cases h2 : In64 (x + i - p)
    · rcases h with h | h
      · exact bey_lo hx hi hp h1 h2 h
      · exact bey_hi hx hi hp h1 h2 h
    · exact bey_low hx hi hp h1 h2
  · exact bey_out hx hi h1
theorem bey_no {x i p : Int} (hx : In64 x) (hi : In64 i) (hp0 : 0 ≤ p) (hp1 : p ≤ 10000000000000) (h : ¬ far (x + i - p)) : BeyA x i p false := by
  have hp : In64 p := ⟨by omega, by omega⟩
  have hh : -4611686018427387904 ≤ x + i - p ∧ x + i - p ≤ 4611686018427387904 := by unfold far at h; omega
  exact bey_in hx hi hp ⟨by omega, by omega⟩ ⟨by omega, by omega⟩ h
theorem rr_yes {r : Int} (h : mayB r = true) (w : World) : Calls Try.prog 23 #[.int .i64 r] w fun e w' => e = .returned (.bool true) ∧ w = w' := by
  have := rmay_any r w
  rwa [h] at this
theorem rr_no {r : Int} (h : mayB r = false) (w : World) : Calls Try.prog 23 #[.int .i64 r] w fun e w' => e = .returned (.bool false) ∧ w = w' := by
  have := rmay_any r w
  rwa [h] at this
theorem rroll_n0 (a : Option Addr) (len cap : Nat) (o r : Int) (w : World) (h : len = 0) : RollA 9 w o (.slice a len cap) r [] 2 := by
  unfold RollA
  have d0 : decide ((len : Int) < 1) = true := decide_eq_true (by omega)
  have Hn := hide h
  clear h Hn
  go_enter Try.func9, Try.ntmps9
  go_wp2_with fail
  go_ret2
  exact ⟨_, rfl, rowN_nil _ _, Below.refl _ _⟩
theorem rroll_n1 (a : Option Addr) (len cap : Nat) (o r : Int) (w : World) (h : 600 < len) : RollA 9 w o (.slice a len cap) r [] 2 := by
  unfold RollA
  have d0 : decide ((len : Int) < 1) = false := decide_eq_false (by omega)
  have d1 : decide ((600 : Int) < (len : Int)) = true := decide_eq_true (by omega)
  have Hn := hide h
  clear h Hn
  go_enter Try.func9, Try.ntmps9
  go_wp2_with fail
  go_ret2
  exact ⟨_, rfl, rowN_nil _ _, Below.refl _ _⟩
theorem rroll_o0 (a : Option Addr) (len cap : Nat) (o r : Int) (w : World) (h1 : len ≤ 600) (h0 : 0 < len) (h : o < 1) : RollA 9 w o (.slice a len cap) r [] 2 := by
  unfold RollA
  have d0 : decide ((len : Int) < 1) = false := decide_eq_false (by omega)
  have d1 : decide ((600 : Int) < (len : Int)) = false := decide_eq_false (by omega)
  have d2 : decide (o < 1) = true := decide_eq_true (by omega)
  go_enter Try.func9, Try.ntmps9
  go_wp2_with fail
  go_ret2
  exact ⟨_, rfl, rowN_nil _ _, Below.refl _ _⟩
theorem rroll_o1 (a : Option Addr) (len cap : Nat) (o r : Int) (w : World) (h1 : len ≤ 600) (h0 : 0 < len) (_h2 : 1 ≤ o) (h : 10000000000000 < o) : RollA 9 w o (.slice a len cap) r [] 2 := by
  unfold RollA
  have d0 : decide ((len : Int) < 1) = false := decide_eq_false (by omega)
  have d1 : decide ((600 : Int) < (len : Int)) = false := decide_eq_false (by omega)
  have d2 : decide (o < 1) = false := decide_eq_false (by omega)
  have d3 : decide (10000000000000 < o) = true := decide_eq_true (by omega)
  go_enter Try.func9, Try.ntmps9
  go_wp2_with fail
  go_ret2
  exact ⟨_, rfl, rowN_nil _ _, Below.refl _ _⟩
theorem rroll_r (a : Option Addr) (len cap : Nat) (o r : Int) (w : World) (h1 : len ≤ 600) (h0 : 0 < len) (h2 : 1 ≤ o) (h3 : o ≤ 10000000000000) (hr : mayB r = false) : RollA 9 w o (.slice a len cap) r [] 2 := by
  unfold RollA
  have d0 : decide ((len : Int) < 1) = false := decide_eq_false (by omega)
  have d1 : decide ((600 : Int) < (len : Int)) = false := decide_eq_false (by omega)
  have d2 : decide (o < 1) = false := decide_eq_false (by omega)
  have d3 : decide (10000000000000 < o) = false := decide_eq_false (by omega)
  have HR := hide (rr_no hr)
  clear hr
  go_enter Try.func9, Try.ntmps9
  go_wp2_with fail
  refine (unhide HR _).mono ?_
  rintro e w1 ⟨rfl, rfl⟩
  go_wp2_with fail
  go_ret2
  exact ⟨_, rfl, rowN_nil _ _, Below.refl _ _⟩
theorem R4.set1 {w : World} {g : Nat} {T : TypeId} {a b c d : Int} (h : R4 w g T a b c d) (v : Int) : R4 (w.setCell ⟨g, 1, none⟩ (.int .i64 v)) g T a v c d := by unfold R4; rw [Go.heap_setCell_same w g 1 _ _ _ h]; rfl
theorem R4.set3 {w : World} {g : Nat} {T : TypeId} {a b c d : Int} (h : R4 w g T a b c d) (v : Int) : R4 (w.setCell ⟨g, 3, none⟩ (.int .i64 v)) g T a b c v := by unfold R4; rw [Go.heap_setCell_same w g 3 _ _ _ h]; rfl
theorem gb_set (w : World) (g j : Nat) (x : Value) : w.grownBy (w.setCell ⟨g, j, none⟩ x) (some g) :=
  ⟨rfl, rfl, rfl, by simp [World.setCell], fun k hk hne => Go.heap_setCell_other w ⟨g, j, none⟩ k x (fun c => hne (by rw [c]))⟩
theorem GrowN.set {E : TypeId} {m : Nat} {w wr : World} {v : Value} {l : List (List Int)} (h : GrowN E m w wr v l) {g : Nat} (hg : w.heap.size ≤ g) (hs : v.ownBlock ≠ some g) (j : Nat) (x : Value) : GrowN E m w (wr.setCell ⟨g, j, none⟩ x) v l :=
  ⟨h.below.setCell hg _, h.owns.kept (gb_set wr g j x) (Or.inr hs), h.small⟩
set_option maxRecDepth 100000 in
set_option maxHeartbeats 8000000 in
theorem rroll_main {o r : Int} {l : List Int} {b off cap : Nat} {w : World} {rows : List (List Int)} {e : Int} (hk : RollOk o l r) (hc : ∀ j, j < l.length → w.cell? ⟨b, off + j, none⟩ = some (.int .i64 (l.getD j 0)))
    (he : (e = 0 ∧ rows = rowsUp o r l l.length ∧ ∀ j, j < l.length → ¬ over o r l j) ∨ (e = 3 ∧ rows = [] ∧ ∃ j, j < l.length ∧ over o r l j)) : RollA 9 w o (.slice (some ⟨b, off, none⟩) l.length cap) r rows e := by
  unfold RollA
  have HK := hide hk
  have HC := hide hc
  have HE := hide he
  have HR := hide (rr_yes (mayB_iff.2 hk.may))
  have n0 := hk.n0
  have n1 := hk.n1
  have o0 := hk.o0
  have o1 := hk.o1
  clear hk hc he
  generalize hlen : l.length = n at *
  have d0 : decide ((n : Int) < 1) = false := decide_eq_false (by omega)
  have d1 : decide ((600 : Int) < (n : Int)) = false := decide_eq_false (by omega)
  have d2 : decide (o < 1) = false := decide_eq_false (by omega)
  have d3 : decide (10000000000000 < o) = false := decide_eq_false (by omega)
  have HN := hide hlen
  clear hlen
  go_enter Try.func9, Try.ntmps9
  go_wp2_with fail
  refine (unhide HR _).mono ?_
  rintro z w1 ⟨rfl, rfl⟩
  go_wp2_with fail
  go_loop [40] (fun i => ∃ k : Nat, k ≤ n ∧ i = .int .i64 k) (fun i => n - (intOf i).toNat)
  case atStart => exact ⟨0, Nat.zero_le _, rfl⟩
  case round =>
   obtain ⟨k, hk, rfl⟩ := hrel
   by_cases hlt : k < n
   · have ck := unhide HC k hlt
     have hz := (unhide HK).at k
     generalize l.getD k 0 = z at *
     have e0 : decide (z < 0) = false := decide_eq_false (by omega)
     have e1 : decide (10000000000000 < z) = false := decide_eq_false (by omega)
     have k1 : (k : Int) < (n : Int) := by omega
     go_wp2_with fail
     go_round
     case rel => exact ⟨k + 1, by omega, by go_num⟩
     case measure => simp [intOf]; omega
   · have ek : k = n := by omega
     subst ek
     clear hlt
     generalize k = n at *
     go_wp2_with fail
     go_loopw [10, 11, 54] (fun ov x i wr => ∃ k : Nat, k ≤ n ∧ i = .int .i64 k ∧ x = .int .i64 (st o r l k) ∧ Hid (GrowN 48 4 w wr ov (rowsUp o r l k)) ∧ Hid (∀ j, j < k → ¬ over o r l j)) (fun _ _ i _ => n - (intOf i).toNat)
     case atStart => exact ⟨0, Nat.zero_le _, rfl, rfl, hide (GrowN.nil _ _ _ _ (Below.refl _ _)), hide (fun j hj => absurd hj (Nat.not_lt_zero j))⟩
     case round =>
      obtain ⟨k, hk, rfl, rfl, HG, HO⟩ := hrel
      by_cases hlt : k < n
      · have k1 : (k : Int) < (n : Int) := by omega
        have ck := ((unhide HG).below.cell (p := ⟨b, off + k, none⟩) (lt_of_cell (unhide HC k hlt))).trans (unhide HC k hlt)
        have hbd := st_bd (unhide HK) k (unhide HO)
        have hp := (unhide HK).at k
        have hx : In64 (st o r l k) := ⟨by omega, by omega⟩
        by_cases hla : k + 1 = n
        · rw [← unhide HN] at hla
          have hov := last_fine (unhide HK) hla (unhide HO)
          have HO2 : Hid (∀ j, j < k + 1 → ¬ over o r l j) := hide (fun j hj => by
            by_cases c : j = k
            · rw [c]; exact hov
            · exact unhide HO j (by omega))
          have HIn := hide (rowAt_in (unhide HK) (unhide HO2))
          have hnf : ¬ far (st o r l k + inr o r l k - l.getD k 0) := fun c => hov (Or.inr c)
          have HBe := hide (bey_no hx (inr_in hov) hp.1 hp.2 hnf)
          have hi0 := (inr_in hov).lo
          have hi1 := (inr_in hov).hi
          unfold far at hnf
          unfold BeyA at HBe
          have hiv := inr_last (o := o) (r := r) hla
          have HRo : Hid (rowAt o r l k = [st o r l k, inr o r l k, l.getD k 0, st o r l k + inr o r l k - l.getD k 0]) := hide rfl
          have HStn : Hid (st o r l (k + 1) = st o r l k + inr o r l k - l.getD k 0) := hide rfl
          have hl2 : Hid ((rowsUp o r l k).length ≤ 1000000) := hide (by rw [rowsUp_len]; omega)
          have HUp := hide (rowsUp_succ o r l k)
          generalize rowAt o r l k = f at *
          obtain ⟨rk, hrk⟩ : ∃ x, rowsUp o r l k = x := ⟨_, rfl⟩
          rw [hrk] at HUp hl2 HG
          clear hrk
          obtain ⟨I, hI⟩ : ∃ x, inr o r l k = x := ⟨_, rfl⟩
          obtain ⟨X, hX⟩ : ∃ x, st o r l k = x := ⟨_, rfl⟩
          obtain ⟨P, hP⟩ : ∃ x, l.getD k 0 = x := ⟨_, rfl⟩
          rw [hI, hX, hP] at HBe HRo HStn hnf
          rw [hI] at hi0 hi1
          rw [hX] at hbd ⊢
          rw [hP] at hp ck
          rw [hI, hX, hP] at hiv
          clear hI hX hP hx hov
          have hb0 : -9223372036854775808 ≤ X + I := by omega
          have hb1 : X + I ≤ 9223372036854775807 := by omega
          have HR4 := hide (R4.new wr 48 X 0 P 0)
          have HGa := hide ((unhide HG).alloc (.cells #[.int .i64 X, .int .i64 0, .int .i64 P, .int .i64 0] 48))
          have hsep : u10.ownBlock ≠ some wr.heap.size := fun c => Nat.lt_irrefl _ ((unhide HG).at_least _ c).2
          have hgs : w.heap.size ≤ wr.heap.size := (unhide HG).below.size
          have tl : ((k : Int) == (n : Int) - 1) = true := by rw [beq_iff_eq]; have := unhide HN; omega
          subst hiv
          go_upto_region 16 with fail
          generalize wr.alloc (.cells #[.int .i64 X, .int .i64 0, .int .i64 P, .int .i64 0] 48) = w2 at *
          generalize wr.heap.size = g at *
          have HS1 := hide ((unhide HR4).set1 (P - X))
          have HG1 := hide ((unhide HGa).set hgs hsep 1 (.int .i64 (P - X)))
          have g1 := (unhide HR4).c1
          have z1 := (unhide HR4).fz 1
          clear HR4 HGa HG
          go_upto_region 21 with fail
          clear g1 z1
          generalize w2.setCell ⟨g, 1, none⟩ (.int .i64 (P - X)) = w3 at *
          have g0 := (unhide HS1).c0
          have g1 := (unhide HS1).c1
          have g2 := (unhide HS1).c2
          have g3 := (unhide HS1).c3
          go_wp2_with fail
          refine (unhide HBe _).mono ?_
          rintro e1 w4 ⟨rfl, hb⟩
          replace HS1 := hide ((unhide HS1).keep hb)
          replace HG1 := hide ((unhide HG1).keep hb)
          clear hb g0 g1 g2 g3
          have g0 := (unhide HS1).c0
          have g1 := (unhide HS1).c1
          have g2 := (unhide HS1).c2
          have g3 := (unhide HS1).c3
          have z3 := (unhide HS1).fz 3
          have HS2 := hide ((unhide HS1).set3 (X + (P - X) - P))
          have HG2 := hide ((unhide HG1).set hgs hsep 3 (.int .i64 (X + (P - X) - P)))
          clear HS1 HG1
          go_upto_region 24 with fail
          clear g0 g1 g2 g3 z3
          generalize w4.setCell ⟨g, 3, none⟩ (.int .i64 (X + (P - X) - P)) = w5 at *
          have g0 := (unhide HS2).c0
          have g1 := (unhide HS2).c1
          have g2 := (unhide HS2).c2
          have g3 := (unhide HS2).c3
          go_wp2_with (at_builtin; refine pushN_law 48 28 4 32 (.agg #[.int .i64 0, .int .i64 0, .int .i64 0, .int .i64 0]) (by decide) (by decide) rfl Try.underlying28 info48 rfl _ _ rfl w _ _ rk f #[.int .i64 X, .int .i64 (P - X), .int .i64 P, .int .i64 (X + (P - X) - P)] (by rw [unhide HRo]; rfl) (unhide HG2) rfl (by simp [Act.eval, Act.put]) (unhide hl2) (unhide HIn) ?_)
          intro v' w6 hG2 _ _
          replace hG2 := hide hG2
          go_wp2_with fail
          go_roundw
          case rel => exact ⟨k + 1, by omega, by go_num, by rw [unhide HStn], hide (by rw [unhide HUp]; exact unhide hG2), HO2⟩
          case measure => simp [intOf]; omega
        · rw [← unhide HN] at hla
          by_cases hov : over o r l k
          · have HF : Hid (e = 3 ∧ rows = []) := hide (by
              rcases unhide HE with ⟨_, _, h⟩ | ⟨h1, h2, _⟩
              · exact absurd hov (h k hlt)
              · exact ⟨h1, h2⟩)
            have HI := hide (rint_ok hx (unhide HK).may)
            have tl : ((k : Int) == (n : Int) - 1) = false := by rw [beq_eq_false_iff_ne]; have := unhide HN; omega
            by_cases hi : In64 (inr o r l k)
            · have hi' := hi
              rw [inr_mid hla] at hi'
              rw [okN_in (turn_in hi'), okE_in (turn_in hi')] at HI
              have hf : far (st o r l k + inr o r l k - l.getD k 0) := by
                rcases hov with c | c
                · exact absurd hi c
                · exact c
              have HBe := hide (bey_yes hx hi hp.1 hp.2 hf)
              rw [inr_mid hla] at HBe
              unfold BeyA at HBe
              unfold Ans at HI
              clear hf hi hi' hx hov hla
              generalize qI (st o r l k) r = I at *
              obtain ⟨X, hX⟩ : ∃ x, st o r l k = x := ⟨_, rfl⟩
              obtain ⟨P, hP⟩ : ∃ x, l.getD k 0 = x := ⟨_, rfl⟩
              rw [hX] at HI HBe hbd ⊢
              rw [hP] at HBe hp ck
              clear hX hP
              have HR4 := hide (R4.new wr 48 X 0 P 0)
              have HB := hide (below_via (unhide HG).below (below1 wr (.cells #[.int .i64 X, .int .i64 0, .int .i64 P, .int .i64 0] 48)))
              have hgs : w.heap.size ≤ wr.heap.size := (unhide HG).below.size
              have t0 : ((0 : Int) != 0) = false := rfl
              go_wp2_with fail
              refine (unhide HI _).mono ?_
              rintro e1 w2 ⟨rfl, hb⟩
              replace HR4 := hide ((unhide HR4).keep hb)
              replace HB := hide (below_via (unhide HB) hb)
              clear hb HI
              generalize wr.heap.size = g at *
              have HS1 := hide ((unhide HR4).set1 I)
              have HB1 := hide ((unhide HB).setCell (a := w) hgs (.int .i64 I) (p := ⟨g, 1, none⟩))
              have g1 := (unhide HR4).c1
              have z1 := (unhide HR4).fz 1
              go_upto_region 21 with fail
              clear g1 z1
              generalize w2.setCell ⟨g, 1, none⟩ (.int .i64 I) = w3 at *
              have g0 := (unhide HS1).c0
              have g1 := (unhide HS1).c1
              have g2 := (unhide HS1).c2
              have g3 := (unhide HS1).c3
              go_wp2_with fail
              refine (unhide HBe _).mono ?_
              rintro e1 w4 ⟨rfl, hb⟩
              replace HB1 := hide (below_via (unhide HB1) hb)
              clear hb
              go_wp2_with fail
              go_ret2
              exact ⟨_, by rw [(unhide HF).1]; rfl, by rw [(unhide HF).2]; exact rowN_nil _ _, unhide HB1⟩
            · have ht : ¬ turn (qI (st o r l k) r) = 0 := fun c => hi (by rw [inr_mid hla]; exact in_of_turn c)
              rw [okN_out ht, okE_out ht] at HI
              unfold Ans at HI
              clear hi ht hx hov hla
              have HB := hide (below_via (unhide HG).below (below1 wr (.cells #[.int .i64 (st o r l k), .int .i64 0, .int .i64 (l.getD k 0), .int .i64 0] 48)))
              obtain ⟨X, hX⟩ : ∃ x, st o r l k = x := ⟨_, rfl⟩
              obtain ⟨P, hP⟩ : ∃ x, l.getD k 0 = x := ⟨_, rfl⟩
              rw [hX] at HI hbd HB ⊢
              rw [hP] at hp ck HB
              clear hX hP
              have t0 : ((3 : Int) != 0) = true := rfl
              go_wp2_with fail
              refine (unhide HI _).mono ?_
              rintro e1 w2 ⟨rfl, hb⟩
              replace HB := hide (below_via (unhide HB) hb)
              clear hb HI
              go_wp2_with fail
              go_ret2
              exact ⟨_, by rw [(unhide HF).1]; rfl, by rw [(unhide HF).2]; exact rowN_nil _ _, unhide HB⟩
          · have HO2 : Hid (∀ j, j < k + 1 → ¬ over o r l j) := hide (fun j hj => by
              by_cases c : j = k
              · rw [c]; exact hov
              · exact unhide HO j (by omega))
            have HIn := hide (rowAt_in (unhide HK) (unhide HO2))
            have hnf : ¬ far (st o r l k + inr o r l k - l.getD k 0) := fun c => hov (Or.inr c)
            have HBe := hide (bey_no hx (inr_in hov) hp.1 hp.2 hnf)
            have hi0 := (inr_in hov).lo
            have hi1 := (inr_in hov).hi
            unfold far at hnf
            unfold BeyA at HBe
            have HI := hide (rint_ok hx (unhide HK).may)
            rw [← inr_mid hla, okN_in (turn_in (inr_in hov)), okE_in (turn_in (inr_in hov))] at HI
            unfold Ans at HI
            have HRo : Hid (rowAt o r l k = [st o r l k, inr o r l k, l.getD k 0, st o r l k + inr o r l k - l.getD k 0]) := hide rfl
            have HStn : Hid (st o r l (k + 1) = st o r l k + inr o r l k - l.getD k 0) := hide rfl
            have hl2 : Hid ((rowsUp o r l k).length ≤ 1000000) := hide (by rw [rowsUp_len]; omega)
            have HUp := hide (rowsUp_succ o r l k)
            generalize rowAt o r l k = f at *
            obtain ⟨rk, hrk⟩ : ∃ x, rowsUp o r l k = x := ⟨_, rfl⟩
            rw [hrk] at HUp hl2 HG
            clear hrk
            obtain ⟨I, hI⟩ : ∃ x, inr o r l k = x := ⟨_, rfl⟩
            obtain ⟨X, hX⟩ : ∃ x, st o r l k = x := ⟨_, rfl⟩
            obtain ⟨P, hP⟩ : ∃ x, l.getD k 0 = x := ⟨_, rfl⟩
            rw [hI, hX, hP] at HBe HRo HStn hnf
            rw [hI] at hi0 hi1
            rw [hX] at hbd ⊢
            rw [hP] at hp ck
            rw [hX, hI] at HI
            clear hI hX hP hx hov
            have hb0 : -9223372036854775808 ≤ X + I := by omega
            have hb1 : X + I ≤ 9223372036854775807 := by omega
            have HR4 := hide (R4.new wr 48 X 0 P 0)
            have HGa := hide ((unhide HG).alloc (.cells #[.int .i64 X, .int .i64 0, .int .i64 P, .int .i64 0] 48))
            have hsep : u10.ownBlock ≠ some wr.heap.size := fun c => Nat.lt_irrefl _ ((unhide HG).at_least _ c).2
            have hgs : w.heap.size ≤ wr.heap.size := (unhide HG).below.size
            have tl : ((k : Int) == (n : Int) - 1) = false := by rw [beq_eq_false_iff_ne]; have := unhide HN; omega
            have t0 : ((0 : Int) != 0) = false := rfl
            go_upto_region 17 with fail
            go_wp2_with fail
            refine (unhide HI _).mono ?_
            rintro e1 w2 ⟨rfl, hb⟩
            replace HR4 := hide ((unhide HR4).keep hb)
            replace HGa := hide ((unhide HGa).keep hb)
            clear hb HI
            generalize wr.heap.size = g at *
            have HS1 := hide ((unhide HR4).set1 I)
            have HG1 := hide ((unhide HGa).set hgs hsep 1 (.int .i64 I))
            have g1 := (unhide HR4).c1
            have z1 := (unhide HR4).fz 1
            clear HR4 HGa HG
            go_upto_region 21 with fail
            clear g1 z1
            generalize w2.setCell ⟨g, 1, none⟩ (.int .i64 I) = w3 at *
            have g0 := (unhide HS1).c0
            have g1 := (unhide HS1).c1
            have g2 := (unhide HS1).c2
            have g3 := (unhide HS1).c3
            go_wp2_with fail
            refine (unhide HBe _).mono ?_
            rintro e1 w4 ⟨rfl, hb⟩
            replace HS1 := hide ((unhide HS1).keep hb)
            replace HG1 := hide ((unhide HG1).keep hb)
            clear hb g0 g1 g2 g3
            have g0 := (unhide HS1).c0
            have g1 := (unhide HS1).c1
            have g2 := (unhide HS1).c2
            have g3 := (unhide HS1).c3
            have z3 := (unhide HS1).fz 3
            have HS2 := hide ((unhide HS1).set3 (X + I - P))
            have HG2 := hide ((unhide HG1).set hgs hsep 3 (.int .i64 (X + I - P)))
            clear HS1 HG1
            go_upto_region 24 with fail
            clear g0 g1 g2 g3 z3
            generalize w4.setCell ⟨g, 3, none⟩ (.int .i64 (X + I - P)) = w5 at *
            have g0 := (unhide HS2).c0
            have g1 := (unhide HS2).c1
            have g2 := (unhide HS2).c2
            have g3 := (unhide HS2).c3
            go_wp2_with (at_builtin; refine pushN_law 48 28 4 32 (.agg #[.int .i64 0, .int .i64 0, .int .i64 0, .int .i64 0]) (by decide) (by decide) rfl Try.underlying28 info48 rfl _ _ rfl w _ _ rk f #[.int .i64 X, .int .i64 I, .int .i64 P, .int .i64 (X + I - P)] (by rw [unhide HRo]; rfl) (unhide HG2) rfl (by simp [Act.eval, Act.put]) (unhide hl2) (unhide HIn) ?_)
            intro v' w6 hG2 _ _
            replace hG2 := hide hG2
            go_wp2_with fail
            go_roundw
            case rel => exact ⟨k + 1, by omega, by go_num, by rw [unhide HStn], hide (by rw [unhide HUp]; exact unhide hG2), HO2⟩
            case measure => simp [intOf]; omega
      · have ek : k = n := by omega
        subst ek
        have HF : Hid (e = 0 ∧ rows = rowsUp o r l k) := hide (by
          rcases unhide HE with ⟨h1, h2, _⟩ | ⟨_, _, j, h1, h2⟩
          · exact ⟨h1, h2⟩
          · exact absurd h2 (unhide HO j h1))
        go_wp2_with fail
        go_ret2
        exact ⟨_, by rw [(unhide HF).1]; rfl, by rw [(unhide HF).2]; exact (unhide HG).row, (unhide HG).below⟩
set_option maxHeartbeats 1000000 in
theorem rroll_pay {o r : Int} {l : List Int} {b off cap : Nat} {w : World} (o0 : 1 ≤ o) (o1 : o ≤ 10000000000000) (n0 : 0 < l.length) (n1 : l.length ≤ 600) (hr : mayB r = true) (hc : ∀ j, j < l.length → w.cell? ⟨b, off + j, none⟩ = some (.int .i64 (l.getD j 0))) (hp : ¬ ∀ x ∈ l, payB x = true) : RollA 9 w o (.slice (some ⟨b, off, none⟩) l.length cap) r [] 2 := by
  unfold RollA
  have HC := hide hc
  have HR := hide (rr_yes hr)
  have HX : Hid (¬ ∀ j, j < l.length → payB (l.getD j 0) = true) := hide (fun h => hp (fun x hx => by
    obtain ⟨j, hj, rfl⟩ := List.getElem_of_mem hx
    have := h j hj
    rwa [show l.getD j 0 = l[j] by simp [List.getD, hj]] at this))
  clear hc hr hp
  generalize l.length = n at *
  have d0 : decide ((n : Int) < 1) = false := decide_eq_false (by omega)
  have d1 : decide ((600 : Int) < (n : Int)) = false := decide_eq_false (by omega)
  have d2 : decide (o < 1) = false := decide_eq_false (by omega)
  have d3 : decide (10000000000000 < o) = false := decide_eq_false (by omega)
  go_enter Try.func9, Try.ntmps9
  go_wp2_with fail
  refine (unhide HR _).mono ?_
  rintro z w1 ⟨rfl, rfl⟩
  go_wp2_with fail
  go_loop [40] (fun i => ∃ k : Nat, k ≤ n ∧ i = .int .i64 k ∧ Hid (∀ j, j < k → payB (l.getD j 0) = true)) (fun i => n - (intOf i).toNat)
  case atStart => exact ⟨0, Nat.zero_le _, rfl, hide (fun j hj => absurd hj (Nat.not_lt_zero j))⟩
  case round =>
    obtain ⟨k, hk, rfl, HA⟩ := hrel
    by_cases hlt : k < n
    · have ck := unhide HC k hlt
      have HS : Hid (payB (l.getD k 0) = true → ∀ j, j < k + 1 → payB (l.getD j 0) = true) := hide (fun h j hj => by
        by_cases e : j = k
        · rw [e]; exact h
        · exact unhide HA j (by omega))
      generalize l.getD k 0 = z at *
      have k1 : (k : Int) < (n : Int) := by omega
      by_cases hz : payB z = true
      · replace HS := hide (unhide HS hz)
        have hz' := payB_iff.1 hz
        have e0 : decide (z < 0) = false := decide_eq_false (by omega)
        have e1 : decide (10000000000000 < z) = false := decide_eq_false (by omega)
        clear hz hz'
        go_wp2_with fail
        go_round
        case rel => exact ⟨k + 1, by omega, by go_num, HS⟩
        case measure => simp [intOf]; omega
      · by_cases hz0 : z < 0
        · have e0 : decide (z < 0) = true := decide_eq_true hz0
          clear hz HS hz0
          go_wp2_with fail
          go_ret2
          exact ⟨_, rfl, rowN_nil _ _, Below.refl _ _⟩
        · have e0 : decide (z < 0) = false := decide_eq_false hz0
          have e1 : decide (10000000000000 < z) = true := decide_eq_true (by
            by_cases c : 10000000000000 < z
            · exact c
            · exact absurd (payB_iff.2 ⟨by omega, by omega⟩) hz)
          clear hz HS hz0
          go_wp2_with fail
          go_ret2
          exact ⟨_, rfl, rowN_nil _ _, Below.refl _ _⟩
    · have ek : k = n := by omega
      subst ek
      exact absurd (unhide HA) (unhide HX)
theorem rroll_any {w : World} {o r : Int} {v : Value} {l : List Int} {rows : List (List Int)} {e : Int} (h : Row w v l) (hr : Res o l r rows e) : RollA 9 w o v r rows e := by
  rcases hr with ⟨rfl, rfl, hk⟩ | ⟨hk, he⟩
  · by_cases hn : l.length = 0
    · obtain ⟨a, cap, rfl⟩ := row_slice h
      exact rroll_n0 a _ cap o r w hn
    by_cases hn1 : 600 < l.length
    · obtain ⟨a, cap, rfl⟩ := row_slice h
      exact rroll_n1 a _ cap o r w hn1
    by_cases h0 : o < 1
    · obtain ⟨a, cap, rfl⟩ := row_slice h
      exact rroll_o0 a _ cap o r w (by omega) (by omega) h0
    by_cases h1 : 10000000000000 < o
    · obtain ⟨a, cap, rfl⟩ := row_slice h
      exact rroll_o1 a _ cap o r w (by omega) (by omega) (by omega) h1
    cases hr : mayB r with
    | false =>
      obtain ⟨a, cap, rfl⟩ := row_slice h
      exact rroll_r a _ cap o r w (by omega) (by omega) (by omega) (by omega) hr
    | true =>
      rcases h with ⟨a, cap, rfl, rfl⟩ | ⟨b, off, cap, rfl, _, _, hc, _⟩
      · exact absurd rfl hn
      · by_cases hp : ∀ x ∈ l, payB x = true
        · exact absurd ⟨by omega, by omega, mayB_iff.1 hr, by omega, by omega, hp⟩ hk
        · exact rroll_pay (by omega) (by omega) (by omega) (by omega) hr hc hp
  · rcases h with ⟨a, cap, rfl, rfl⟩ | ⟨b, off, cap, rfl, _, _, hc, _⟩
    · have := hk.n0; simp at this
    · exact rroll_main hk hc he
end Go.Proofs.Ytmepmmhhiphfiaa.Mn
