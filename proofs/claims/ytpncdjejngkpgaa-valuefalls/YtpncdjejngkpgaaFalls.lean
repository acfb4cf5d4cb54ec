/- Proved here: ValueFalls: amounts of 0 or more are worth no more at a greater rate, and never less than nothing; at 0 what they are together. No condition. -/
import Derived.Test.YtpncdjejngkpgaaVFacts
import Derived.Test.YtpncdjejngkpgaaMSum
import Derived.Deep.CutRange
import Derived.Deep.CutBlock
import Derived.Below
namespace Go.Proofs.Ytpncdjejngkpgaa.Mn.valueFalls
open Go.ChangeShapes Go.WideShapes Go.ChangeAt Go.RowKit
set_option linter.unusedSimpArgs false
/-- An amount, from 0 to MaxMoney. -/
def cl (x : Int) : Int := if x < 0 then 0 else if 10000000000000 < x then 10000000000000 else x
theorem cl_bd (x : Int) : 0 ≤ cl x ∧ cl x ≤ 10000000000000 := by unfold cl; split <;> (try split) <;> omega
theorem summed_total : ∀ l : List Int, summed l = total l
  | [] => rfl
  | x :: l => by show x + summed l = x + total l; rw [summed_total l]
/-- All that the law asks of such amounts. -/
structure Fall (l : List Int) (r s : Int) (a b e f : Int) : Prop where
  re : valE 1 l r = e
  rn : valN 1 l r = a
  se : valE 1 l s = f
  sn : valN 1 l s = b
  ze : valE 1 l 0 = 0
  zn : valN 1 l 0 = total l
  sum : turn (total l) = 0
  eb : e = 3 → r < 0
  fb : f = 3 → s < 0
  a1 : a ≤ 4611686018427387904
  ee : e = 0 ∨ e = 3
  ff : f = 0 ∨ f = 3
  good : e = 0 → f = 0 → b ≤ a ∧ 0 ≤ b ∧ chgE l r s = 0 ∧ chgN l r s = b - a
theorem fall_of {l : List Int} {r s : Int} (hl : ∀ x ∈ l, 0 ≤ x ∧ x ≤ 10000000000000) (hn : l.length ≤ 100) (r0 : -100000000000 ≤ r) (rs : r ≤ s) (s1 : s ≤ 1000000000000) : Fall l r s (valN 1 l r) (valN 1 l s) (valE 1 l r) (valE 1 l s) := by
  have ha : l.all may = true := List.all_eq_true.2 (fun x hx => by have := hl x hx; unfold may; rw [decide_eq_true (by omega), decide_eq_true (by omega)]; rfl)
  have mr : May r := ⟨by omega, by omega⟩
  have ms : May s := ⟨by omega, by omega⟩
  have m0 : May 0 := ⟨by omega, by omega⟩
  have er := valE1_of (r := r) (show l.length ≤ 600 by omega) ha mr
  have es := valE1_of (r := s) (show l.length ≤ 600 by omega) ha ms
  have e0 := valE1_of (r := 0) (show l.length ≤ 600 by omega) ha m0
  have z0 : valE 1 l 0 = 0 := by
    rw [e0]
    split
    · next h => have := over_below m0 hl (by omega) h; omega
    · rfl
  have w0 := worth_within (r := 0) (M := 10000000000000) m0 (Int.le_refl _) (l := l) (fun x hx => by have := hl x hx; omega)
  rw [worth_zero, summed_total] at w0
  refine ⟨rfl, rfl, rfl, rfl, z0, ?_, turn_in ⟨by omega, by omega⟩, ?_, ?_, ?_, ?_, ?_, ?_⟩
  · rw [valN1 z0, worth_zero, summed_total]
  · intro h
    rw [er] at h
    split at h
    · next h1 => exact over_below mr hl (by omega) h1
    · omega
  · intro h
    rw [es] at h
    split at h
    · next h1 => exact over_below ms hl (by omega) h1
    · omega
  · by_cases h : valE 1 l r = 0
    · rw [valN1 h]; exact (fits_in (valE1 h).2.2.2).2
    · rw [valN1_no h]; omega
  · rw [er]; split <;> omega
  · rw [es]; split <;> omega
  · intro h1 h2
    rw [valN1 h1, valN1 h2]
    have g1 := worth_falls mr ms rs (l := l) (fun x hx => (hl x hx).1)
    have g2 := worth_nonneg ms (l := l) (fun x hx => (hl x hx).1)
    have g3 := fits_in (valE1 h1).2.2.2
    have g4 := fits_in (valE1 h2).2.2.2
    refine ⟨g1, g2, ?_, ?_⟩
    · unfold chgE
      rw [if_pos h1, if_pos h2, valN1 h1, valN1 h2]
      exact okE_in (turn_in ⟨by omega, by omega⟩)
    · unfold chgN
      rw [if_pos h1, if_pos h2, valN1 h1, valN1 h2]
      exact okN_in (turn_in ⟨by omega, by omega⟩)
theorem s_long (a0 : Option Addr) (l0 c0 : Nat) (r s : Int) (d1 : decide ((100 : Int) < (l0 : Int)) = true) (hal : Hid Alive) (w : World) : Calls Try.prog 4 #[.slice a0 l0 c0, .int .i64 r, .int .i64 s] w fun e w' => e = .returned (.bool true) ∧ Below w.heap.size w w' := by
  go_enter Try.func4, Try.ntmps4
  go_wp2_with fail
  refine (unhide hal _).mono ?_
  rintro e w1 ⟨rfl, hb⟩
  replace hb := hide hb
  go_wp2_with fail
  go_ret
  exact ⟨rfl, unhide hb⟩
set_option maxRecDepth 100000 in
set_option maxHeartbeats 2000000 in
theorem s_main (a0 : Option Addr) (l0 c0 : Nat) (z0 : List Int) (r s : Int) (d1 : decide ((100 : Int) < (l0 : Int)) = false) (hal : Hid Alive) (w : World) (hR : Hid (Row w (.slice a0 l0 c0) z0)) : Calls Try.prog 4 #[.slice a0 l0 c0, .int .i64 r, .int .i64 s] w fun e w' => e = .returned (.bool true) ∧ Below w.heap.size w w' := by
  have hl := row_len (unhide hR)
  have k3 : (l0 : Int) ≤ 100 := by have := of_decide_eq_false d1; omega
  have Hl := hide hl
  have HT : Hid (∀ k, k < l0 → (z0.take (k + 1)).map cl = (z0.take k).map cl ++ [cl (z0.getD k 0)]) := hide (fun k hk => by
    rw [List.take_succ_eq_append_getElem (by omega), List.map_append]
    congr 1
    simp [List.getD, show k < z0.length by omega])
  have HM : Hid ((z0.take l0).map cl = z0.map cl) := hide (by rw [List.take_of_length_le (by omega)])
  have HF : Hid (∀ R S : Int, -100000000000 ≤ R → R ≤ S → S ≤ 1000000000000 → Fall (z0.map cl) R S (valN 1 (z0.map cl) R) (valN 1 (z0.map cl) S) (valE 1 (z0.map cl) R) (valE 1 (z0.map cl) S)) := hide (fun R S h1 h2 h3 => fall_of (fun x hx => by
    obtain ⟨y, _, rfl⟩ := List.mem_map.1 hx
    exact cl_bd y) (by rw [List.length_map]; omega) h1 h2 h3)
  clear hl
  go_enter Try.func4, Try.ntmps4
  go_wp2_with fail
  refine (unhide hal _).mono ?_
  rintro e w1 ⟨rfl, hb⟩
  replace hR := hide ((unhide hR).below hb (Nat.le_refl _))
  have HB := hide hb
  clear hb
  go_wp2_with fail
  go_loopw [7, 27] (fun v i wr => ∃ k : Nat, k ≤ l0 ∧ i = .int .i64 k ∧ Hid (Grow 2 w1 wr v ((z0.take k).map cl))) (fun _ i _ => l0 - (intOf i).toNat)
  case atStart => exact ⟨0, Nat.zero_le _, rfl, hide (Grow.nil _ _ _ (Below.refl _ _))⟩
  case round =>
    obtain ⟨k, hk, rfl, HG⟩ := hrel
    by_cases hlt : k < l0
    · obtain ⟨b, off, cap, e⟩ := row_open' (unhide hR) (by rw [← unhide Hl]; omega)
      injection e with e1 e2 e3
      subst e1
      clear e2 e3
      have cx := row_cell ((unhide hR).below (unhide HG).below (Nat.le_refl _)) (j := k) (by rw [← unhide Hl]; exact hlt)
      have HX := hide (unhide HT k hlt)
      have i64 := row_in (unhide hR) 
      have hx : In64 (z0.getD k 0) := getD_in i64 k
      have hx1 := hx.lo
      have hx2 := hx.hi
      clear i64 hx
      have HN : Hid (((z0.take k).map cl).length ≤ 1000000) := hide (by simp; omega)
      generalize z0.getD k 0 = x at *
      generalize (z0.take k).map cl = zs at *
      by_cases q1 : x < 0
      · have HZ : Hid (cl x = 0) := hide (by unfold cl; rw [if_pos q1])
        go_wp2_with (at_builtin; refine push_law 2 22 Try.underlying22 info2 rfl _ _ rfl w1 wr _ zs 0 (unhide HG) rfl rfl (unhide HN) ⟨by omega, by omega⟩ ?_)
        intro v' w2 hG2
        have HG2 := hide hG2
        clear hG2
        go_wp2_with fail
        go_roundw
        case rel => exact ⟨k + 1, by omega, by go_num, by rw [unhide HX, unhide HZ]; exact HG2⟩
        case measure => simp [intOf]; omega
      · by_cases q2 : 10000000000000 < x
        · have HZ : Hid (cl x = 10000000000000) := hide (by unfold cl; rw [if_neg q1, if_pos q2])
          go_wp2_with (at_builtin; refine push_law 2 22 Try.underlying22 info2 rfl _ _ rfl w1 wr _ zs 10000000000000 (unhide HG) rfl rfl (unhide HN) ⟨by omega, by omega⟩ ?_)
          intro v' w2 hG2
          have HG2 := hide hG2
          clear hG2
          go_wp2_with fail
          go_roundw
          case rel => exact ⟨k + 1, by omega, by go_num, by rw [unhide HX, unhide HZ]; exact HG2⟩
          case measure => simp [intOf]; omega
        · have HZ : Hid (cl x = x) := hide (by unfold cl; rw [if_neg q1, if_neg q2])
          go_wp2_with (at_builtin; refine push_law 2 22 Try.underlying22 info2 rfl _ _ rfl w1 wr _ zs x (unhide HG) rfl rfl (unhide HN) ⟨by omega, by omega⟩ ?_)
          intro v' w2 hG2
          have HG2 := hide hG2
          clear hG2
          go_wp2_with fail
          go_roundw
          case rel => exact ⟨k + 1, by omega, by go_num, by rw [unhide HX, unhide HZ]; exact HG2⟩
          case measure => simp [intOf]; omega
    · have hk2 : k = l0 := by omega
      subst hk2
      rw [unhide HM] at HG
      have HB2 := hide (below_via (unhide HB) (unhide HG).below)
      have HO := hide ((unhide HG).row (by rw [List.length_map, ← unhide Hl]; unfold maxLen; omega))
      clear HG HT HM hR HB 
      go_upto_region 11 with fail
      go_cut [1, 2] from 38 to 121 (fun p q wx => ∃ R S : Int, p = .int .i64 R ∧ q = .int .i64 S ∧ -100000000000 ≤ R ∧ R ≤ S ∧ S ≤ 1000000000000 ∧ wx = wr)
      case first =>
        clear Hl HF HB2 HO k3 d1 hlt hk
        rcases Int.lt_trichotomy r s with t1 | t1 | t1
        · have t2 : r ≤ s := by omega
          by_cases h1 : r < -100000000000
          · by_cases h2 : s < -100000000000
            · go_wp2_with fail
              go_meet
              exact ⟨_, _, rfl, rfl, by omega, by omega, by omega, rfl⟩
            · by_cases g2 : s ≤ 1000000000000
              · go_wp2_with fail
                go_meet
                exact ⟨_, _, rfl, rfl, by omega, by omega, by omega, rfl⟩
              · have k2 : 1000000000000 < s := by omega
                go_wp2_with fail
                go_meet
                exact ⟨_, _, rfl, rfl, by omega, by omega, by omega, rfl⟩
          · by_cases g1 : r ≤ 1000000000000
            · by_cases h2 : s < -100000000000
              · go_wp2_with fail
                go_meet
                exact ⟨_, _, rfl, rfl, by omega, by omega, by omega, rfl⟩
              · by_cases g2 : s ≤ 1000000000000
                · go_wp2_with fail
                  go_meet
                  exact ⟨_, _, rfl, rfl, by omega, by omega, by omega, rfl⟩
                · have k2 : 1000000000000 < s := by omega
                  go_wp2_with fail
                  go_meet
                  exact ⟨_, _, rfl, rfl, by omega, by omega, by omega, rfl⟩
            · have k1 : 1000000000000 < r := by omega
              by_cases h2 : s < -100000000000
              · go_wp2_with fail
                go_meet
                exact ⟨_, _, rfl, rfl, by omega, by omega, by omega, rfl⟩
              · by_cases g2 : s ≤ 1000000000000
                · go_wp2_with fail
                  go_meet
                  exact ⟨_, _, rfl, rfl, by omega, by omega, by omega, rfl⟩
                · have k2 : 1000000000000 < s := by omega
                  go_wp2_with fail
                  go_meet
                  exact ⟨_, _, rfl, rfl, by omega, by omega, by omega, rfl⟩
        · subst t1
          by_cases h1 : r < -100000000000
          · go_wp2_with fail
            go_meet
            exact ⟨_, _, rfl, rfl, by omega, by omega, by omega, rfl⟩
          · by_cases g1 : r ≤ 1000000000000
            · go_wp2_with fail
              go_meet
              exact ⟨_, _, rfl, rfl, by omega, by omega, by omega, rfl⟩
            · have k1 : 1000000000000 < r := by omega
              go_wp2_with fail
              go_meet
              exact ⟨_, _, rfl, rfl, by omega, by omega, by omega, rfl⟩
        · have t2 : ¬ r ≤ s := by omega
          have t3 : ¬ r < s := by omega
          by_cases h1 : s < -100000000000
          · by_cases h2 : r < -100000000000
            · go_wp2_with fail
              go_meet
              exact ⟨_, _, rfl, rfl, by omega, by omega, by omega, rfl⟩
            · by_cases g2 : r ≤ 1000000000000
              · go_wp2_with fail
                go_meet
                exact ⟨_, _, rfl, rfl, by omega, by omega, by omega, rfl⟩
              · have k2 : 1000000000000 < r := by omega
                go_wp2_with fail
                go_meet
                exact ⟨_, _, rfl, rfl, by omega, by omega, by omega, rfl⟩
          · by_cases g1 : s ≤ 1000000000000
            · by_cases h2 : r < -100000000000
              · go_wp2_with fail
                go_meet
                exact ⟨_, _, rfl, rfl, by omega, by omega, by omega, rfl⟩
              · by_cases g2 : r ≤ 1000000000000
                · go_wp2_with fail
                  go_meet
                  exact ⟨_, _, rfl, rfl, by omega, by omega, by omega, rfl⟩
                · have k2 : 1000000000000 < r := by omega
                  go_wp2_with fail
                  go_meet
                  exact ⟨_, _, rfl, rfl, by omega, by omega, by omega, rfl⟩
            · have k1 : 1000000000000 < s := by omega
              by_cases h2 : r < -100000000000
              · go_wp2_with fail
                go_meet
                exact ⟨_, _, rfl, rfl, by omega, by omega, by omega, rfl⟩
              · by_cases g2 : r ≤ 1000000000000
                · go_wp2_with fail
                  go_meet
                  exact ⟨_, _, rfl, rfl, by omega, by omega, by omega, rfl⟩
                · have k2 : 1000000000000 < r := by omega
                  go_wp2_with fail
                  go_meet
                  exact ⟨_, _, rfl, rfl, by omega, by omega, by omega, rfl⟩
      case rest =>
        obtain ⟨R, S, rfl, rfl, r0, rs, s1, rfl⟩ := hcut
        clear d1 k3 hlt hk
        have hF := unhide HF R S r0 rs s1
        clear HF r0 rs s1
        generalize z0.map cl = own at *
        obtain ⟨a, ha⟩ : ∃ a, valN 1 own R = a := ⟨_, rfl⟩
        obtain ⟨b', hb'⟩ : ∃ b, valN 1 own S = b := ⟨_, rfl⟩
        obtain ⟨E, hE⟩ : ∃ e, valE 1 own R = e := ⟨_, rfl⟩
        obtain ⟨F, hFe⟩ : ∃ f, valE 1 own S = f := ⟨_, rfl⟩
        rw [ha, hb', hE, hFe] at hF
        have H1 : Hid (∀ w', Row w' u7 own → NowA 11 w' #[u7, .int .i64 R] a E) := hide (fun w' h => by have := of_any R h; rwa [ha, hE] at this)
        have H2 : Hid (∀ w', Row w' u7 own → NowA 11 w' #[u7, .int .i64 S] b' F) := hide (fun w' h => by have := of_any S h; rwa [hb', hFe] at this)
        have H0 : Hid (∀ w', Row w' u7 own → NowA 11 w' #[u7, .int .i64 0] (total own) 0) := hide (fun w' h => by have := of_any 0 h; rwa [hF.zn, hF.ze] at this)
        have H3 : Hid (∀ w', Row w' u7 own → Calls Try.prog 17 #[u7] w' fun e w2 => e = .returned (.tuple #[.int .i64 (total own), .int .i64 0]) ∧ w' = w2) := hide (fun w' h => by have := sum_any u7 own w' h; rwa [okN_in hF.sum, okE_in hF.sum] at this)
        have H4 : Hid (∀ w', Row w' u7 own → NowA 16 w' #[u7, .int .i64 R, .int .i64 S] (chgN own R S) (chgE own R S)) := hide (fun w' h => change_any R S h)
        obtain ⟨_, _, _, _, _, _, _, eb, fb, a1, ee, ff, good⟩ := hF
        have tq : (total own != total own) = false := by simp
        generalize total own = T at *
        clear ha hb' hE hFe
        unfold NowA at *
        rcases ee with rfl | rfl
        · rcases ff with rfl | rfl
          · obtain ⟨g1, g2, g3, g4⟩ := good rfl rfl
            rw [g3, g4] at H4
            clear eb fb g3 g4 good
            have i1 : wrap64 (b' - a) = b' - a := wrap_in ⟨by omega, by omega⟩
            have i2 : (b' - a == b' - a) = true := by simp
            have i3 : decide (b' ≤ a) = true := decide_eq_true g1
            have i4 : decide (0 ≤ b') = true := decide_eq_true g2
            go_wp2_with fail
            refine (unhide H1 _ (unhide HO)).mono ?_
            rintro e w2 ⟨rfl, hb⟩
            replace HO := hide ((unhide HO).below hb (Nat.le_refl _))
            replace HB2 := hide (below_via (unhide HB2) hb)
            clear hb H1
            go_wp2_with fail
            refine (unhide H2 _ (unhide HO)).mono ?_
            rintro e w3 ⟨rfl, hb⟩
            replace HO := hide ((unhide HO).below hb (Nat.le_refl _))
            replace HB2 := hide (below_via (unhide HB2) hb)
            clear hb H2
            go_wp2_with fail
            refine (unhide H3 _ (unhide HO)).mono ?_
            rintro e w4 ⟨rfl, rfl⟩
            go_wp2_with fail
            refine (unhide H0 _ (unhide HO)).mono ?_
            rintro e w5 ⟨rfl, hb⟩
            replace HO := hide ((unhide HO).below hb (Nat.le_refl _))
            replace HB2 := hide (below_via (unhide HB2) hb)
            clear hb H0
            go_wp2_with fail
            refine (unhide H4 _ (unhide HO)).mono ?_
            rintro e w6 ⟨rfl, hb⟩
            replace HB2 := hide (below_via (unhide HB2) hb)
            clear hb
            go_wp2_with fail
            go_ret
            exact ⟨rfl, unhide HB2⟩
          · have i1 : decide (S < 0) = true := decide_eq_true (fb rfl)
            clear eb fb good H4
            go_wp2_with fail
            refine (unhide H1 _ (unhide HO)).mono ?_
            rintro e w2 ⟨rfl, hb⟩
            replace HO := hide ((unhide HO).below hb (Nat.le_refl _))
            replace HB2 := hide (below_via (unhide HB2) hb)
            clear hb H1
            go_wp2_with fail
            refine (unhide H2 _ (unhide HO)).mono ?_
            rintro e w3 ⟨rfl, hb⟩
            replace HO := hide ((unhide HO).below hb (Nat.le_refl _))
            replace HB2 := hide (below_via (unhide HB2) hb)
            clear hb H2
            go_wp2_with fail
            refine (unhide H3 _ (unhide HO)).mono ?_
            rintro e w4 ⟨rfl, rfl⟩
            go_wp2_with fail
            refine (unhide H0 _ (unhide HO)).mono ?_
            rintro e w5 ⟨rfl, hb⟩
            replace HO := hide ((unhide HO).below hb (Nat.le_refl _))
            replace HB2 := hide (below_via (unhide HB2) hb)
            clear hb H0
            go_wp2_with fail
            go_ret
            exact ⟨rfl, unhide HB2⟩
        · have i1 : decide (R < 0) = true := decide_eq_true (eb rfl)
          clear eb fb good H4
          rcases ff with rfl | rfl
          · skip
            go_wp2_with fail
            refine (unhide H1 _ (unhide HO)).mono ?_
            rintro e w2 ⟨rfl, hb⟩
            replace HO := hide ((unhide HO).below hb (Nat.le_refl _))
            replace HB2 := hide (below_via (unhide HB2) hb)
            clear hb H1
            go_wp2_with fail
            refine (unhide H2 _ (unhide HO)).mono ?_
            rintro e w3 ⟨rfl, hb⟩
            replace HO := hide ((unhide HO).below hb (Nat.le_refl _))
            replace HB2 := hide (below_via (unhide HB2) hb)
            clear hb H2
            go_wp2_with fail
            refine (unhide H3 _ (unhide HO)).mono ?_
            rintro e w4 ⟨rfl, rfl⟩
            go_wp2_with fail
            refine (unhide H0 _ (unhide HO)).mono ?_
            rintro e w5 ⟨rfl, hb⟩
            replace HO := hide ((unhide HO).below hb (Nat.le_refl _))
            replace HB2 := hide (below_via (unhide HB2) hb)
            clear hb H0
            go_wp2_with fail
            go_ret
            exact ⟨rfl, unhide HB2⟩
          · skip
            go_wp2_with fail
            refine (unhide H1 _ (unhide HO)).mono ?_
            rintro e w2 ⟨rfl, hb⟩
            replace HO := hide ((unhide HO).below hb (Nat.le_refl _))
            replace HB2 := hide (below_via (unhide HB2) hb)
            clear hb H1
            go_wp2_with fail
            refine (unhide H2 _ (unhide HO)).mono ?_
            rintro e w3 ⟨rfl, hb⟩
            replace HO := hide ((unhide HO).below hb (Nat.le_refl _))
            replace HB2 := hide (below_via (unhide HB2) hb)
            clear hb H2
            go_wp2_with fail
            refine (unhide H3 _ (unhide HO)).mono ?_
            rintro e w4 ⟨rfl, rfl⟩
            go_wp2_with fail
            refine (unhide H0 _ (unhide HO)).mono ?_
            rintro e w5 ⟨rfl, hb⟩
            replace HO := hide ((unhide HO).below hb (Nat.le_refl _))
            replace HB2 := hide (below_via (unhide HB2) hb)
            clear hb H0
            go_wp2_with fail
            go_ret
            exact ⟨rfl, unhide HB2⟩
theorem walk (a0 : Option Addr) (l0 c0 : Nat) (z0 : List Int) (r s : Int) (w : World) (h0 : Row w (.slice a0 l0 c0) z0) (_hc0 : l0 ≤ c0) (_h1 : (Lit.int .i64 r).wf = true) (_h2 : (Lit.int .i64 s).wf = true) : Calls Try.prog 4 #[.slice a0 l0 c0, .int .i64 r, .int .i64 s] w fun e w' => e = .returned (.bool true) ∧ Below w.heap.size w w' := by
  have hal := hide alive_any
  by_cases q : (100 : Int) < (l0 : Int)
  · exact s_long a0 l0 c0 r s (decide_eq_true q) hal w
  · exact s_main a0 l0 c0 z0 r s (decide_eq_false q) hal w (hide h0)
theorem own : ownKnob Try.prog.godebug = none := by kernel_rfl
theorem laidOut : laidOutB Try.prog = true := by kernel_rfl
set_option linter.unusedVariables false in
set_option maxRecDepth 100000 in
theorem lifted (os : Os) (started : os.Started) (H : Type) (enc : TypeId × Value → H) :
    ReturnsInHanded {} Try.checked os 4 .any (Rows.valueFallsSpec.pre6 enc Try.prog Try.f4 Rows.valueFallsRow.domain false) (Rows.valueFallsSpec.post enc Try.prog Try.f4 false true false false) := by
  refine returnsInHanded_of_change (C := Try.checked) own started (by kernel_rfl) Try.func4
    (ChangeSpec.witness6 (enc := enc) (C := Try.checked) false ⟨#[], #[.slice none 0 0, .int .i64 0, .int .i64 0], []⟩ 8 (by kernel_rfl) (by kernel_rfl) (by kernel_rfl) (by kernel_rfl)) ?_
  intro W base args ds gs before hval0 hW hcnd _
  have hval : ∀ (j : Nat) t v, Try.f4.params[j]? = some t → args[j]? = some v → Value.okWide Try.prog W .any base t v := hval0
  have hW' := hW
  obtain ⟨p, q, hA0, hV, rfl, hfz, hnd⟩ := hW
  have hA : DataW.TrodAll enc Try.prog W 0 (fun _ => true) true Try.f4.params.toList args.toList ds p := hA0
  rw [Try.params4] at hA hval
  obtain ⟨v0, vs0, d0, ds0, p0, q0, hargs, rfl, rfl, h0, r0⟩ := trodAll_cons hA
  obtain ⟨v1, vs1, d1, ds1, p1, q1, rfl, rfl, rfl, h1, r1⟩ := trodAll_cons r0
  obtain ⟨v2, vs2, d2, ds2, p2, q2, rfl, rfl, rfl, h2, r2⟩ := trodAll_cons r1
  obtain ⟨rfl, rfl, rfl⟩ := trodAll_nil r2
  obtain rfl : args = #[v0, v1, v2] := by cases args; simp_all
  obtain ⟨rfl, rfl⟩ := trodVars_none hV
  obtain ⟨a0, len0, cap0, rfl⟩ := okWide_slice Try.underlying22 (hval 0 22 v0 rfl rfl)
  have k0 := h0
  have lt0 : ∀ x ∈ p0, x.block < W.heap.size := by obtain ⟨m, hm⟩ := k0; exact DataW.trod_lt m _ _ _ hm
  obtain ⟨z0, w0, cc0⟩ : ∃ zs : List Int, Row W (.slice a0 len0 cap0) zs ∧ len0 ≤ cap0 := by
    obtain ⟨fuel, hf⟩ := h0
    rcases open_ints Try.underlying22 Try.underlying2 (by kernel_rfl) hf with ⟨hcs, _⟩ | ⟨x, l, c, zs, hcs, _, hl, hm, hz, _, hcell, hwz⟩
    · simp [Value.cells] at hcs
      obtain ⟨rfl, rfl, rfl⟩ := hcs
      exact ⟨[], .inl ⟨_, _, rfl, rfl⟩, Nat.le_refl _⟩
    · simp [Value.cells] at hcs
      obtain ⟨rfl, rfl, rfl⟩ := hcs
      obtain ⟨ys, hy⟩ := row_open hl hm (by simpa using hz) hcell hwz
      exact ⟨ys, hy, hl⟩
  obtain ⟨a1, rfl, rfl, rfl, w1⟩ := open_int Try.underlying2 (hval 1 2 v1 rfl rfl) h1
  obtain ⟨a2, rfl, rfl, rfl, w2⟩ := open_int Try.underlying2 (hval 2 2 v2 rfl rfl) h2
  clear hA0 hval0
  refine (walk a0 len0 cap0 z0 a1 a2 W w0 cc0 w1 w2).mono fun e W' ⟨he, bel⟩ => ?_
  subst he
  exact ⟨_, rfl, _, _, _, [], _, [], hW', trodAll_mk1 (shut_bool Try.underlying4 _), (trodAll_cons_mk (Below.trod laidOut (by kernel_rfl) (of_decide_eq_true (by kernel_rfl)) k0 bel lt0) (trodAll_cons_mk (shut_int Try.underlying2 w1) (trodAll_cons_mk (shut_int Try.underlying2 w2) trodAll_mk0))), rfl, bel.frame _, fun h => by cases h⟩
theorem over : Rows.valueFallsRow.holds Try.pinned (OpenSpec.ofChange Rows.valueFallsSpec) :=
  OpenClaim.holds_of_wide 4 Try.f4 rfl rfl rfl rfl rfl rfl rfl ⟨rfl, rfl, rfl, rfl, rfl⟩ rfl rfl rfl rfl rfl (by kernel_rfl) Try.func4 (by kernel_rfl)
    (of_decide_eq_true (by kernel_rfl)) (by unfold Func.isWrapper; first | (rw [if_pos (by decide +kernel)]; kernel_rfl) | (rw [if_neg (by decide +kernel)]; exact ⟨rfl, rfl⟩))
    (fun os started H enc _ => lifted os started H enc)
/-- The statement. -/
theorem proved : Rows.ValueFallsSaid := over
#print axioms proved
end Go.Proofs.Ytpncdjejngkpgaa.Mn.valueFalls
namespace Go.Proofs.Ytpncdjejngkpgaa
theorem valueFalls_holds : Rows.ValueFallsSaid := Mn.valueFalls.proved
end Go.Proofs.Ytpncdjejngkpgaa
