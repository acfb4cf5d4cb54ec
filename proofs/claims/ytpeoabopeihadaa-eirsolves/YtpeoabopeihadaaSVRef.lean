/- What the document's All, Of and Fine answer: what value's do. -/
import Derived.Test.YtpeoabopeihadaaSVFacts
import Derived.Test.YtpeoabopeihadaaSBits14
import Derived.Test.YtpeoabopeihadaaSTri
import Derived.Deep.QuietTactic
import Derived.BigQuiet
set_option linter.unusedVariables false
set_option linter.unusedSimpArgs false
set_option linter.unusedSectionVars false
namespace Go.Proofs.Ytpeoabopeihadaa.Mn
open Go.RowKit
attribute [local simp] Tri.typeInfo Tri.sizeOf Tri.underlying Tri.runUnderlying Tri.isAgg Tri.zeroValue Tri.depth Tri.stoodInHeld Tri.eqGuardType Tri.call15 Tri.call14 Tri.call16 Tri.call17 Tri.call18 Tri.call19 Tri.call20 Tri.call46 Tri.call49 Tri.call50 Tri.call51 Tri.call52 Tri.call53 Tri.call54 Tri.call55 Tri.call65 Tri.call95 Tri.call106 Tri.call107 Tri.call108 Tri.call109 Tri.call116 Tri.call117 Tri.call118 Tri.call119 Tri.call120 Tri.call122 Tri.call135 Tri.call136 Tri.call137 Tri.call143 Tri.call144 Tri.call145 Tri.call146 Tri.call147 Tri.call149 Tri.call150 Tri.call151 Tri.call152 Tri.call156 Tri.call157 Tri.call159 Tri.call160 Tri.call161 Tri.call162 Tri.call163 Tri.call164 Tri.call165 Tri.call166 Tri.call167 Tri.call175 Tri.call176 Tri.call178 Tri.call179 Tri.call180 Tri.call181 Tri.call182 Tri.call183 Tri.call186 Tri.call187 Tri.call188 Tri.call204 Tri.call205
def TimA (w : World) (v : Value) (l : List Int) (r b : Int) : Prop := Calls (Tri Try.prog) 135 #[v, .int .i64 r, .int .i64 b] w (fun e w' => WorPost w b l r e w')
theorem no_post {w : World} {b : Int} {l : List Int} {r e : Int} (h : valE b l r = e) (h0 : e ≠ 0) : WorPost w b l r (.returned (.tuple #[.slice none 0 0, .int .i64 e])) w := by
  refine ⟨_, by rw [h], ?_, Below.refl _ _⟩
  unfold valL
  rw [if_neg (by rw [h]; exact h0)]
  exact Or.inl ⟨_, _, rfl, rfl⟩
theorem tim_long {w : World} {v : Value} {l : List Int} {r b : Int} (hR : Row w v l) (h : 600 < l.length) : TimA w v l r b := by
  obtain ⟨a, c, rfl⟩ := row_slice hR
  have HP := hide (no_post (w := w) (b := b) (l := l) (r := r) (e := 10) (by unfold valE; rw [if_pos h]) (by decide))
  unfold TimA
  clear hR
  generalize l.length = len at *
  have d : decide ((600 : Int) < (len : Int)) = true := decide_eq_true (by omega)
  go_enter (Tri.at (by decide) Try.func135), Try.ntmps135
  go_wp2_with fail
  go_ret2
  exact unhide HP
theorem ramount_yes {a : Int} (h : may a = true) (w : World) : Calls (Tri Try.prog) 149 #[.int .i64 a] w fun e w' => e = .returned (.bool true) ∧ w = w' := by
  have := Mn.rmay_any a w
  rwa [h] at this
theorem ramount_no {a : Int} (h : may a = false) (w : World) : Calls (Tri Try.prog) 149 #[.int .i64 a] w fun e w' => e = .returned (.bool false) ∧ w = w' := by
  have := Mn.rmay_any a w
  rwa [h] at this
theorem rrate_any (r : Int) (w : World) : Calls (Tri Try.prog) 53 #[.int .i64 r] w fun e w' => e = .returned (.bool (mayB r)) ∧ w = w' := _root_.Go.Proofs.Ytpeoabopeihadaa.rmay_any r w
theorem rrate_yes {r : Int} (h : mayB r = true) (w : World) : Calls (Tri Try.prog) 53 #[.int .i64 r] w fun e w' => e = .returned (.bool true) ∧ w = w' := by
  have := rrate_any r w
  rwa [h] at this
theorem rrate_no {r : Int} (h : mayB r = false) (w : World) : Calls (Tri Try.prog) 53 #[.int .i64 r] w fun e w' => e = .returned (.bool false) ∧ w = w' := by
  have := rrate_any r w
  rwa [h] at this
theorem radd_no {a b : Int} (ha : In64 a) (hb : In64 b) (h : ¬ In64 (a + b)) (w : World) : Calls (Tri Try.prog) 150 #[.int .i64 a, .int .i64 b] w fun e w' => e = .returned (.tuple #[.int .i64 0, .int .i64 3]) ∧ w = w' := by
  have := radd_any a b ha hb w
  have ht : ¬ turn (a + b) = 0 := fun c => h (in_of_turn c)
  rwa [okN_out ht, okE_out ht] at this
theorem radd_yes {a b : Int} (ha : In64 a) (hb : In64 b) (h : In64 (a + b)) (w : World) : Calls (Tri Try.prog) 150 #[.int .i64 a, .int .i64 b] w fun e w' => e = .returned (.tuple #[.int .i64 (a + b), .int .i64 0]) ∧ w = w' := by
  have := radd_any a b ha hb w
  rwa [okN_in (turn_in h), okE_in (turn_in h)] at this
theorem Own.drewN {w wr : World} {P len : Nat} {f : Nat → Int} (h : Own w wr P len f) (n : Nat) : Own w (wr.drewN n) P len f :=
  ⟨h.below.trans ⟨rfl, rfl, rfl, Nat.le_refl _, fun _ _ => rfl⟩, h.row⟩
theorem mem_at {l : List Int} {j : Nat} (hj : j < l.length) : l.getD j 0 ∈ l := by
  rw [show l.getD j 0 = l[j] by simp [List.getD, hj]]
  exact List.getElem_mem hj
set_option maxHeartbeats 800000 in
theorem tim_amt {w : World} {a0 : Option Addr} {l0 c0 : Nat} {l : List Int} {r b : Int} (hR : Hid (Row w (.slice a0 l0 c0) l)) (h6 : ¬ 600 < l0) (hx : Hid (∃ x ∈ l, may x = false)) : TimA w (.slice a0 l0 c0) l r b := by
  have Hl := hide (row_len (unhide hR))
  have HP := hide (no_post (w := w) (b := b) (l := l) (r := r) (e := 2) (by
    obtain ⟨x, h1, h2⟩ := unhide hx
    unfold valE
    rw [if_neg (by rw [← unhide Hl]; exact h6), if_pos]
    exact List.all_eq_false.2 ⟨x, h1, by simp [h2]⟩) (by decide))
  unfold TimA
  have d : decide ((600 : Int) < (l0 : Int)) = false := decide_eq_false (by omega)
  go_enter (Tri.at (by decide) Try.func135), Try.ntmps135
  go_wp2_with fail
  go_loop [20] (fun i => ∃ k : Nat, k ≤ l0 ∧ i = .int .i64 k ∧ Hid (∀ j, j < k → may (l.getD j 0) = true)) (fun i => l0 - (intOf i).toNat)
  case atStart => exact ⟨0, Nat.zero_le _, rfl, hide (fun j hj => absurd hj (Nat.not_lt_zero j))⟩
  case round =>
    obtain ⟨k, hk, rfl, HA⟩ := hrel
    by_cases hlt : k < l0
    · obtain ⟨b1, off, cap, e⟩ := row_open' (unhide hR) (by rw [← unhide Hl]; omega)
      injection e with e1 e2 e3
      subst e1
      clear e2 e3
      have ck := row_cell (unhide hR) (j := k) (by rw [← unhide Hl]; exact hlt)
      have HX := hide (mem_at (l := l) (j := k) (by rw [← unhide Hl]; exact hlt))
      have HS : Hid (may (l.getD k 0) = true → ∀ j, j < k + 1 → may (l.getD j 0) = true) := hide (fun h j hj => by
        by_cases e : j = k
        · rw [e]; exact h
        · exact unhide HA j (by omega))
      generalize l.getD k 0 = z at *
      cases hz : may z with
      | true =>
        replace HS := hide (unhide HS hz)
        have HM := hide (ramount_yes hz)
        clear hz
        go_wp2_with fail
        refine (unhide HM _).mono ?_
        rintro e1 w1 ⟨rfl, rfl⟩
        go_wp2_with fail
        go_round
        case rel => exact ⟨k + 1, by omega, by go_num, HS⟩
        case measure => simp [intOf]; omega
      | false =>
        have HM := hide (ramount_no hz)
        clear hz HS
        go_wp2_with fail
        refine (unhide HM _).mono ?_
        rintro e1 w1 ⟨rfl, rfl⟩
        go_wp2_with fail
        go_ret2
        exact unhide HP
    · exfalso
      obtain ⟨x, h1, h2⟩ := unhide hx
      obtain ⟨j, hj, rfl⟩ := List.getElem_of_mem h1
      have := unhide HA j (by have := unhide Hl; omega)
      rw [show l.getD j 0 = l[j] by simp [List.getD, hj], h2] at this
      cases this
set_option maxHeartbeats 800000 in
theorem tim_rate {w : World} {a0 : Option Addr} {l0 c0 : Nat} {l : List Int} {r b : Int} (hR : Hid (Row w (.slice a0 l0 c0) l)) (h6 : ¬ 600 < l0) (hx : Hid (l.all may = true)) (hr : mayB r = false) : TimA w (.slice a0 l0 c0) l r b := by
  have Hl := hide (row_len (unhide hR))
  have HP := hide (no_post (w := w) (b := b) (l := l) (r := r) (e := 2) (by
    unfold valE
    rw [if_neg (by rw [← unhide Hl]; exact h6), if_neg (by rw [unhide hx]; decide), if_pos hr]) (by decide))
  unfold TimA
  have d : decide ((600 : Int) < (l0 : Int)) = false := decide_eq_false (by omega)
  have HR := hide (rrate_no hr)
  clear hr
  go_enter (Tri.at (by decide) Try.func135), Try.ntmps135
  go_wp2_with fail
  go_loop [20] (fun i => ∃ k : Nat, k ≤ l0 ∧ i = .int .i64 k ∧ Hid (∀ j, j < k → may (l.getD j 0) = true)) (fun i => l0 - (intOf i).toNat)
  case atStart => exact ⟨0, Nat.zero_le _, rfl, hide (fun j hj => absurd hj (Nat.not_lt_zero j))⟩
  case round =>
    obtain ⟨k, hk, rfl, HA⟩ := hrel
    by_cases hlt : k < l0
    · obtain ⟨b1, off, cap, e⟩ := row_open' (unhide hR) (by rw [← unhide Hl]; omega)
      injection e with e1 e2 e3
      subst e1
      clear e2 e3
      have ck := row_cell (unhide hR) (j := k) (by rw [← unhide Hl]; exact hlt)
      have HX := hide (mem_at (l := l) (j := k) (by rw [← unhide Hl]; exact hlt))
      have HS : Hid (may (l.getD k 0) = true → ∀ j, j < k + 1 → may (l.getD j 0) = true) := hide (fun h j hj => by
        by_cases e : j = k
        · rw [e]; exact h
        · exact unhide HA j (by omega))
      generalize l.getD k 0 = z at *
      have hz : may z = true := List.all_eq_true.1 (unhide hx) z (unhide HX)
      · skip
        replace HS := hide (unhide HS hz)
        have HM := hide (ramount_yes hz)
        clear hz
        go_wp2_with fail
        refine (unhide HM _).mono ?_
        rintro e1 w1 ⟨rfl, rfl⟩
        go_wp2_with fail
        go_round
        case rel => exact ⟨k + 1, by omega, by go_num, HS⟩
        case measure => simp [intOf]; omega
    · have hk2 : k = l0 := by omega
      subst hk2
      go_wp2_with fail
      refine (unhide HR _).mono ?_
      rintro e1 w1 ⟨rfl, rfl⟩
      go_wp2_with fail
      go_ret2
      exact unhide HP
set_option maxHeartbeats 2000000 in
theorem tim_main {w : World} {a0 : Option Addr} {l0 c0 : Nat} {l : List Int} {r b : Int} (hR : Hid (Row w (.slice a0 l0 c0) l)) (h6 : ¬ 600 < l0) (hx : Hid (l.all may = true)) (hr : mayB r = true) (hb : b = 1 ∨ b = 1000) : TimA w (.slice a0 l0 c0) l r b := by
  have Hl := hide (row_len (unhide hR))
  have hM : May r := by unfold mayB at hr; simpa [May] using hr
  have hck : chkE l r = 0 := by
    unfold chkE
    rw [if_neg (by rw [← unhide Hl]; exact h6), if_neg (by rw [hr]; decide), if_neg (by rw [unhide hx]; decide)]
  have HE := hide (fun (e : Ending) (w' : World) => wor_end (w := w) (W := w) (b := b) (e := e) (w' := w') hck (Below.refl _ _))
  obtain ⟨L, hL⟩ : ∃ L, l.map (· * b) = L := ⟨_, rfl⟩
  have hlen : L.length = l0 := by rw [← hL, List.length_map]; exact (unhide Hl).symm
  have HG : Hid (∀ k, k < l0 → L.getD k 0 = l.getD k 0 * b ∧ In64 (l.getD k 0 * b)) := hide (fun k hk => by
    have hk' : k < l.length := by rw [← unhide Hl]; exact hk
    have e1 : l.getD k 0 = l[k] := by simp [List.getD, hk']
    refine ⟨?_, all_bd (unhide hx) hb _ (mem_at hk')⟩
    rw [← hL, e1]; simp [List.getD, hk'])
  rw [hL, ← unhide Hl] at HE
  unfold FoldPost at HE
  have HW : Hid (∀ k, k < l0 → worth r (L.drop k) = qD (worth r (L.drop (k + 1)) + L.getD k 0) r) := hide (fun k hk => worth_drop (by omega))
  have HF : Hid (∀ k, k < l0 → fits r (L.drop k) = (fits r (L.drop (k + 1)) && fitB (worth r (L.drop (k + 1)) + L.getD k 0) (worth r (L.drop k)))) := hide (fun k hk => fits_step (by omega))
  have HN : Hid (∀ k, k < l0 → fitB (worth r (L.drop (k + 1)) + L.getD k 0) (worth r (L.drop k)) = false → fits r L = false) := hide (fun k hk => not_fits (by omega))
  have H0 : Hid (fits r (L.drop l0) = true) := hide (by rw [List.drop_eq_nil_of_le (by omega)]; rfl)
  have HY : Hid (fits r (L.drop 0) = fits r L) := hide rfl
  have HZ : Hid (∀ j, worthAt r L l0 j = 0) := hide (fun j => by rw [← hlen]; exact worthAt_end r L j)
  have hmk := make_next l0 (by omega)
  have HO := hide (made_own w (l0 + 1))
  unfold TimA
  have d : decide ((600 : Int) < (l0 : Int)) = false := decide_eq_false (by omega)
  have HR := hide (rrate_yes hr)
  clear hr hL hlen hb hck
  go_enter (Tri.at (by decide) Try.func135), Try.ntmps135
  go_wp2_with fail
  go_loop [20] (fun i => ∃ k : Nat, k ≤ l0 ∧ i = .int .i64 k ∧ Hid (∀ j, j < k → may (l.getD j 0) = true)) (fun i => l0 - (intOf i).toNat)
  case atStart => exact ⟨0, Nat.zero_le _, rfl, hide (fun j hj => absurd hj (Nat.not_lt_zero j))⟩
  case round =>
    obtain ⟨k, hk, rfl, HA⟩ := hrel
    by_cases hlt : k < l0
    · obtain ⟨b1, off, cap, e⟩ := row_open' (unhide hR) (by rw [← unhide Hl]; omega)
      injection e with e1 e2 e3
      subst e1
      clear e2 e3
      have ck := row_cell (unhide hR) (j := k) (by rw [← unhide Hl]; exact hlt)
      have HX := hide (mem_at (l := l) (j := k) (by rw [← unhide Hl]; exact hlt))
      have HS : Hid (may (l.getD k 0) = true → ∀ j, j < k + 1 → may (l.getD j 0) = true) := hide (fun h j hj => by
        by_cases e : j = k
        · rw [e]; exact h
        · exact unhide HA j (by omega))
      generalize l.getD k 0 = z at *
      have hz : may z = true := List.all_eq_true.1 (unhide hx) z (unhide HX)
      · skip
        replace HS := hide (unhide HS hz)
        have HM := hide (ramount_yes hz)
        clear hz
        go_wp2_with fail
        refine (unhide HM _).mono ?_
        rintro e1 w1 ⟨rfl, rfl⟩
        go_wp2_with fail
        go_round
        case rel => exact ⟨k + 1, by omega, by go_num, HS⟩
        case measure => simp [intOf]; omega
    · have hk2 : k = l0 := by omega
      subst hk2
      go_wp2_with fail
      refine (unhide HR _).mono ?_
      rintro e1 w1 ⟨rfl, rfl⟩
      go_wp2_with fail
      clear hmk HR HA
      generalize hWW : w.alloc (.cells (madeCells #[.int .i64 0] (k + 1)) 2) = W at *
      clear hWW
      go_loopw [11] (fun i wr => ∃ q : Nat, q ≤ k ∧ i = .int .i64 ((q : Int) - 1) ∧ Hid (fits r (L.drop q) = true) ∧ Hid (Own w wr w.heap.size (k + 1) (worthAt r L q))) (fun i _ => (intOf i + 1).toNat)
      case atStart => exact ⟨k, Nat.le_refl _, by go_num, H0, hide ((unhide HO).as (fun j _ => (unhide HZ j).symm))⟩
      case round =>
        clear HO
        obtain ⟨q, hq, rfl, HK, HO⟩ := hrel
        by_cases hlt2 : 0 < q
        · obtain ⟨m, rfl⟩ : ∃ m, q = m + 1 := ⟨q - 1, by omega⟩
          rw [show (((m + 1 : Nat) : Int) - 1) = (m : Int) from by omega]
          obtain ⟨b1, off, cap, e⟩ := row_open' (unhide hR) (by rw [← unhide Hl]; omega)
          injection e with e1 e2 e3
          subst e1
          clear e2 e3
          have hw := (unhide HO).below
          have cl := row_cell ((unhide hR).below hw (Nat.le_refl _)) (j := m) (by rw [← unhide Hl]; omega)
          have ca := (unhide HO).row.cell (i := m + 1) (by omega)
          rw [worthAt_here] at ca
          obtain ⟨g1, g2⟩ := unhide HG m (by omega)
          have t64 : In64 (worth r (L.drop (m + 1))) := by
            have := fits_in (unhide HK)
            exact ⟨by omega, by omega⟩
          have hF := unhide HF m (by omega)
          have hW := unhide HW m (by omega)
          have hN := unhide HN m (by omega)
          have HP := hide (worthAt_put r L m)
          rw [unhide HK, Bool.true_and] at hF
          rw [g1] at hF hW hN
          rw [hW] at hF hN HP
          generalize worth r (L.drop (m + 1)) = t at *
          generalize l.getD m 0 = x at *
          have i1 : (0 : Int) ≤ (m : Int) := by omega
          have i2 : (m : Int) < (k : Int) := by omega
          have i3 : (0 : Int) ≤ (m : Int) + 1 := by omega
          have i4 : (m : Int) + 1 < (k : Int) + 1 := by omega
          have i6 : m < k := by omega
          have i7 : m + 1 < k + 1 := by omega
          have i8 : wrap64 (x * b) = x * b := wrap_in g2
          clear hw
          by_cases s1 : In64 (t + x * b)
          · have HA1 := hide (radd_yes t64 g2 s1)
            by_cases s2 : In64 (qD (t + x * b) r)
            · have HD := hide (in_ok (rdisc_ok s1 hM) s2)
              unfold Ans at HD
              by_cases s3 : 4611686018427387904 < qD (t + x * b) r
              · have j1 := decide_eq_true s3
                have HN1 := hide (hN (by
                  cases hB : fitB (t + x * b) (qD (t + x * b) r) with
                  | false => rfl
                  | true => have := (fitB_iff.1 hB).2.2; omega))
                clear hN hF hW t64 g2
                generalize t + x * b = s at *
                go_wp2_with fail
                go_quiet ((go_at_call 150; with_reducible exact Calls.quiet_eq (unhide HA1 _)))
                replace HO := hide ((unhide HO).drewN nq)
                generalize wr.drewN nq = wq at *
                clear cl ca HA1
                go_wp2_with fail
                refine (unhide HD _).mono ?_
                rintro e1 w1 ⟨rfl, hb1⟩
                replace HO := hide ((unhide HO).keep hb1)
                clear hb1 HD
                go_wp2_with fail
                go_ret2
                exact unhide HE _ _ (Or.inr ⟨unhide HN1, rfl, (unhide HO).below⟩)
              · have j1 := decide_eq_false s3
                by_cases s4 : qD (t + x * b) r < -4611686018427387904
                · have j2 := decide_eq_true s4
                  have HN1 := hide (hN (by
                    cases hB : fitB (t + x * b) (qD (t + x * b) r) with
                    | false => rfl
                    | true => have := (fitB_iff.1 hB).2.1; omega))
                  clear hN hF hW t64 g2
                  generalize t + x * b = s at *
                  go_wp2_with fail
                  go_quiet ((go_at_call 150; with_reducible exact Calls.quiet_eq (unhide HA1 _)))
                  replace HO := hide ((unhide HO).drewN nq)
                  generalize wr.drewN nq = wq at *
                  clear cl ca HA1
                  go_wp2_with fail
                  refine (unhide HD _).mono ?_
                  rintro e1 w1 ⟨rfl, hb1⟩
                  replace HO := hide ((unhide HO).keep hb1)
                  clear hb1 HD
                  go_wp2_with fail
                  go_ret2
                  exact unhide HE _ _ (Or.inr ⟨unhide HN1, rfl, (unhide HO).below⟩)
                · have j2 := decide_eq_false s4
                  rw [fitB_iff.2 ⟨s1, by omega, by omega⟩] at hF
                  have HF1 := hide hF
                  clear hN hF hW t64 g2
                  generalize t + x * b = s at *
                  go_wp2_with fail
                  go_quiet ((go_at_call 150; with_reducible exact Calls.quiet_eq (unhide HA1 _)))
                  replace HO := hide ((unhide HO).drewN nq)
                  generalize wr.drewN nq = wq at *
                  clear cl ca HA1
                  go_wp2_with fail
                  refine (unhide HD _).mono ?_
                  rintro e1 w1 ⟨rfl, hb1⟩
                  replace HO := hide ((unhide HO).keep hb1)
                  clear hb1 HD
                  have cm := (unhide HO).row.cell (i := m) (by omega)
                  have fm := (unhide HO).row.frozen m
                  generalize qD s r = q at *
                  go_wp2_with fail
                  go_roundw
                  case rel => exact ⟨m, by omega, by go_num, HF1, hide ((unhide HO).put m q (unhide HP))⟩
                  case measure => simp [intOf]
            · have hd := rdisc_ok s1 hM
              have s3 : ¬ turn (qD (t + x * b) r) = 0 := fun c => s2 (in_of_turn c)
              rw [okN_out s3, okE_out s3] at hd
              have HD := hide hd
              have HN1 := hide (hN (by
                cases hB : fitB (t + x * b) (qD (t + x * b) r) with
                | false => rfl
                | true => have := (fitB_iff.1 hB).2; exact absurd ⟨by omega, by omega⟩ s2))
              unfold Ans at HD
              clear hd
              clear hN hF hW t64 g2
              generalize t + x * b = s at *
              go_wp2_with fail
              go_quiet ((go_at_call 150; with_reducible exact Calls.quiet_eq (unhide HA1 _)))
              replace HO := hide ((unhide HO).drewN nq)
              generalize wr.drewN nq = wq at *
              clear cl ca HA1
              go_wp2_with fail
              refine (unhide HD _).mono ?_
              rintro e1 w1 ⟨rfl, hb1⟩
              replace HO := hide ((unhide HO).keep hb1)
              clear hb1 HD
              go_wp2_with fail
              go_ret2
              exact unhide HE _ _ (Or.inr ⟨unhide HN1, rfl, (unhide HO).below⟩)
          · have HA1 := hide (radd_no t64 g2 s1)
            have HN1 := hide (hN (by
              cases hB : fitB (t + x * b) (qD (t + x * b) r) with
              | false => rfl
              | true => exact absurd (fitB_iff.1 hB).1 s1))
            clear hN hF hW t64 g2
            generalize t + x * b = s at *
            go_wp2_with fail
            go_quiet ((go_at_call 150; with_reducible exact Calls.quiet_eq (unhide HA1 _)))
            replace HO := hide ((unhide HO).drewN nq)
            generalize wr.drewN nq = wq at *
            clear cl ca HA1
            go_wp2_with fail
            go_ret2
            exact unhide HE _ _ (Or.inr ⟨unhide HN1, rfl, (unhide HO).below⟩)
        · have e0 : q = 0 := by omega
          subst e0
          have HF1 : Hid (fits r L = true) := hide ((unhide HY).symm.trans (unhide HK))
          clear HK
          go_wp2_with fail
          go_ret2
          exact unhide HE _ _ (Or.inl ⟨unhide HF1, rfl, unhide HO⟩)
theorem tim_any {w : World} {v : Value} {l : List Int} {r b : Int} (hb : b = 1 ∨ b = 1000) (hR : Row w v l) : TimA w v l r b := by
  by_cases h6 : 600 < l.length
  · exact tim_long hR h6
  · obtain ⟨a, c, rfl⟩ := row_slice hR
    cases ha : l.all may with
    | false =>
      obtain ⟨x, hx, hn⟩ := List.all_eq_false.1 ha
      exact tim_amt (hide hR) h6 (hide ⟨x, hx, by simpa using hn⟩)
    | true =>
      cases hr : mayB r with
      | false => exact tim_rate (hide hR) h6 (hide ha) hr
      | true => exact tim_main (hide hR) h6 (hide ha) hr hb
theorem rfine_any {w : World} {v : Value} {l : List Int} (r : Int) (hR : Row w v l) : NowA 107 w #[v, .int .i64 r] (valN 1000 l r) (valE 1000 l r) := by
  have HW : Hid (Calls (Tri Try.prog) 135 _ w (fun e w' => WorPost w 1000 l r e w')) := hide (tim_any (r := r) (Or.inr rfl : (1000 : Int) = 1 ∨ (1000 : Int) = 1000) hR)
  unfold NowA
  unfold WorPost at HW
  by_cases h : valE 1000 l r = 0
  · obtain ⟨R, hR⟩ := valL_head h
    rw [hR, h] at HW
    rw [h]
    clear hR h
    generalize valN 1000 l r = n at *
    go_enter (Tri.at (by decide) Try.func107), Try.ntmps107
    go_wp2_with fail
    refine (unhide HW).mono ?_
    rintro e w1 ⟨u, rfl, hu, hb⟩
    rcases hu with ⟨a, cap, rfl, h0⟩ | ⟨g, off, cap, rfl, _, _, hc, _⟩
    · cases h0
    · have c0 := hc 0 (by simp)
      rw [Nat.add_zero] at c0
      simp only [List.getD_cons_zero] at c0
      have HB := hide hb
      clear hc hb HW
      have i1 : (0 : Int) < ((n :: R).length : Int) := by simp only [List.length_cons]; omega
      generalize (n :: R).length = len at *
      have i2 : 0 < len := by omega
      go_wp2_with fail
      go_ret2
      exact ⟨rfl, unhide HB⟩
  · have h0 : valN 1000 l r = 0 := by unfold valN; rw [if_neg h]
    rw [h0]
    have hE : (valE 1000 l r != 0) = true := by simpa using h
    clear h h0
    generalize valE 1000 l r = E at *
    go_enter (Tri.at (by decide) Try.func107), Try.ntmps107
    go_wp2_with fail
    refine (unhide HW).mono ?_
    rintro e w1 ⟨u, rfl, hu, hb⟩
    have HB := hide hb
    clear hu hb
    go_wp2_with fail
    go_ret2
    exact ⟨rfl, unhide HB⟩
end Go.Proofs.Ytpeoabopeihadaa.Mn
