/- EirFits, lone. -/
import Derived.Test.YtlaaomhcilnbkaaEAl
set_option linter.unusedVariables false
set_option linter.unusedSimpArgs false
set_option linter.unusedSectionVars false
namespace Go.Proofs.Ytlaaomhcilnbkaa.Mn
open Go.RowKit
attribute [local simp] Tri.typeInfo Tri.sizeOf Tri.underlying Tri.runUnderlying Tri.isAgg Tri.zeroValue Tri.depth Tri.stoodInHeld Tri.eqGuardType Tri.call16 Tri.call3 Tri.call4 Tri.call5 Tri.call6 Tri.call7 Tri.call8 Tri.call9 Tri.call10 Tri.call11 Tri.call12 Tri.call13 Tri.call14 Tri.call15 Tri.call17 Tri.call18 Tri.call19 Tri.call20 Tri.call21 Tri.call22 Tri.call23 Tri.call24 Tri.call25 Tri.call26 Tri.call27 Tri.call28 Tri.call29 Tri.call30 Tri.call31 Tri.call32 Tri.call33 Tri.call34 Tri.call35 Tri.call36 Tri.call37 Tri.call38 Tri.call39 Tri.call40 Tri.call41 Tri.call42 Tri.call43 Tri.call44 Tri.call45 Tri.call46 Tri.call47 Tri.call48 Tri.call49 Tri.call50 Tri.call51 Tri.call52 Tri.call53 Tri.call54 Tri.call55 Tri.call56 Tri.call57 Tri.call58 Tri.call59 Tri.call60 Tri.call61 Tri.call62 Tri.call63 Tri.call64 Tri.call65 Tri.call66 Tri.call67 Tri.call68 Tri.call69 Tri.call70 Tri.call71 Tri.call72 Tri.call73 Tri.call74 Tri.call75 Tri.call76 Tri.call77 Tri.call78 Tri.call79 Tri.call80 Tri.call81 Tri.call82 Tri.call83 Tri.call84 Tri.call85 Tri.call86 Tri.call87 Tri.call88 Tri.call89 Tri.call90 Tri.call91 Tri.call92 Tri.call93 Tri.call94 Tri.call95 Tri.call96 Tri.call97 Tri.call98 Tri.call99 Tri.call100 Tri.call101 Tri.call102 Tri.call103 Tri.call104 Tri.call105 Tri.call106 Tri.call107 Tri.call108 Tri.call109 Tri.call110 Tri.call111 Tri.call112 Tri.call113 Tri.call114 Tri.call115 Tri.call116 Tri.call117 Tri.call118 Tri.call119 Tri.call120 Tri.call121 Tri.call122 Tri.call123 Tri.call124 Tri.call125 Tri.call126 Tri.call127 Tri.call128 Tri.call129 Tri.call130 Tri.call131 Tri.call132 Tri.call133 Tri.call134 Tri.call135 Tri.call136 Tri.call137 Tri.call138 Tri.call139 Tri.call140 Tri.call141 Tri.call142 Tri.call143 Tri.call144 Tri.call145 Tri.call146 Tri.call147 Tri.call148 Tri.call149 Tri.call150 Tri.call151 Tri.call152 Tri.call153 Tri.call154 Tri.call155 Tri.call157 Tri.call158 Tri.call159 Tri.call160 Tri.call161 Tri.call162 Tri.call163 Tri.call165 Tri.call166 Tri.call167 Tri.call183 Tri.call184
theorem eirB_is {out : Int} {l : List Int} {r : Int} (h : eirB out l r = true) : maySo out l = true ∧ IsEir out l r := by
  unfold eirB at h
  simp only [Bool.and_eq_true, decide_eq_true_eq, Bool.not_eq_true'] at h
  obtain ⟨h1, h2, h3, h4, h5⟩ := h
  unfold mayB at h2
  simp only [Bool.and_eq_true, decide_eq_true_eq] at h2
  have hs := maySo_yes h1
  rw [covB_cov hs ⟨by omega, by omega⟩] at h4 h5
  exact ⟨h1, ⟨h2.1, by omega, h4, h5⟩⟩
theorem eirB_no {out : Int} {l : List Int} {r e x : Int} (h : Eir out l r e) (he : e ≠ 0) : r = 0 ∧ eirB out l x = false := by
  have key : ∀ x, eirB out l x = true → False := fun x hx => by
    obtain ⟨h1, h2⟩ := eirB_is hx
    exact he (h.only (.inr ⟨h1, .inr ⟨h2, rfl⟩⟩)).2
  refine ⟨?_, by simpa using key x⟩
  rcases h with ⟨_, h, _⟩ | ⟨_, ⟨_, h, _⟩ | ⟨_, h⟩⟩
  · exact h
  · exact h
  · exact absurd h he
theorem eirB_other {out : Int} {l : List Int} {r x : Int} (hm : maySo out l = true) (h : IsEir out l r) (hx : x ≠ r) : eirB out l x = false := by
  cases e : eirB out l x with
  | false => rfl
  | true =>
    have hs := maySo_yes hm
    exact absurd ((eirB_is e).2.only h fun y hy => (hs.amt y hy).1) hx
theorem fine_r {out : Int} {l : List Int} {r : Int} (hm : maySo out l = true) (h : IsEir out l r) : (valE 1000 l r = 3 ∨ (valE 1000 l r = 0 ∧ 1000 * out ≤ valN 1000 l r)) ∧ valE 1000 l (r + 1) = 0 ∧ valN 1000 l (r + 1) < 1000 * out := by
  have hs := maySo_yes hm
  have a := h.lo
  have b := h.hi
  have m1 : May r := ⟨by omega, by omega⟩
  have m2 : May (r + 1) := ⟨by omega, by omega⟩
  have e1 := valE_of (b := 1000) hs.len (all_may hs.amt) m1
  have e2 := valE_of (b := 1000) hs.len (all_may hs.amt) m2
  have c2 := cov_no.mp h.no
  have g0 : valE 1000 l (r + 1) = 0 := by
    rw [e2, show l.map (· * 1000) = fine l from rfl, c2.1]
    rfl
  refine ⟨?_, g0, ?_⟩
  · rcases cov_yes.mp h.yes with c | c
    · left
      rw [e1, show l.map (· * 1000) = fine l from rfl, c]
      rfl
    · cases hf : fits r (fine l) with
      | false =>
        left
        rw [e1, show l.map (· * 1000) = fine l from rfl, hf]
        rfl
      | true =>
        have g1 : valE 1000 l r = 0 := by
          rw [e1, show l.map (· * 1000) = fine l from rfl, hf]
          rfl
        right
        refine ⟨g1, ?_⟩
        unfold valN
        rw [if_pos g1]
        exact c
  · unfold valN
    rw [if_pos g0]
    exact c2.2
theorem tm_bd (y : Int) : -1000000 < Int.tmod y 1000000 ∧ Int.tmod y 1000000 < 1000000 := by
  have h := Int.natAbs_tmod y 1000000
  have h2 : y.natAbs % (1000000 : Int).natAbs < 1000000 := Nat.mod_lt _ (by decide)
  omega
def FitsL (w : World) (out by_ : Int) (v : Value) : Prop := Calls (Tri Try.prog) 4 #[.int .i64 out, v, .int .i64 by_] w fun z w' => z = .returned (.bool true) ∧ Below w.heap.size w w'
set_option maxHeartbeats 4000000 in
set_option maxRecDepth 20000 in
theorem lfit_any {w : World} {v : Value} {l : List Int} {out by_ : Int} (ho : In64 out) (hby : In64 by_) (hR : Row w v l) : FitsL w out by_ v := by
  unfold FitsL
  have HA := hide alive_any
  have HS : Hid (∀ w1, Below w.heap.size w w1 → SolA9 w1 out v l) := hide (fun w1 hb => s9_any ho (hR.below hb (Nat.le_refl _)))
  have HF : Hid (∀ x w1, In64 x → Below w.heap.size w w1 → CovA 18 w1 #[.int .i64 out, v, .int .i64 x] (eirB out l x)) := hide (fun x w1 hx hb => eirfits_any x hx (hR.below hb (Nat.le_refl _)))
  have HN : Hid (∀ x w1, Below w.heap.size w w1 → NowA 22 w1 #[v, .int .i64 x] (valN 1000 l x) (valE 1000 l x)) := hide (fun x w1 hb => fine_any x (hR.below hb (Nat.le_refl _)))
  obtain ⟨a, cap, rfl⟩ := row_slice hR
  clear hR
  unfold Alive at HA
  unfold SolA9 at HS
  unfold CovA at HF
  unfold NowA at HN
  obtain ⟨o1, o2⟩ := ho
  obtain ⟨y1, y2⟩ := hby
  by_cases hl : 60 < l.length
  · have b1 : decide ((60 : Int) < (l.length : Int)) = true := decide_eq_true (by omega)
    go_enter (Tri.at (by decide) Try.func4), Try.ntmps4
    go_wp2_with fail
    refine (unhide HA _).mono ?_
    rintro e w1 ⟨rfl, hb⟩
    go_wp2_with fail
    go_ret
    exact ⟨rfl, hb⟩
  · have b1 : decide ((60 : Int) < (l.length : Int)) = false := decide_eq_false (by omega)
    go_enter (Tri.at (by decide) Try.func4), Try.ntmps4
    go_wp2_with fail
    refine (unhide HA _).mono ?_
    rintro e w1 ⟨rfl, hb⟩
    have HB := hide hb
    clear hb HA
    go_wp2_with fail
    refine (unhide HS _ (unhide HB)).mono ?_
    rintro e w2 ⟨r, E, hE, rfl, hb⟩
    replace HB := hide (below_via (unhide HB) hb)
    clear hb HS
    by_cases he : E = 0
    · subst he
      have hI : maySo out l = true ∧ IsEir out l r := by
        rcases hE with ⟨_, _, h⟩ | ⟨h1, ⟨_, _, h⟩ | ⟨h, _⟩⟩
        · cases h
        · cases h
        · exact ⟨h1, h⟩
      obtain ⟨hm, hI⟩ := hI
      have hs := maySo_yes hm
      have r1 := hI.lo
      have r2 := hI.hi
      have s1 := hs.lo
      have s2 := hs.hi
      obtain ⟨q1, q2, q3⟩ := fine_r hm hI
      have HN1 := hide (unhide HN r _ (unhide HB))
      replace HN := hide (fun w1 hb => unhide HN (r + 1) w1 hb)
      have HR := hide (eirB_of hm hI)
      have HO := hide (fun x hx => eirB_other (x := x) hm hI hx)
      clear hE hm hI hs
      rw [q2] at HN
      generalize valN 1000 l (r + 1) = m at *
      generalize valE 1000 l r = F at *
      generalize valN 1000 l r = n at *
      have b3 : decide (1000 * out ≤ m) = false := decide_eq_false (by omega)
      clear q2
      have bF : (F = 3 ∧ (F == 0) = false) ∨ (F = 0 ∧ decide (n < 1000 * out) = false) := by
        rcases q1 with h | ⟨h, h2⟩
        · exact .inl ⟨h, by rw [h]; rfl⟩
        · exact .inr ⟨h, decide_eq_false (by omega)⟩
      clear q1
      go_wp2_with fail
      refine (unhide HN1).mono ?_
      rintro e w3 ⟨rfl, hb⟩
      replace HB := hide (below_via (unhide HB) hb)
      clear hb HN1
      go_wp2_with fail
      refine (unhide HN _ (unhide HB)).mono ?_
      rintro e w4 ⟨rfl, hb⟩
      replace HB := hide (below_via (unhide HB) hb)
      clear hb HN
      have HF1 := hide (unhide HF r w4 ⟨by omega, by omega⟩ (unhide HB))
      rw [unhide HR] at HF1
      obtain ⟨x1, x2⟩ := tm_bd by_
      have HF2 : Hid (∀ w1, Below w.heap.size w w1 → _) := hide (fun w1 hb => unhide HF (r + Int.tmod by_ 1000000) w1 ⟨by omega, by omega⟩ hb)
      rcases bF with ⟨rfl, b4⟩ | ⟨rfl, b4⟩
      all_goals
        go_wp2_with fail
        refine (unhide HF1).mono ?_
        rintro e w5 ⟨rfl, hb⟩
        replace HB := hide (below_via (unhide HB) hb)
        clear hb HF1
        by_cases hy : by_ = 0
        · subst hy
          go_wp2_with fail
          go_ret
          exact ⟨rfl, unhide HB⟩
        · have b5 : (by_ == 0) = false := by simpa using hy
          by_cases hx : Int.tmod by_ 1000000 = 0
          · rw [hx, Int.add_zero, unhide HR] at HF2
            have b6 : (Int.tmod by_ 1000000 == 0) = true := by simpa using hx
            go_wp2_with fail
            refine (unhide HF2 _ (unhide HB)).mono ?_
            rintro e w6 ⟨rfl, hb⟩
            replace HB := hide (below_via (unhide HB) hb)
            clear hb HF2
            go_wp2_with fail
            go_ret
            exact ⟨rfl, unhide HB⟩
          · rw [unhide HO (r + Int.tmod by_ 1000000) (by omega)] at HF2
            go_wp2_with fail
            refine (unhide HF2 _ (unhide HB)).mono ?_
            rintro e w6 ⟨rfl, hb⟩
            replace HB := hide (below_via (unhide HB) hb)
            clear hb HF2
            go_wp2_with fail
            go_ret
            exact ⟨rfl, unhide HB⟩
    · obtain ⟨rfl, hn⟩ := eirB_no (x := by_) hE he
      have b2 : (E == 0) = false := by simpa using he
      have HF1 := hide (unhide HF by_ w2 ⟨y1, y2⟩ (unhide HB))
      rw [hn] at HF1
      clear HF HN hE he hn
      go_wp2_with fail
      refine (unhide HF1).mono ?_
      rintro e w3 ⟨rfl, hb⟩
      replace HB := hide (below_via (unhide HB) hb)
      clear hb HF1
      go_wp2_with fail
      go_ret
      exact ⟨rfl, unhide HB⟩
end Go.Proofs.Ytlaaomhcilnbkaa.Mn
