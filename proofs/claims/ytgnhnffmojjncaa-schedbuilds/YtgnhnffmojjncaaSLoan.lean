/- Terms as a loan; what one period of it is, by sched. -/
import Derived.Test.YtgnhnffmojjncaaSStep
namespace Go.Proofs.Ytgnhnffmojjncaa.Mn
open Go.RowKit
set_option linter.unusedSimpArgs false
/-- The loan of terms. -/
def loanOf (kd P : Int) (rs : List Int) (n : Nat) : Loan := ⟨kd, n, rtAt rs, pt1 P n, P⟩
/-- Terms that may be. -/
structure TermsOk (kd P : Int) (rs : List Int) (n : Nat) : Prop where
  k0 : 1 ≤ kd
  k1 : kd ≤ 4
  p0 : 1 ≤ P
  p1 : P ≤ 10000000000000
  n0 : 1 ≤ n
  n1 : n ≤ 600
  r0 : 1 ≤ rs.length
  r1 : rs.length ≤ n
  rt : ∀ r ∈ rs, bearB r = true
theorem TermsOk.at {kd P : Int} {rs : List Int} {n : Nat} (h : TermsOk kd P rs n) (i : Nat) : bearB (rtAt rs i) = true := by
  have h0 := h.r0
  have hj : min i (rs.length - 1) < rs.length := by omega
  have e : rtAt rs i = rs[min i (rs.length - 1)] := by simp [rtAt, List.getD, hj]
  rw [e]
  exact h.rt _ (List.getElem_mem hj)
theorem TermsOk.loan {kd P : Int} {rs : List Int} {n : Nat} (h : TermsOk kd P rs n) : (loanOf kd P rs n).Ok where
  n := h.n0
  p0 := by have := h.p0; show 0 < P; omega
  p1 := h.p1
  r0 i := (bearB_bd (h.at i)).1
  r1 i := (bearB_bd (h.at i)).2
  pt0 i := pt1_pos (by have := h.p0; omega)
  part i hi := pt1_upto (by have := h.p0; omega) h.n0 hi
theorem st_hi {L : Loan} (hL : L.Ok) : ∀ i, i ≤ L.n → (∀ j, j < i → ¬ over qI L j) → (st qI L i).2 ≤ 20000000000000 := by
  intro i
  induction i with
  | zero => intro _ _; show (0 : Int) ≤ _; omega
  | succ i ih =>
    intro hi ho
    have h := ih (by omega) (fun j hj => ho j (by omega))
    obtain ⟨h1, h2, _⟩ := left_in qI_int2 hL i (by omega) (fun j hj => ho j (by omega))
    have hb := qI_int2.bears _ (hL.r0 i) (hL.r1 i)
    rw [st_succ]
    unfold lev levAt
    split
    · have b1 := (lvl_bd hb (show 0 < L.n - i by omega) h1 h2).2
      have b2 := hb.le _ h1
      have e : left qI L i = (st qI L i).1 := rfl
      rw [e] at h2 b2 b1
      omega
    · exact h
/-- A period's row, as four numbers. -/
def rowAt (L : Loan) (i : Nat) : List Int := [int qI L i, paid qI L i, prin qI L i, left qI L (i + 1)]
/-- What a period of the program's ends in. -/
def StepA (w : World) (b : Nat) (kd P : Int) (rv : Value) (rs : List Int) (n i : Nat) : Prop :=
  Calls Try.prog 21 #[.pointer (some ⟨b, 0, none⟩), .int .i64 i] w fun e w' => e = .returned (.agg #[.int .i64 (int qI (loanOf kd P rs n) i), .int .i64 (paid qI (loanOf kd P rs n) i), .int .i64 (prin qI (loanOf kd P rs n) i), .int .i64 (left qI (loanOf kd P rs n) (i + 1))]) ∧
    ∃ l q, (i + 1 < n → l = (st qI (loanOf kd P rs n) (i + 1)).2) ∧ After w w' b kd P rv rs n i (left qI (loanOf kd P rs n) (i + 1)) q l (kd = 2 ∧ i + 1 < n)
theorem after_any {w w' : World} {b : Nat} {kd P : Int} {rv : Value} {rs : List Int} {n : Nat} {i x q l : Int} {pr pr' : Prop} (h : After w w' b kd P rv rs n i x q l pr) (hp : pr' → pr) : After w w' b kd P rv rs n i x q l pr' := by
  obtain ⟨pv, h1, h2, h3, h4⟩ := h
  exact ⟨pv, h1, fun z => h2 (hp z), h3, h4⟩
theorem step_any {w : World} {b : Nat} {kd P : Int} {rv : Value} {rs : List Int} {n i : Nat} {i0 q0 l : Int} {pv : Value} (hT : TermsOk kd P rs n) (hC : Crs w b kd P rv n i0 (left qI (loanOf kd P rs n) i) q0 l pv) (hl : l = (st qI (loanOf kd P rs n) i).2) (hR : Row w rv rs) (hP : kd = 2 ∧ 0 < i → PRow w pv P n) (hne : rv.ownBlock ≠ some b) (hi : i < n) (ho : ∀ j, j < i → ¬ over qI (loanOf kd P rs n) j) : StepA w b kd P rv rs n i := by
  have hO := hT.loan
  have bd := left_in qI_int2 hO i (Nat.le_of_lt hi) ho
  obtain ⟨x0, x1, l0⟩ := bd
  have pb := paid_bd qI_int2 hO (show i < (loanOf kd P rs n).n from hi) ho
  have hr := hT.at i
  have n1 := hT.n1
  have r0 := hT.r0
  have r1 := hT.r1
  obtain ⟨q1, q2, v0, v1, v2, v3, v4⟩ := pb
  by_cases c0 : i + 1 = n
  · -- the last period
    have hv : paid qI (loanOf kd P rs n) i = left qI (loanOf kd P rs n) i + int qI (loanOf kd P rs n) i := if_pos c0
    have h := step_last (pr := kd = 2 ∧ 0 < i) (r := rtAt rs i) hC hR hP hne (by omega) (by omega) x0 x1 c0 n1 rfl hr
    have e1 : prin qI (loanOf kd P rs n) i = left qI (loanOf kd P rs n) i := by rw [prin, hv]; omega
    have e2 : left qI (loanOf kd P rs n) (i + 1) = 0 := by rw [left_succ, e1]; omega
    unfold StepA
    rw [e2, e1, hv]
    refine h.mono fun e w' k => ⟨k.1, l, _, fun c => by omega, after_any k.2 (fun c => by omega)⟩
  · have hm : i + 1 < n := by omega
    obtain ⟨x, hx⟩ : ∃ x, left qI (loanOf kd P rs n) i = x := ⟨_, rfl⟩
    have hq : int qI (loanOf kd P rs n) i = qI x (rtAt rs i) := by rw [← hx]; rfl
    have e2 : left qI (loanOf kd P rs n) (i + 1) = x - (paid qI (loanOf kd P rs n) i - qI x (rtAt rs i)) := by rw [left_succ, prin, hq, hx]
    have e1 : prin qI (loanOf kd P rs n) i = paid qI (loanOf kd P rs n) i - qI x (rtAt rs i) := by rw [prin, hq]
    rw [hx] at hC x0 x1 q2
    have key : ∀ W, Crs W b kd P rv n i x (qI x (rtAt rs i)) l pv → Row W rv rs → (kd = 2 ∧ 0 < i → PRow W pv P n) → Calls Try.prog 35 #[.pointer (some ⟨b, 0, none⟩)] W fun e w' => e = .returned (.int .i64 (paid qI (loanOf kd P rs n) i)) ∧ After W w' b kd P rv rs n i x (qI x (rtAt rs i)) (st qI (loanOf kd P rs n) (i + 1)).2 (kd = 2) := by
      intro W hCW hRW hPW
      have q1' := q1
      have q2' := q2
      rw [hq] at q1' q2'
      have hpv : paid qI (loanOf kd P rs n) i = paidAt qI (loanOf kd P rs n) i x (lev qI (loanOf kd P rs n) i) := by rw [← hx]; rfl
      have hst : (st qI (loanOf kd P rs n) (i + 1)).2 = levAt qI (loanOf kd P rs n) i x l := by rw [st_succ, hl, ← hx]; rfl
      have hlev : lev qI (loanOf kd P rs n) i = levAt qI (loanOf kd P rs n) i x l := by rw [hl, ← hx]; rfl
      rw [hpv, hst, hlev]
      have w9 : ∀ t, paidAt qI (loanOf kd P rs n) i x t = if kd = 1 then min t (x + qI x (rtAt rs i)) else if kd = 2 then qI x (rtAt rs i) + pt1 P n i else if kd = 3 then qI x (rtAt rs i) else 0 := fun t => if_neg c0
      have hk0 := hT.k0
      have hk1 := hT.k1
      have hkk : kd = 1 ∨ kd = 2 ∨ kd = 3 ∨ kd = 4 := by omega
      rcases hkk with hk | hk | hk | hk
      · subst hk
        rw [w9, if_pos rfl]
        refine pays_1 hCW.c0 (hide (fun W2 hb => ?_))
        have fin : ∀ {v z : Int}, PaysA 41 W2 b 1 P rv rs n i x (qI x (rtAt rs i)) v pv z → Calls Try.prog 41 #[.pointer (some ⟨b, 0, none⟩)] W2 fun e w' => e = .returned (.int .i64 z) ∧ After W w' b 1 P rv rs n i x (qI x (rtAt rs i)) v ((1 : Int) = 2) := fun h => h.mono fun e w' k => ⟨k.1, pv, k.2.1, fun c => by omega, k.2.2.1, gb_trans (gb_below hb _) k.2.2.2⟩
        have hC2 := hCW.keep hb
        have hR2 := hRW.below hb (Nat.le_refl _)
        cases i with
        | zero =>
          have e : levAt qI (loanOf 1 P rs n) 0 x l = lvlR (rtAt rs 0) n x := if_pos ⟨rfl, Or.inl rfl⟩
          rw [e]
          exact fin (payLevel_first hC2 hR2 hne (by omega) (by omega) x0 x1 q1' q2' (by omega) n1 hr)
        | succ j =>
          by_cases hd : rtAt rs (j + 1) = rtAt rs j
          · have e : levAt qI (loanOf 1 P rs n) (j + 1) x l = l := if_neg (by
              rintro ⟨_, c | c⟩
              · omega
              · exact c hd)
            rw [e]
            have lb : l ≤ 20000000000000 := by rw [hl]; exact st_hi hO (j + 1) (Nat.le_of_lt hi) ho
            exact fin (payLevel_old hC2 hR2 (by omega) (by omega) x0 x1 q1' q2' hi n1 (by rw [hl]; exact l0) lb hd)
          · have e : levAt qI (loanOf 1 P rs n) (j + 1) x l = lvlR (rtAt rs (j + 1)) (n - (j + 1)) x := if_pos ⟨rfl, Or.inr hd⟩
            rw [e]
            exact fin (payLevel_new hC2 hR2 hne (by omega) (by omega) x0 x1 q1' q2' hi n1 hr hd)
      · subst hk
        rw [w9, if_neg (by omega), if_pos rfl, show levAt qI (loanOf 2 P rs n) i x l = l from if_neg (by rintro ⟨c, _⟩; exact absurd c (show ¬ (2 : Int) = 1 by decide))]
        refine pays_2 hCW.c0 (hide (fun W2 hb => ?_))
        have hC2 := hCW.keep hb
        have hR2 := hRW.below hb (Nat.le_refl _)
        have fin : ∀ {z : Int}, PartA W2 b 2 P rv rs n i x (qI x (rtAt rs i)) l z → Calls Try.prog 42 #[.pointer (some ⟨b, 0, none⟩)] W2 fun e w' => e = .returned (.int .i64 z) ∧ After W w' b 2 P rv rs n i x (qI x (rtAt rs i)) l ((2 : Int) = 2) := fun h => h.mono fun e w' k => by
          obtain ⟨k1, pv2, k2, k3, k4, k5⟩ := k
          exact ⟨k1, pv2, k2, fun _ => k3, k4, gb_trans (gb_below hb _) k5⟩
        have p0 := hT.p0
        cases i with
        | zero => exact fin (payPart_first hC2 hR2 hne (by omega) hT.p1 x1 q1' q2' (by omega) n1)
        | succ j => exact fin (payPart_next hC2 hR2 ((hPW ⟨rfl, by omega⟩).keep hb) (by omega) hT.p1 x1 q1' q2' (by omega) hi)
      · subst hk
        rw [w9, if_neg (by omega), if_neg (by omega), if_pos rfl, show levAt qI (loanOf 3 P rs n) i x l = l from if_neg (by rintro ⟨c, _⟩; exact absurd c (show ¬ (3 : Int) = 1 by decide))]
        refine pays_3 hCW.c0 (hide (fun W2 hb => ?_))
        refine (payInterest_any (hCW.keep hb)).mono fun e w' k => ?_
        obtain ⟨k1, rfl⟩ := k
        exact ⟨k1, pv, hCW.keep hb, fun c => by omega, hRW.below hb (Nat.le_refl _), gb_below hb _⟩
      · subst hk
        rw [w9, if_neg (by omega), if_neg (by omega), if_neg (by omega), show levAt qI (loanOf 4 P rs n) i x l = l from if_neg (by rintro ⟨c, _⟩; exact absurd c (show ¬ (4 : Int) = 1 by decide))]
        refine pays_4 hCW.c0 (hide (fun W2 hb => ?_))
        refine (payNothing_any _ W2).mono fun e w' k => ?_
        obtain ⟨k1, rfl⟩ := k
        exact ⟨k1, pv, hCW.keep hb, fun c => by omega, hRW.below hb (Nat.le_refl _), gb_below hb _⟩
    have h := step_mid (r := rtAt rs i) hC hR hP hne (by omega) (by omega) x0 x1 hm n1 rfl hr v0 v2 key
    unfold StepA
    rw [e2, e1, hq]
    exact h.mono fun e w' k => ⟨k.1, _, _, fun _ => rfl, after_any k.2 (fun c => c.1)⟩
end Go.Proofs.Ytgnhnffmojjncaa.Mn
