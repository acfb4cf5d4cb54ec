/- Proved here: PeriodRises: the days of any row rise from the first one on, each is in the month that it must be in, and the row of fewer is its beginning. No condition. -/
import Derived.Test.YtmpalgfhamahnaaAlive
import Derived.Test.YtmpalgfhamahnaaBoth
import Derived.Test.YtmpalgfhamahnaaAsked
import Derived.ProofKit
import Derived.OpenShut
import Derived.ShutString
import Derived.ChangeOld
import Derived.Below
namespace Go.Proofs.Ytmpalgfhamahnaa.periodRises
open Go.ChangeShapes Go.WideShapes Go.ChangeAt Go.RowKit
set_option linter.unusedSimpArgs false
set_option linter.unusedVariables false in
set_option maxRecDepth 20000 in
set_option maxHeartbeats 8000000 in
theorem r_no (n k s t c g : Int) (en : Bool) (hal : Hid (∀ w : World, Calls Try.prog 9 #[] w fun e w' => e = .returned (.bool true) ∧ Below w.heap.size w w')) (hD : Hid (DatesNo 12 n s t en g)) (g0 : (g != 0) = true) (w : World) : Calls Try.prog 5 #[.agg #[.int .i64 n, .int .i64 k, .int .i64 s, .int .i64 t, .bool en], .int .u8 c] w fun e w' => e = .returned (.bool true) ∧ Below w.heap.size w w' := by
  have hR := hide (R5.new w n k s t en)
  have hb0 := hide ((Below.refl w.heap.size w).alloc (Nat.le_refl _) (.cells #[.int .i64 n, .int .i64 k, .int .i64 s, .int .i64 t, .bool en] 23))
  go_enter Try.func5, Try.ntmps5
  go_wp2_with fail
  refine (unhide hal _).mono ?_
  rintro e w1 ⟨rfl, hb1⟩
  replace hR := hide ((unhide hR).keep hb1)
  replace hb1 := hide (below_via (unhide hb0) hb1)
  clear hb0
  have c0 := (unhide hR).c0
  have c1 := (unhide hR).c1
  have c2 := (unhide hR).c2
  have c3 := (unhide hR).c3
  have c4 := (unhide hR).c4
  go_wp2_with fail
  refine (unhide hD _).mono ?_
  rintro e w2 ⟨rfl, hb2⟩
  replace hb2 := hide (below_via (unhide hb1) hb2)
  go_wp2_with fail
  go_ret
  exact ⟨rfl, unhide hb2⟩
/-- Since w: below nothing has turned; what is asked, the date and the row lie where they lay. -/
structure LR (w wr : World) (b bx P T : Nat) (n k s t : Int) (en : Bool) (y m d : Int) (f : Nat → Int) : Prop where
  bel : Below w.heap.size w wr
  ask : R5 wr b n k s t en
  date : R3 wr bx y m d
  row : wr.rowIs P 3 T (fun j => .int .i64 (f j))
theorem rowIs_keep {wr wr' : World} {P T : Nat} {f : Nat → Value} (h : wr.rowIs P 3 T f) (hb : Below wr.heap.size wr wr') : wr'.rowIs P 3 T f := by
  obtain ⟨c, hc, h2⟩ := h
  exact ⟨c, (hb.block P (Array.getElem?_eq_some_iff.1 hc).1).trans hc, h2⟩
theorem LR.keep {w wr wr' : World} {b bx P T : Nat} {n k s t : Int} {en : Bool} {y m d : Int} {f : Nat → Int} (h : LR w wr b bx P T n k s t en y m d f) (hb : Below wr.heap.size wr wr') : LR w wr' b bx P T n k s t en y m d f :=
  ⟨below_via h.bel hb, h.ask.keep hb, h.date.keep hb h.date.lt, rowIs_keep h.row hb⟩
theorem LR.alloc {w wr : World} {b bx P T : Nat} {n k s t : Int} {en : Bool} {y m d : Int} {f : Nat → Int} (h : LR w wr b bx P T n k s t en y m d f) (o : Obj) : LR w (wr.alloc o) b bx P T n k s t en y m d f := h.keep ((Below.refl _ _).alloc (Nat.le_refl _) o)
/-- A beginning of the row, as a row. -/
theorem rowIs_upto {wr : World} {P T K c : Nat} {f : Nat → Int} (h : wr.rowIs P 3 T (fun j => .int .i64 (f j))) (hK : K ≤ T) (hm : T ≤ 600) (h64 : ∀ j, In64 (f j)) : Row wr (.slice (some ⟨P, 0, none⟩) K c) (upL f K) := by
  by_cases h0 : K = 0
  · subst h0; exact Or.inl ⟨_, c, rfl, rfl⟩
  · refine Or.inr ⟨P, 0, c, by rw [upL_len], by rw [upL_len]; omega, by rw [upL_len]; unfold maxLen; omega, fun j hj => ?_, fun z hz => ?_⟩
    · rw [upL_len] at hj
      rw [Nat.zero_add, h.cell (show j < T by omega)]
      unfold upL
      simp [List.getD, hj]
    · unfold upL at hz
      obtain ⟨j, _, rfl⟩ := List.mem_map.1 hz
      exact h64 j
set_option linter.unusedVariables false in
set_option maxRecDepth 20000 in
set_option maxHeartbeats 8000000 in
theorem r_main (n k s y m d e5 : Int) (en : Bool) (c T K : Nat) (f pv : Nat → Int) (hal : Hid (∀ w : World, Calls Try.prog 9 #[] w fun e w' => e = .returned (.bool true) ∧ Below w.heap.size w w')) (T2 : (T : Int) ≤ 600) (c2 : (c : Int) ≤ 255) (hK : Hid ((c : Int) % ((T : Int) + 1) = (K : Int) ∧ K ≤ T)) (h64 : Hid (∀ j, In64 (f j)))
    (hD : Hid (∀ w : World, Calls Try.prog 12 #[.int .i64 n, .int .i64 s, .int .i64 T, .bool en] w fun e w' => e = .returned (.tuple #[.slice (some ⟨w.heap.size, 0, none⟩) T T, .int .i64 0]) ∧ Own w w' w.heap.size T f))
    (hE : Hid (RowsA 12 n s K en (upL f K) 0)) (hT : Hid (Tos n y m d e5)) (hp0 : Hid (pv 0 = n)) (hps : Hid (∀ j, pv (j + 1) = f j))
    (hst : Hid (∀ j : Nat, j < T → 1 ≤ s ∧ s ≤ 12 ∧ 1 ≤ ((j : Int) + 1) * s ∧ ((j : Int) + 1) * s ≤ 7200))
    (hX : Hid (∀ j : Nat, j < T → 1 ≤ y ∧ y ≤ 9999 ∧ 1 ≤ m ∧ m ≤ 12 ∧ ∃ Y M D : Int, Tos (f j) Y M D 0 ∧ 1 ≤ Y ∧ Y ≤ 9999 ∧ 1 ≤ M ∧ M ≤ 12 ∧ ((Y - y) * 12 + M - m != ((j : Int) + 1) * s) = false ∧ pv j < f j ∧ ((d < 28 ∧ ¬ 28 < D) ∨ (d < 28 ∧ 28 < D ∧ en = true) ∨ (¬ d < 28 ∧ ¬ d < D) ∨ (¬ d < 28 ∧ d < D ∧ en = true)))) (w : World) : Calls Try.prog 5 #[.agg #[.int .i64 n, .int .i64 k, .int .i64 s, .int .i64 T, .bool en], .int .u8 (c : Int)] w fun e w' => e = .returned (.bool true) ∧ Below w.heap.size w w' := by
  have hR := hide (R5.new w n k s T en)
  have hb0 := hide ((Below.refl w.heap.size w).alloc (Nat.le_refl _) (.cells #[.int .i64 n, .int .i64 k, .int .i64 s, .int .i64 T, .bool en] 23))
  go_enter Try.func5, Try.ntmps5
  go_wp2_with fail
  refine (unhide hal _).mono ?_
  rintro e w1 ⟨rfl, hb1⟩
  replace hR := hide ((unhide hR).keep hb1)
  replace hb1 := hide (below_via (unhide hb0) hb1)
  clear hb0
  have c0 := (unhide hR).c0
  have c1 := (unhide hR).c1
  have c2 := (unhide hR).c2
  have c3 := (unhide hR).c3
  have c4 := (unhide hR).c4
  go_wp2_with fail
  refine (unhide hD _).mono ?_
  rintro e w2 ⟨rfl, ho⟩
  have hrow := hide ho.row
  replace hR := hide ((unhide hR).keep ho.below)
  replace hb1 := hide (below_via (unhide hb1) ho.below)
  clear ho c0 c1 c2 c3 c4
  have c0 := (unhide hR).c0
  have c1 := (unhide hR).c1
  have c2 := (unhide hR).c2
  have c3 := (unhide hR).c3
  have c4 := (unhide hR).c4
  obtain ⟨P, eP⟩ : ∃ P, P = w1.heap.size := ⟨_, rfl⟩
  go_wp2_with fail
  rw [← eP]
  rw [← eP] at hrow
  refine (unhide hT _).mono ?_
  rintro e w3 ⟨rfl, hb3⟩
  have HX := R3.new w3 y m d
  obtain ⟨bx, ex⟩ : ∃ bx, bx = w3.heap.size := ⟨_, rfl⟩
  rw [← ex] at HX
  have HL := hide (show LR w (w3.alloc (.cells #[.int .i64 y, .int .i64 m, .int .i64 d] 37)) w.heap.size bx P T n k s T en y m d f from ⟨below_via (below_via (unhide hb1) hb3) ((Below.refl w3.heap.size w3).alloc (Nat.le_refl _) _), ((unhide hR).keep hb3).alloc _, HX, rowIs_keep (rowIs_keep (unhide hrow) hb3) ((Below.refl w3.heap.size w3).alloc (Nat.le_refl _) _)⟩)
  clear HX hb3 hb1 hR hrow hal c0 c1 c2 c3 c4 eP
  go_wp2_with fail
  rw [← ex]
  generalize w3.alloc (.cells #[.int .i64 y, .int .i64 m, .int .i64 d] 37) = W3 at *
  clear ex
  have hp00 : Value.int .i64 n = Value.int .i64 (pv 0) := by rw [unhide hp0]
  go_loopw [7, 46] (fun la i wr => ∃ j : Nat, j ≤ T ∧ la = .int .i64 (pv j) ∧ i = .int .i64 j ∧ Hid (LR w wr w.heap.size bx P T n k s T en y m d f)) (fun _ i _ => T - (intOf i).toNat)
  case atStart => exact ⟨0, by omega, hp00, rfl, HL⟩
  case round =>
    clear HL hp00
    obtain ⟨j, hj, rfl, rfl, HL⟩ := hrel
    by_cases hlt : j < T
    · have h1 := (unhide HL).row.cell hlt
      have hjT : (j : Int) < (T : Int) := by omega
      obtain ⟨y1, y2, m1, m2, Y, M, D, tY, Y1, Y2, M1, M2, hq, hup, hcase⟩ := unhide hX j hlt
      obtain ⟨s1, s2, p1, p2⟩ := unhide hst j hlt
      replace tY := hide tY
      have q1 : decide (f j ≤ pv j) = false := decide_eq_false (by omega)
      replace hcase := hide hcase
      generalize pv j = la at *
      go_wp2_with fail
      refine (unhide tY _).mono ?_
      rintro e w4 ⟨rfl, hb4⟩
      have HY := hide (R3.new w4 Y M D)
      replace HL := hide (((unhide HL).keep hb4).alloc (.cells #[.int .i64 Y, .int .i64 M, .int .i64 D] 37))
      clear hb4 h1
      have x0 := (unhide HL).date.c0
      have x1 := (unhide HL).date.c1
      have x2 := (unhide HL).date.c2
      have a2 := (unhide HL).ask.c2
      have a4 := (unhide HL).ask.c4
      have v0 := (unhide HY).c0
      have v1 := (unhide HY).c1
      have v2 := (unhide HY).c2
      have e0 : IntKind.i64.wrap (((j : Int) + 1) * s) = ((j : Int) + 1) * s := IntWalk.i64_in _ ⟨by omega, by omega⟩
      rcases unhide hcase with ⟨hm, hg⟩ | ⟨hm, hg, rfl⟩ | ⟨hm, hg⟩ | ⟨hm, hg, rfl⟩
      all_goals
        first
          | have hg2 := decide_eq_false hg
          | have hg2 := decide_eq_true hg
        go_wp2_with fail
        go_roundw
        case rel => exact ⟨j + 1, by omega, by rw [unhide hps j], by go_num, HL⟩
        case measure => simp [intOf]; omega
    · obtain rfl : j = T := by omega
      have a0 := (unhide HL).ask.c0
      have a2 := (unhide HL).ask.c2
      have a3 := (unhide HL).ask.c3
      have a4 := (unhide HL).ask.c4
      clear hX hst hD hT hps hp0
      go_wp2_with fail
      rw [(unhide hK).1]
      refine (unhide hE _).mono ?_
      rintro e w5 ⟨u, rfl, hu, hb5⟩
      replace HL := hide ((unhide HL).keep hb5)
      have hS := same_any u (.slice (some ⟨P, 0, none⟩) K j) (upL f K) (upL f K) w5 hu (rowIs_upto (unhide HL).row (unhide hK).2 (by omega) (unhide h64))
      rw [sameB_refl] at hS
      replace hS := hide hS
      clear hu hb5 a0 a2 a3 a4
      have a3 := (unhide HL).ask.c3
      have k1 : (K : Int) ≤ (j : Int) := by have := (unhide hK).2; omega
      have k0 : (0 : Int) ≤ (K : Int) := Int.natCast_nonneg _
      go_wp2_with fail
      refine (unhide hS).mono ?_
      rintro e w6 ⟨rfl, x, rfl⟩
      have hb6 := hide (below_drewN (unhide HL).bel x)
      go_wp2_with fail
      go_ret
      exact ⟨rfl, unhide hb6⟩
def prev (n : Int) (f : Nat → Int) : Nat → Int
  | 0 => n
  | j + 1 => f j
theorem u8_nat {a : Int} (h : (Lit.int .u8 a).wf = true) : ∃ k : Nat, a = (k : Int) ∧ (k : Int) ≤ 255 := by
  have hc : 0 ≤ a ∧ a ≤ 255 := by
    simp only [Lit.wf, IntKind.min, IntKind.max, IntKind.signed, IntKind.bits, Bool.and_eq_true] at h
    simpa using h
  exact ⟨a.toNat, by omega, by omega⟩
theorem dOf_le {d Y M : Int} : dOf false d Y M ≤ d := by
  rw [dOf_min]
  split <;> omega
theorem walk (n k s t : Int) (en : Bool) (c0 : Int) (w : World) (_h0 : (Lit.int .i64 n).wf = true) (_h1 : (Lit.int .i64 k).wf = true) (_h2 : (Lit.int .i64 s).wf = true) (_h3 : (Lit.int .i64 t).wf = true) (hc : (Lit.int .u8 c0).wf = true) : Calls Try.prog 5 #[.agg #[.int .i64 n, .int .i64 k, .int .i64 s, .int .i64 t, .bool en], .int .u8 c0] w fun e w' => e = .returned (.bool true) ∧ Below w.heap.size w w' := by
  have hal := hide alive_any
  obtain ⟨c, rfl, c2⟩ := u8_nat hc
  by_cases h : 1 ≤ s ∧ s ≤ 12 ∧ 0 ≤ t ∧ t ≤ 600
  · obtain ⟨s1, s2, t1, t2⟩ := h
    obtain ⟨T, rfl⟩ := Int.eq_ofNat_of_zero_le t1
    obtain ⟨K, hK⟩ : ∃ K : Nat, K = c % (T + 1) := ⟨_, rfl⟩
    have hK2 : K ≤ T := by have := Nat.mod_lt c (show 0 < T + 1 by omega); omega
    have eK : (c : Int) % ((T : Int) + 1) = (K : Int) := by rw [hK, Int.natCast_emod]; rfl
    have hst : ∀ j : Nat, j < T → 1 ≤ s ∧ s ≤ 12 ∧ 1 ≤ ((j : Int) + 1) * s ∧ ((j : Int) + 1) * s ≤ 7200 := fun j hj => by
      have := step_bd s1 s2 hj (by omega)
      rw [Int.mul_comm] at this
      exact ⟨s1, s2, this.1, this.2⟩
    by_cases T0 : T = 0
    · subst T0
      obtain ⟨y, m, d, e5, hT⟩ : ∃ y m d e5 : Int, Tos n y m d e5 := by
        by_cases hn : 1 ≤ n ∧ n ≤ 3652059
        · obtain ⟨y, m, d, hv, rfl⟩ := date_of n hn.1 hn.2
          exact ⟨y, m, d, 0, to_ok y m d hv⟩
        · exact ⟨0, 0, 0, 5, to_no n (by omega)⟩
      obtain rfl : K = 0 := by omega
      exact r_main n k s y m d e5 en c 0 0 (fun _ => 0) (prev n (fun _ => 0)) hal t2 c2 (hide ⟨eK, hK2⟩) (hide fun j => ⟨by omega, by omega⟩) (hide fun w => dates_ok n s 0 en _ s1 s2 t2 (hide fun j hj => absurd hj (Nat.not_lt_zero j)) w) (hide (rows_ok s1 s2 t2 (fun j => ⟨by omega, by omega⟩) (fun j hj => absurd hj (Nat.not_lt_zero j)))) (hide hT) (hide rfl) (hide fun j => rfl) (hide hst) (hide fun j hj => absurd hj (Nat.not_lt_zero j)) w
    · by_cases hn : 1 ≤ n ∧ n ≤ 3652059
      · obtain ⟨y, m, d, hv, e0⟩ := date_of n hn.1 hn.2
        obtain ⟨lb, hlb⟩ : ∃ lb, lb = (en && (d == len (leap y) m)) := ⟨_, rfl⟩
        have hm : ∀ j : Nat, j < T → MonsA n (s * ((j : Int) + 1)) en (monN (ix y m + s * ((j : Int) + 1)) lb d) (monE (ix y m + s * ((j : Int) + 1))) := fun j hj => by
          have h1 := step_bd s1 s2 hj (by omega)
          have h2 := mon_any hv (s * ((j : Int) + 1)) en (by omega) (by omega)
          rw [e0, ← hlb] at h2
          exact h2
        rcases least_bad (fun j => monE (ix y m + s * ((j : Int) + 1)) = 0) T with hz | ⟨J, j1, j2, j3⟩
        · have hz2 : ∀ j : Nat, j < T → 1 ≤ (ix y m + s * ((j : Int) + 1)) / 12 ∧ (ix y m + s * ((j : Int) + 1)) / 12 ≤ 9999 := fun j hj => by
            by_cases q : 1 ≤ (ix y m + s * ((j : Int) + 1)) / 12 ∧ (ix y m + s * ((j : Int) + 1)) / 12 ≤ 9999
            · exact q
            · have := hz j hj
              rw [(mon_out (last := lb) (d := d) q).2] at this
              cases this
          have hok : ∀ j : Nat, j < T → MonsA n (s * ((j : Int) + 1)) en (monN (ix y m + s * ((j : Int) + 1)) lb d) 0 := fun j hj => by
            have := hm j hj
            rwa [hz j hj] at this
          have h64 : ∀ j : Nat, In64 (monN (ix y m + s * ((j : Int) + 1)) lb d) := fun j => monN_64 hv.d1
          have hT := to_ok y m d hv
          rw [e0] at hT
          refine r_main n k s y m d 0 en c T K (fun j => monN (ix y m + s * ((j : Int) + 1)) lb d) (prev n (fun j => monN (ix y m + s * ((j : Int) + 1)) lb d)) hal t2 c2 (hide ⟨eK, hK2⟩) (hide h64) (hide fun w => dates_ok n s T en _ s1 s2 t2 (hide hok) w) (hide (rows_ok s1 s2 (by omega) h64 (fun j hj => hok j (by omega)))) (hide hT) (hide rfl) (hide fun j => rfl) (hide hst) (hide fun j hj => ⟨hv.y1, hv.y2, hv.m1, hv.m2, ?_⟩) w
          have hi := hz2 j hj
          have vD := dOf_valid (last := lb) (d := d) hi.1 hi.2 (show 1 ≤ (ix y m + s * ((j : Int) + 1)) % 12 + 1 by omega) (by omega) hv.d1
          have hst1 := step_bd s1 s2 hj (by omega)
          refine ⟨(ix y m + s * ((j : Int) + 1)) / 12, (ix y m + s * ((j : Int) + 1)) % 12 + 1, dOf lb d ((ix y m + s * ((j : Int) + 1)) / 12) ((ix y m + s * ((j : Int) + 1)) % 12 + 1), ?_, hi.1, hi.2, by omega, by omega, ?_, ?_, ?_⟩
          · rw [(mon_in hi).1]
            exact to_ok _ _ _ vD
          · rw [bne_eq_false_iff_eq, Int.mul_comm ((j : Int) + 1) s]
            generalize s * ((j : Int) + 1) = x at *
            unfold ix
            omega
          · show prev n (fun j => monN (ix y m + s * ((j : Int) + 1)) lb d) j < monN (ix y m + s * ((j : Int) + 1)) lb d
            rw [(mon_in hi).1]
            cases j with
            | zero =>
              show n < _
              rw [← e0]
              have e1 := ix_y (y := y) hv.m1 hv.m2
              have e2 := ix_m (y := y) hv.m1 hv.m2
              have v0 : Valid (ix y m / 12) (ix y m % 12 + 1) d := by rw [e1, e2]; exact hv
              have := num_ix v0 vD (by omega)
              rw [e1, e2] at this
              exact this
            | succ i =>
              show monN (ix y m + s * ((i : Int) + 1)) lb d < _
              have hi2 := hz2 i (by omega)
              rw [(mon_in hi2).1]
              have vE := dOf_valid (last := lb) (d := d) hi2.1 hi2.2 (show 1 ≤ (ix y m + s * ((i : Int) + 1)) % 12 + 1 by omega) (by omega) hv.d1
              refine num_ix vE vD ?_
              have : s * (((i + 1 : Nat) : Int) + 1) = s * ((i : Int) + 1) + s := by rw [show ((i + 1 : Nat) : Int) + 1 = ((i : Int) + 1) + 1 from by omega, Int.mul_add s ((i : Int) + 1) 1, Int.mul_one]
              omega
          · cases hb : lb
            · have := dOf_le (d := d) (Y := (ix y m + s * ((j : Int) + 1)) / 12) (M := (ix y m + s * ((j : Int) + 1)) % 12 + 1)
              by_cases q : d < 28
              · exact Or.inl ⟨q, by omega⟩
              · exact Or.inr (Or.inr (Or.inl ⟨q, by omega⟩))
            · have hen : en = true := by
                rw [hb] at hlb
                cases en
                · simp at hlb
                · rfl
              generalize dOf true d ((ix y m + s * ((j : Int) + 1)) / 12) ((ix y m + s * ((j : Int) + 1)) % 12 + 1) = D
              by_cases q : d < 28
              · by_cases q2 : 28 < D
                · exact Or.inr (Or.inl ⟨q, q2, hen⟩)
                · exact Or.inl ⟨q, q2⟩
              · by_cases q2 : d < D
                · exact Or.inr (Or.inr (Or.inr ⟨q, q2, hen⟩))
                · exact Or.inr (Or.inr (Or.inl ⟨q, q2⟩))
        · have hJ := hm J j1
          refine r_no n k s T c _ en hal (hide (dates_no n s _ _ T J en (fun j => monN (ix y m + s * ((j : Int) + 1)) lb d) s1 s2 t2 (by omega) (hide fun j hj => ?_) (hide hJ) (by simpa using j2))) (by simpa using j2) w
          have := hm j (by omega)
          rwa [j3 j hj] at this
      · exact r_no n k s T c 5 en hal (hide (dates_no n s 0 5 T 0 en (fun _ => 0) s1 s2 t2 (by omega) (hide fun j hj => absurd hj (Nat.not_lt_zero j)) (hide (mon_no n _ en (by omega))) rfl)) rfl w
  · exact r_no n k s t c 2 en hal (hide (dates_bad n s t en h)) rfl w
theorem own : ownKnob Try.prog.godebug = none := by kernel_rfl
set_option linter.unusedVariables false in
set_option maxRecDepth 100000 in
theorem lifted (os : Os) (started : os.Started) (H : Type) (enc : TypeId × Value → H) :
    ReturnsInHanded {} Try.checked os 5 .any (Rows.periodRisesSpec.pre6 enc Try.prog Try.f5 Rows.periodRisesRow.domain false) (Rows.periodRisesSpec.post enc Try.prog Try.f5 false true false false) := by
  refine returnsInHanded_of_change (C := Try.checked) own started (by kernel_rfl) Try.func5
    (ChangeSpec.witness6 (enc := enc) (C := Try.checked) false ⟨#[], #[.agg #[.int .i64 0, .int .i64 0, .int .i64 0, .int .i64 0, .bool false], .int .u8 0], []⟩ 8 (by kernel_rfl) (by kernel_rfl) (by kernel_rfl) (by kernel_rfl)) ?_
  intro W base args ds gs before hval0 hW hcnd _
  have hval : ∀ (j : Nat) t v, Try.f5.params[j]? = some t → args[j]? = some v → Value.okWide Try.prog W .any base t v := hval0
  have hW' := hW
  obtain ⟨p, q, hA0, hV, rfl, hfz, hnd⟩ := hW
  have hA : DataW.TrodAll enc Try.prog W 0 (fun _ => true) true Try.f5.params.toList args.toList ds p := hA0
  rw [Try.params5] at hA hval
  obtain ⟨v0, vs0, d0, ds0, p0, q0, hargs, rfl, rfl, h0, r0⟩ := trodAll_cons hA
  obtain ⟨v1, vs1, d1, ds1, p1, q1, rfl, rfl, rfl, h1, r1⟩ := trodAll_cons r0
  obtain ⟨rfl, rfl, rfl⟩ := trodAll_nil r1
  obtain rfl : args = #[v0, v1] := by cases args; simp_all
  obtain ⟨rfl, rfl⟩ := trodVars_none hV
  obtain ⟨a00, a01, a02, a03, a04, rfl, rfl, rfl, w00, w01, w02, w03⟩ := open_asked (hval 0 23 v0 rfl rfl) h0
  obtain ⟨a1, rfl, rfl, rfl, w1⟩ := open_int Try.underlying5 (hval 1 5 v1 rfl rfl) h1
  clear hA0 hval0
  simp only [List.append_nil] at hW'
  refine (walk a00 a01 a02 a03 a04 a1 W w00 w01 w02 w03 w1).mono fun e W' ⟨he, bel⟩ => ?_
  subst he
  exact ⟨_, rfl, _, _, _, [], _, [], hW', trodAll_mk1 (shut_bool Try.underlying4 _), (trodAll_cons_mk (shut_asked w00 w01 w02 w03) (trodAll_cons_mk (shut_int Try.underlying5 w1) trodAll_mk0)), rfl, bel.frame _, fun h => by cases h⟩
theorem over : Rows.periodRisesRow.holds Try.pinned (OpenSpec.ofChange Rows.periodRisesSpec) :=
  OpenClaim.holds_of_wide 5 Try.f5 rfl rfl rfl rfl rfl rfl rfl ⟨rfl, rfl, rfl, rfl, rfl⟩ rfl rfl rfl rfl rfl (by kernel_rfl) Try.func5 (by kernel_rfl)
    (of_decide_eq_true (by kernel_rfl)) (by unfold Func.isWrapper; first | (rw [if_pos (by decide +kernel)]; kernel_rfl) | (rw [if_neg (by decide +kernel)]; exact ⟨rfl, rfl⟩))
    (fun os started H enc _ => lifted os started H enc)
/-- The statement. -/
theorem proved : Rows.PeriodRisesSaid := over
#print axioms proved
end Go.Proofs.Ytmpalgfhamahnaa.periodRises
namespace Go.Proofs.Ytmpalgfhamahnaa
theorem periodRises_holds : Rows.PeriodRisesSaid := periodRises.proved
end Go.Proofs.Ytmpalgfhamahnaa
