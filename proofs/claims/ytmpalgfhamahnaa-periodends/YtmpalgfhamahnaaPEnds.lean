/- Proved here: PeriodEnds: from a month's end, with ends kept, each day of a row is its month's end, and without, none is beyond the day it began with. No condition. -/
import Derived.Test.YtmpalgfhamahnaaAlive
import Derived.Test.YtmpalgfhamahnaaBoth
import Derived.ProofKit
import Derived.OpenShut
import Derived.ShutString
import Derived.ChangeOld
import Derived.Below
import Derived.Deep.RegionHeld3
namespace Go.Proofs.Ytmpalgfhamahnaa.periodEnds
open Go.ChangeShapes Go.WideShapes Go.ChangeAt Go.RowKit
set_option linter.unusedSimpArgs false
set_option linter.unusedVariables false in
set_option maxRecDepth 20000 in
set_option maxHeartbeats 8000000 in
theorem e_no (n p q : Int) (hal : Hid (∀ w : World, Calls Try.prog 9 #[] w fun e w' => e = .returned (.bool true) ∧ Below w.heap.size w w')) (hT : Hid (Tos n 0 0 0 5)) (w : World) : Calls Try.prog 8 #[.int .i64 n, .int .u8 p, .int .u8 q] w fun e w' => e = .returned (.bool true) ∧ Below w.heap.size w w' := by
  go_enter Try.func8, Try.ntmps8
  go_wp2_with fail
  refine (unhide hal _).mono ?_
  rintro e w1 ⟨rfl, hb1⟩
  replace hb1 := hide hb1
  go_wp2_with fail
  refine (unhide hT _).mono ?_
  rintro e w2 ⟨rfl, hb2⟩
  replace hb2 := hide (below_via (below_via (unhide hb1) hb2) ((Below.refl w2.heap.size w2).alloc (Nat.le_refl _) (.cells #[.int .i64 0, .int .i64 0, .int .i64 0] 37)))
  clear hb1
  go_wp2_with fail
  go_ret
  exact ⟨rfl, unhide hb2⟩
set_option linter.unusedVariables false in
set_option maxRecDepth 20000 in
set_option maxHeartbeats 8000000 in
theorem e_hi (n p q y m d : Int) (hal : Hid (∀ w : World, Calls Try.prog 9 #[] w fun e w' => e = .returned (.bool true) ∧ Below w.heap.size w w')) (hT : Hid (Tos n y m d 0)) (y9 : decide (9000 < y) = true) (w : World) : Calls Try.prog 8 #[.int .i64 n, .int .u8 p, .int .u8 q] w fun e w' => e = .returned (.bool true) ∧ Below w.heap.size w w' := by
  go_enter Try.func8, Try.ntmps8
  go_wp2_with fail
  refine (unhide hal _).mono ?_
  rintro e w1 ⟨rfl, hb1⟩
  replace hb1 := hide hb1
  go_wp2_with fail
  refine (unhide hT _).mono ?_
  rintro e w2 ⟨rfl, hb2⟩
  replace hb2 := hide (below_via (below_via (unhide hb1) hb2) ((Below.refl w2.heap.size w2).alloc (Nat.le_refl _) (.cells #[.int .i64 y, .int .i64 m, .int .i64 d] 37)))
  clear hb1
  go_wp2_with fail
  go_ret
  exact ⟨rfl, unhide hb2⟩
/-- Since w: below nothing has turned; the date and both rows lie where they lay. -/
structure LE (w wr : World) (b P1 P2 T : Nat) (y m d : Int) (f1 f2 : Nat → Int) : Prop where
  bel : Below w.heap.size w wr
  date : R3 wr b y m d
  one : wr.rowIs P1 3 T (fun j => .int .i64 (f1 j))
  two : wr.rowIs P2 3 T (fun j => .int .i64 (f2 j))
theorem rowIs_keep {wr wr' : World} {P T : Nat} {f : Nat → Value} (h : wr.rowIs P 3 T f) (hb : Below wr.heap.size wr wr') : wr'.rowIs P 3 T f := by
  obtain ⟨c, hc, h2⟩ := h
  exact ⟨c, (hb.block P (Array.getElem?_eq_some_iff.1 hc).1).trans hc, h2⟩
theorem LE.keep {w wr wr' : World} {b P1 P2 T : Nat} {y m d : Int} {f1 f2 : Nat → Int} (h : LE w wr b P1 P2 T y m d f1 f2) (hb : Below wr.heap.size wr wr') : LE w wr' b P1 P2 T y m d f1 f2 :=
  ⟨below_via h.bel hb, h.date.keep hb h.date.lt, rowIs_keep h.one hb, rowIs_keep h.two hb⟩
theorem LE.alloc {w wr : World} {b P1 P2 T : Nat} {y m d : Int} {f1 f2 : Nat → Int} (h : LE w wr b P1 P2 T y m d f1 f2) (o : Obj) : LE w (wr.alloc o) b P1 P2 T y m d f1 f2 := h.keep ((Below.refl _ _).alloc (Nat.le_refl _) o)
/-- The date lies where it lay, spelled for a region. -/
def IE (w : World) (b : Nat) (y m d : Int) (w' : World) : Prop := w'.cell? ⟨b, 0, none⟩ = some (.int .i64 y) ∧ w'.cell? ⟨b, 1, none⟩ = some (.int .i64 m) ∧ Hid (R3 w' b y m d ∧ Below w.heap.size w w')
theorem IE.mk {w : World} {b : Nat} {y m d : Int} {w' : World} (h : R3 w' b y m d) (hb : Below w.heap.size w w') : IE w b y m d w' := ⟨h.c0, h.c1, hide ⟨h, hb⟩⟩
theorem IE.keep {w : World} {b : Nat} {y m d : Int} {w' w2 : World} (h : IE w b y m d w') (hb : Below w'.heap.size w' w2) : IE w b y m d w2 := IE.mk ((unhide h.2.2).1.keep hb (unhide h.2.2).1.lt) (below_via (unhide h.2.2).2 hb)
theorem IE.drew {w : World} {b : Nat} {y m d : Int} {w' : World} (h : IE w b y m d w') : IE w b y m d w'.drew := IE.mk (unhide h.2.2).1 (below_drewN (unhide h.2.2).2 1)
set_option linter.unusedVariables false in
set_option maxRecDepth 20000 in
set_option maxHeartbeats 8000000 in
theorem e_main (n y m d L nl s : Int) (p q T : Nat) (f1 f2 : Nat → Int) (hal : Hid (∀ w : World, Calls Try.prog 9 #[] w fun e w' => e = .returned (.bool true) ∧ Below w.heap.size w w')) (hT : Hid (Tos n y m d 0)) (y9 : decide (9000 < y) = false) (hL : Hid (Q 21 #[.int .i64 y, .int .i64 m] (.int .i64 L))) (hF : Hid (Froms y m L nl 0)) (es : Hid ((p : Int) % 12 + 1 = s)) (eT : Hid ((q : Int) % 30 = (T : Int))) (p2 : (p : Int) ≤ 255) (q2 : (q : Int) ≤ 255) (T2 : (T : Int) ≤ 29)
    (hD1 : Hid (∀ w : World, Calls Try.prog 12 #[.int .i64 nl, .int .i64 s, .int .i64 T, .bool true] w fun e w' => e = .returned (.tuple #[.slice (some ⟨w.heap.size, 0, none⟩) T T, .int .i64 0]) ∧ Own w w' w.heap.size T f1))
    (hD2 : Hid (∀ w : World, Calls Try.prog 12 #[.int .i64 n, .int .i64 s, .int .i64 T, .bool false] w fun e w' => e = .returned (.tuple #[.slice (some ⟨w.heap.size, 0, none⟩) T T, .int .i64 0]) ∧ Own w w' w.heap.size T f2))
    (hX : Hid (∀ j : Nat, j < T → ∃ Y M D l : Int, Tos (f1 j) Y M l 0 ∧ Tos (f2 j) Y M D 0 ∧ Q 21 #[.int .i64 Y, .int .i64 M] (.int .i64 l) ∧ ((d ≤ l ∧ D = d) ∨ (l < d ∧ D = l)))) (w : World) : Calls Try.prog 8 #[.int .i64 n, .int .u8 (p : Int), .int .u8 (q : Int)] w fun e w' => e = .returned (.bool true) ∧ Below w.heap.size w w' := by
  go_enter Try.func8, Try.ntmps8
  go_wp2_with fail
  refine (unhide hal _).mono ?_
  rintro e w1 ⟨rfl, hb1⟩
  replace hb1 := hide hb1
  go_wp2_with fail
  refine (unhide hT _).mono ?_
  rintro e w2 ⟨rfl, hb2⟩
  have HD := R3.new w2 y m d
  obtain ⟨b, eb⟩ : ∃ b, b = w2.heap.size := ⟨_, rfl⟩
  rw [← eb] at HD
  replace hb2 := hide (below_via (below_via (unhide hb1) hb2) ((Below.refl w2.heap.size w2).alloc (Nat.le_refl _) (.cells #[.int .i64 y, .int .i64 m, .int .i64 d] 37)))
  replace HD := hide HD
  clear hb1
  go_wp2_with fail
  rw [← eb]
  generalize w2.alloc (.cells #[.int .i64 y, .int .i64 m, .int .i64 d] 37) = W2 at *
  clear eb
  have HI : IE w b y m d W2 := IE.mk (unhide HD) (unhide hb2)
  clear HD hb2
  go_region_held3 (fun w' => w'.cell? ⟨b, 0, none⟩ = some (.int .i64 y) ∧ w'.cell? ⟨b, 1, none⟩ = some (.int .i64 m) ∧ Hid (R3 w' b y m d ∧ Below w.heap.size w w'))
    (first
      | exact IE.keep (by assumption) hbA
      | exact IE.keep HI hbA
      | exact IE.keep HI.drew hbA
      | exact HI.drew
      | exact HI)
    (first
      | (go_at_call 21; refine (unhide hL _).mono ?_; rintro z wA ⟨rfl, rfl⟩)
      | (go_at_call 20; refine (unhide hF _).mono ?_; rintro z wA ⟨rfl, hbA⟩))
  rename_i hH
  have HD := hide (unhide hH.2.2).1
  have hb3 := hide (unhide hH.2.2).2
  clear hH HI hbA
  go_wp2_with fail
  rw [unhide es, unhide eT]
  refine (unhide hD1 _).mono ?_
  rintro e w4 ⟨rfl, ho1⟩
  have ho1r := hide ho1.row
  replace HD := hide ((unhide HD).keep ho1.below (unhide HD).lt)
  replace hb3 := hide (below_via (unhide hb3) ho1.below)
  clear ho1
  go_wp2_with fail
  rw [unhide es, unhide eT]
  refine (unhide hD2 _).mono ?_
  rintro e w5 ⟨rfl, ho2⟩
  have HL := hide (show LE w w5 b wA.heap.size w4.heap.size T y m d f1 f2 from ⟨below_via (unhide hb3) ho2.below, (unhide HD).keep ho2.below (unhide HD).lt, rowIs_keep (unhide ho1r) ho2.below, ho2.row⟩)
  clear ho2 hb3 HD ho1r hD1 hD2 hL hF hal es eT y9
  generalize wA.heap.size = P1 at *
  generalize w4.heap.size = P2 at *
  go_wp2_with fail
  go_loopw [91] (fun i wr => ∃ j : Nat, j ≤ T ∧ i = .int .i64 j ∧ Hid (LE w wr b P1 P2 T y m d f1 f2)) (fun i _ => T - (intOf i).toNat)
  case atStart => exact ⟨0, by omega, rfl, HL⟩
  case round =>
    clear HL
    obtain ⟨j, hj, rfl, HL⟩ := hrel
    by_cases hlt : j < T
    · have h1 := (unhide HL).one.cell hlt
      obtain ⟨Y, M, D, l, tX, tY, hl, hD⟩ := unhide hX j hlt
      replace tX := hide tX
      replace tY := hide tY
      replace hl := hide hl
      replace hD := hide hD
      have hjT : (j : Int) < (T : Int) := by omega
      go_wp2_with fail
      refine (unhide tX _).mono ?_
      rintro e w6 ⟨rfl, hb6⟩
      have HX := R3.new w6 Y M l
      obtain ⟨bx, ex⟩ : ∃ bx, bx = w6.heap.size := ⟨_, rfl⟩
      rw [← ex] at HX
      replace HX := hide HX
      replace HL := hide (((unhide HL).keep hb6).alloc (.cells #[.int .i64 Y, .int .i64 M, .int .i64 l] 37))
      clear hb6 h1
      have h2 := (unhide HL).two.cell hlt
      go_wp2_with fail
      rw [← ex]
      generalize w6.alloc (.cells #[.int .i64 Y, .int .i64 M, .int .i64 l] 37) = W6 at *
      clear ex
      refine (unhide tY _).mono ?_
      rintro e w7 ⟨rfl, hb7⟩
      replace HX := hide (((unhide HX).keep hb7 (unhide HX).lt).alloc (.cells #[.int .i64 Y, .int .i64 M, .int .i64 D] 37))
      have HY := R3.new w7 Y M D
      obtain ⟨b2, ey⟩ : ∃ b2, b2 = w7.heap.size := ⟨_, rfl⟩
      rw [← ey] at HY
      replace HY := hide HY
      replace HL := hide (((unhide HL).keep hb7).alloc (.cells #[.int .i64 Y, .int .i64 M, .int .i64 D] 37))
      clear hb7 h2
      go_wp2_with fail
      rw [← ey]
      generalize w7.alloc (.cells #[.int .i64 Y, .int .i64 M, .int .i64 D] 37) = W7 at *
      clear ey
      have x0 := (unhide HX).c0
      have x1 := (unhide HX).c1
      have x2 := (unhide HX).c2
      have y0 := (unhide HY).c0
      have y1 := (unhide HY).c1
      have y2 := (unhide HY).c2
      have z2 := (unhide HL).date.c2
      have g1 : (l != l) = false := by simp
      have g3 : (M != M) = false := by simp
      have g4 : (Y != Y) = false := by simp
      have g2 : (D != D) = false := by simp
      rcases unhide hD with ⟨hm, rfl⟩ | ⟨hm, rfl⟩
      · go_quiet ((go_at_call 21; exact Calls.quiet_of_same (unhide hl _)))
        have HL2 : Hid (LE w (W7.drewN nq) b P1 P2 T y m D f1 f2) := hide ⟨below_drewN (unhide HL).bel nq, (unhide HL).date, (unhide HL).one, (unhide HL).two⟩
        clear HL
        go_wp2_with fail
        go_roundw
        case rel => exact ⟨j + 1, by omega, by go_num, HL2⟩
        case measure => simp [intOf]; omega
      · go_quiet ((go_at_call 21; exact Calls.quiet_of_same (unhide hl _)))
        have HL2 : Hid (LE w (W7.drewN nq) b P1 P2 T y m d f1 f2) := hide ⟨below_drewN (unhide HL).bel nq, (unhide HL).date, (unhide HL).one, (unhide HL).two⟩
        clear HL
        go_wp2_with fail
        go_roundw
        case rel => exact ⟨j + 1, by omega, by go_num, HL2⟩
        case measure => simp [intOf]; omega
    · obtain rfl : j = T := by omega
      clear hX
      go_wp2_with fail
      go_ret
      exact ⟨rfl, (unhide HL).bel⟩
theorem u8_nat {a : Int} (h : (Lit.int .u8 a).wf = true) : ∃ k : Nat, a = (k : Int) ∧ (k : Int) ≤ 255 := by
  have hc : 0 ≤ a ∧ a ≤ 255 := by
    simp only [Lit.wf, IntKind.min, IntKind.max, IntKind.signed, IntKind.bits, Bool.and_eq_true] at h
    simpa using h
  exact ⟨a.toNat, by omega, by omega⟩
theorem walk (n a b : Int) (w : World) (_hn : (Lit.int .i64 n).wf = true) (ha : (Lit.int .u8 a).wf = true) (hb : (Lit.int .u8 b).wf = true) : Calls Try.prog 8 #[.int .i64 n, .int .u8 a, .int .u8 b] w fun e w' => e = .returned (.bool true) ∧ Below w.heap.size w w' := by
  have hal := hide alive_any
  by_cases hn : 1 ≤ n ∧ n ≤ 3652059
  · obtain ⟨y, m, d, hv, rfl⟩ := date_of n hn.1 hn.2
    have hT := hide (to_ok y m d hv)
    by_cases y9 : 9000 < y
    · exact e_hi _ a b y m d hal hT (decide_eq_true y9) w
    · obtain ⟨p, rfl, p2⟩ := u8_nat ha
      obtain ⟨q, rfl, q2⟩ := u8_nat hb
      obtain ⟨T, hTq⟩ : ∃ T : Nat, (q : Int) % 30 = (T : Int) := ⟨q % 30, by omega⟩
      obtain ⟨s, hs⟩ : ∃ s : Int, (p : Int) % 12 + 1 = s := ⟨_, rfl⟩
      have s1 : 1 ≤ s := by omega
      have s2 : s ≤ 12 := by omega
      have hL := last_any y m
      rw [last_in hv.y1 hv.y2] at hL
      have hl28 := len_pos (leap y) hv.m1 hv.m2
      have hvL : Valid y m (len (leap y) m) := ⟨hv.y1, hv.y2, hv.m1, hv.m2, by omega, Int.le_refl _⟩
      have in_ : ∀ j : Nat, j < T → 1 ≤ (ix y m + s * ((j : Int) + 1)) / 12 ∧ (ix y m + s * ((j : Int) + 1)) / 12 ≤ 9999 := fun j hj => by
        have h1 := step_bd s1 s2 hj (by omega)
        have h2 := hv.y1
        have h3 := hv.m1
        have h4 := hv.m2
        generalize s * ((j : Int) + 1) = x at *
        unfold ix
        omega
      have m1 : ∀ j : Nat, j < T → MonsA (num y m (len (leap y) m)) (s * ((j : Int) + 1)) true (monN (ix y m + s * ((j : Int) + 1)) true (len (leap y) m)) 0 := fun j hj => by
        have h1 := step_bd s1 s2 hj (by omega)
        have h2 := mon_any hvL (s * ((j : Int) + 1)) true (by omega) (by omega)
        rw [(mon_in (last := true) (d := d) (in_ j hj)).2, show (true && (len (leap y) m == len (leap y) m)) = true from by simp] at h2
        exact h2
      have m2 : ∀ j : Nat, j < T → MonsA (num y m d) (s * ((j : Int) + 1)) false (monN (ix y m + s * ((j : Int) + 1)) false d) 0 := fun j hj => by
        have h1 := step_bd s1 s2 hj (by omega)
        have h2 := mon_any hv (s * ((j : Int) + 1)) false (by omega) (by omega)
        rw [(mon_in (last := true) (d := d) (in_ j hj)).2, Bool.false_and] at h2
        exact h2
      refine e_main _ y m d (len (leap y) m) (num y m (len (leap y) m)) s p q T (fun j => monN (ix y m + s * ((j : Int) + 1)) true (len (leap y) m)) (fun j => monN (ix y m + s * ((j : Int) + 1)) false d) hal hT (decide_eq_false y9) (hide hL) (hide (from_ok hvL)) (hide hs) (hide hTq) p2 q2 (by omega)
        (hide fun w => dates_ok _ s T true _ s1 s2 (by omega) (hide m1) w) (hide fun w => dates_ok _ s T false _ s1 s2 (by omega) (hide m2) w) (hide fun j hj => ?_) w
      have hi := in_ j hj
      have a1 := (mon_in (last := true) (d := len (leap y) m) hi).1
      have a2 := (mon_in (last := false) (d := d) hi).1
      rw [a1, a2]
      generalize ix y m + s * ((j : Int) + 1) = i at *
      have v1 := dOf_valid (last := true) (d := len (leap y) m) hi.1 hi.2 (show 1 ≤ i % 12 + 1 by omega) (by omega) (by omega)
      have v2 := dOf_valid (last := false) (d := d) hi.1 hi.2 (show 1 ≤ i % 12 + 1 by omega) (by omega) hv.d1
      have hl := last_any (i / 12) (i % 12 + 1)
      rw [last_in hi.1 hi.2] at hl
      refine ⟨i / 12, i % 12 + 1, dOf false d (i / 12) (i % 12 + 1), len (leap (i / 12)) (i % 12 + 1), ?_, to_ok _ _ _ v2, hl, ?_⟩
      · have := to_ok _ _ _ v1
        rw [dOf_last] at this ⊢
        exact this
      · rw [dOf_min]
        by_cases c : len (leap (i / 12)) (i % 12 + 1) < d
        · exact Or.inr ⟨c, if_pos c⟩
        · exact Or.inl ⟨by omega, if_neg c⟩
  · exact e_no n a b hal (hide (to_no n (by omega))) w
theorem own : ownKnob Try.prog.godebug = none := by kernel_rfl
set_option linter.unusedVariables false in
set_option maxRecDepth 100000 in
theorem lifted (os : Os) (started : os.Started) (H : Type) (enc : TypeId × Value → H) :
    ReturnsInHanded {} Try.checked os 8 .any (Rows.periodEndsSpec.pre6 enc Try.prog Try.f8 Rows.periodEndsRow.domain false) (Rows.periodEndsSpec.post enc Try.prog Try.f8 false true false false) := by
  refine returnsInHanded_of_change (C := Try.checked) own started (by kernel_rfl) Try.func8
    (ChangeSpec.witness6 (enc := enc) (C := Try.checked) false ⟨#[], #[.int .i64 0, .int .u8 0, .int .u8 0], []⟩ 8 (by kernel_rfl) (by kernel_rfl) (by kernel_rfl) (by kernel_rfl)) ?_
  intro W base args ds gs before hval0 hW hcnd _
  have hval : ∀ (j : Nat) t v, Try.f8.params[j]? = some t → args[j]? = some v → Value.okWide Try.prog W .any base t v := hval0
  have hW' := hW
  obtain ⟨p, q, hA0, hV, rfl, hfz, hnd⟩ := hW
  have hA : DataW.TrodAll enc Try.prog W 0 (fun _ => true) true Try.f8.params.toList args.toList ds p := hA0
  rw [Try.params8] at hA hval
  obtain ⟨v0, vs0, d0, ds0, p0, q0, hargs, rfl, rfl, h0, r0⟩ := trodAll_cons hA
  obtain ⟨v1, vs1, d1, ds1, p1, q1, rfl, rfl, rfl, h1, r1⟩ := trodAll_cons r0
  obtain ⟨v2, vs2, d2, ds2, p2, q2, rfl, rfl, rfl, h2, r2⟩ := trodAll_cons r1
  obtain ⟨rfl, rfl, rfl⟩ := trodAll_nil r2
  obtain rfl : args = #[v0, v1, v2] := by cases args; simp_all
  obtain ⟨rfl, rfl⟩ := trodVars_none hV
  obtain ⟨a0, rfl, rfl, rfl, w0⟩ := open_int Try.underlying3 (hval 0 3 v0 rfl rfl) h0
  obtain ⟨a1, rfl, rfl, rfl, w1⟩ := open_int Try.underlying5 (hval 1 5 v1 rfl rfl) h1
  obtain ⟨a2, rfl, rfl, rfl, w2⟩ := open_int Try.underlying5 (hval 2 5 v2 rfl rfl) h2
  clear hA0 hval0
  simp only [List.append_nil] at hW'
  refine (walk a0 a1 a2 W w0 w1 w2).mono fun e W' ⟨he, bel⟩ => ?_
  subst he
  exact ⟨_, rfl, _, _, _, [], _, [], hW', trodAll_mk1 (shut_bool Try.underlying4 _), (trodAll_cons_mk (shut_int Try.underlying3 w0) (trodAll_cons_mk (shut_int Try.underlying5 w1) (trodAll_cons_mk (shut_int Try.underlying5 w2) trodAll_mk0))), rfl, bel.frame _, fun h => by cases h⟩
theorem over : Rows.periodEndsRow.holds Try.pinned (OpenSpec.ofChange Rows.periodEndsSpec) :=
  OpenClaim.holds_of_wide 8 Try.f8 rfl rfl rfl rfl rfl rfl rfl ⟨rfl, rfl, rfl, rfl, rfl⟩ rfl rfl rfl rfl rfl (by kernel_rfl) Try.func8 (by kernel_rfl)
    (of_decide_eq_true (by kernel_rfl)) (by unfold Func.isWrapper; first | (rw [if_pos (by decide +kernel)]; kernel_rfl) | (rw [if_neg (by decide +kernel)]; exact ⟨rfl, rfl⟩))
    (fun os started H enc _ => lifted os started H enc)
/-- The statement. -/
theorem proved : Rows.PeriodEndsSaid := over
#print axioms proved
end Go.Proofs.Ytmpalgfhamahnaa.periodEnds
namespace Go.Proofs.Ytmpalgfhamahnaa
theorem periodEnds_holds : Rows.PeriodEndsSaid := periodEnds.proved
end Go.Proofs.Ytmpalgfhamahnaa
