/- Proved here: TableEnds: a table ends with 0, all its interest is what is paid less the outlay, each row begins where the last one closed, at the rate but the last one. No condition. -/
import Derived.Test.YtmepmmhhiphfiaaTFacts
import Derived.Below
namespace Go.Proofs.Ytmepmmhhiphfiaa.Mn.tableEnds
open Go.ChangeShapes Go.WideShapes Go.ChangeAt Go.RowKit
set_option linter.unusedSimpArgs false
theorem s_long (o : Int) (a0 : Option Addr) (l0 c0 : Nat) (r : Int) (d1 : decide ((200 : Int) < (l0 : Int)) = true) (hal : Hid Alive) (w : World) : Calls Try.prog 5 #[.int .i64 o, .slice a0 l0 c0, .int .i64 r] w fun e w' => e = .returned (.bool true) ∧ Below w.heap.size w w' := by
  go_enter Try.func5, Try.ntmps5
  go_wp2_with fail
  refine (unhide hal _).mono ?_
  rintro e w1 ⟨rfl, hb⟩
  replace hb := hide hb
  go_wp2_with fail
  go_ret
  exact ⟨rfl, unhide hb⟩
theorem s_err (o : Int) (a0 : Option Addr) (l0 c0 : Nat) (l : List Int) (r E : Int) (d1 : decide ((200 : Int) < (l0 : Int)) = false) (hal : Hid Alive) (w : World) (hR : Hid (Row w (.slice a0 l0 c0) l)) (he : E ≠ 0) (hres : Res o l r [] E) : Calls Try.prog 5 #[.int .i64 o, .slice a0 l0 c0, .int .i64 r] w fun e w' => e = .returned (.bool true) ∧ Below w.heap.size w w' := by
  have hE : (E != 0) = true := by simpa using he
  have HA : Hid (∀ w', Row w' (.slice a0 l0 c0) l → Calls Try.prog 8 #[.int .i64 o, .slice a0 l0 c0, .int .i64 r] w' fun z w2 => ∃ u c, z = .returned (.tuple #[.slice u 0 c, .int .i64 E]) ∧ Below w'.heap.size w' w2) := hide (fun w' h => (roll_any h hres).mono fun e w2 ⟨v, h1, h2, h3⟩ => by
    obtain ⟨a, c, rfl⟩ := rowN_slice h2
    exact ⟨a, c, h1, h3⟩)
  have t0 : ((0 : Int) == 0) = true := rfl
  clear he hres
  go_enter Try.func5, Try.ntmps5
  go_wp2_with fail
  refine (unhide hal _).mono ?_
  rintro e w1 ⟨rfl, hb⟩
  replace hR := hide ((unhide hR).below hb (Nat.le_refl _))
  have HB := hide hb
  clear hb
  go_wp2_with fail
  refine (unhide HA _ (unhide hR)).mono ?_
  rintro e w2 ⟨u, c, rfl, hb⟩
  replace HB := hide (below_via (unhide HB) hb)
  clear hb
  go_wp2_with fail
  go_ret
  exact ⟨rfl, unhide HB⟩
set_option maxRecDepth 100000 in
set_option maxHeartbeats 8000000 in
theorem s_ok (o : Int) (ab ao : Nat) (l0 c0 : Nat) (l : List Int) (r : Int) (d1 : decide ((200 : Int) < (l0 : Int)) = false) (hal : Hid Alive) (w : World) (hl : l.length = l0) (hR : Hid (Row w (.slice (some ⟨ab, ao, none⟩) l0 c0) l)) (hk : RollOk o l r) (ho : ∀ j, j < l.length → ¬ over o r l j) : Calls Try.prog 5 #[.int .i64 o, .slice (some ⟨ab, ao, none⟩) l0 c0, .int .i64 r] w fun e w' => e = .returned (.bool true) ∧ Below w.heap.size w w' := by
  have HK := hide hk
  have HO := hide ho
  have HL := hide hl
  have hl0 : 0 < l0 := by rw [← hl]; exact hk.n0
  have hl1 : l0 ≤ 600 := by rw [← hl]; exact hk.n1
  have HA : Hid (∀ w', Row w' (.slice (some ⟨ab, ao, none⟩) l0 c0) l → Calls Try.prog 8 #[.int .i64 o, .slice (some ⟨ab, ao, none⟩) l0 c0, .int .i64 r] w' fun z w2 => ∃ b off c, z = .returned (.tuple #[.slice (some ⟨b, off, none⟩) l0 c, .int .i64 0]) ∧ RowN 4 w2 (.slice (some ⟨b, off, none⟩) l0 c) (rowsUp o r l l0) ∧ Below w'.heap.size w' w2) := hide (fun w' h => (roll_any h (Or.inr ⟨hk, Or.inl ⟨rfl, rfl, ho⟩⟩)).mono fun e w2 ⟨v, h1, h2, h3⟩ => by
    rw [hl] at h2
    obtain ⟨b, off, c, rfl, _⟩ := h2.open (by rw [rowsUp_len]; exact hl0)
    rw [rowsUp_len] at h1 h2
    exact ⟨b, off, c, h1, h2, h3⟩)
  have t0 : ((0 : Int) == 0) = true := rfl
  have t1 : ((0 : Int) != 0) = false := rfl
  have o0 := hk.o0
  have o1 := hk.o1
  have hT2 := paid_bd hk l0
  have hT1 := int_sum o r l l0
  have hst : st o r l l0 = 0 := by
    obtain ⟨m, hm⟩ : ∃ m, l0 = m + 1 := ⟨l0 - 1, by omega⟩
    rw [hm]
    exact st_last (by omega)
  rw [hst] at hT1
  have HT : Hid (SumR (rowsUp o r l l0) (T2 (rowsUp o r l l0) - o) (T2 (rowsUp o r l l0)) 0) := hide (Or.inr (Or.inr ⟨by unfold T1; rw [hT1]; exact ⟨by omega, by omega⟩, by unfold T2; exact ⟨by omega, by omega⟩, by unfold T1 T2; rw [hT1]; omega, rfl, rfl⟩))
  have hS0 : 0 ≤ T2 (rowsUp o r l l0) := hT2.1
  have hS1 : T2 (rowsUp o r l l0) ≤ 6000000000000000 := by have := hT2.2; unfold T2; omega
  have HSt := hide hst
  clear hk ho hl hT2 hT1 hst
  go_enter Try.func5, Try.ntmps5
  go_wp2_with fail
  refine (unhide hal _).mono ?_
  rintro e w1 ⟨rfl, hb⟩
  replace hR := hide ((unhide hR).below hb (Nat.le_refl _))
  have HB := hide hb
  clear hb
  go_wp2_with fail
  refine (unhide HA _ (unhide hR)).mono ?_
  rintro e w2 ⟨b, off, c, rfl, hu, hb⟩
  replace HB := hide (below_via (unhide HB) hb)
  replace hR := hide ((unhide hR).below hb (Nat.le_refl _))
  have HU := hide hu
  clear hb hu HA
  go_wp2_with fail
  go_loopw [9, 37] (fun x i wr => ∃ k : Nat, k ≤ l0 ∧ i = .int .i64 k ∧ x = .int .i64 (st o r l k) ∧ Hid (Below w2.heap.size w2 wr)) (fun _ i _ => l0 - (intOf i).toNat)
  case atStart => exact ⟨0, Nat.zero_le _, rfl, rfl, hide (Below.refl _ _)⟩
  case round =>
    obtain ⟨k, hk, rfl, rfl, HW⟩ := hrel
    have HUk := hide ((unhide HU).keep (unhide HW))
    have HRk := hide ((unhide hR).below (unhide HW) (Nat.le_refl _))
    by_cases hlt : k < l0
    · have hno := unhide HO k (by rw [unhide HL]; exact hlt)
      have hbd := st_bd (unhide HK) k (fun j hj => unhide HO j (by rw [unhide HL]; omega))
      have hnx := st_next hno
      have hin := inr_in hno
      have hpy := (unhide HK).at k
      have HI := hide (interest_ok (r := r) (show In64 (st o r l k) from ⟨by omega, by omega⟩) (unhide HK).may)
      have HI2 : Hid (¬ k + 1 = l0 → Ans 17 (st o r l k) r (inr o r l k) 0) := hide (fun h => by
        have e := inr_mid (o := o) (r := r) (show ¬ k + 1 = l.length by rw [unhide HL]; exact h)
        rw [e] at hin ⊢
        exact in_ok (unhide HI) hin)
      have d0 := (unhide HUk).cells (j := k) (t := 0) (by rw [rowsUp_len]; exact hlt) (by decide)
      have d1 := (unhide HUk).cells (j := k) (t := 1) (by rw [rowsUp_len]; exact hlt) (by decide)
      have d2 := (unhide HUk).cells (j := k) (t := 2) (by rw [rowsUp_len]; exact hlt) (by decide)
      have d3 := (unhide HUk).cells (j := k) (t := 3) (by rw [rowsUp_len]; exact hlt) (by decide)
      rw [Nat.add_zero, getN_rows hlt] at d0
      rw [getN_rows hlt] at d1 d2 d3
      replace d0 : wr.cell? ⟨b, off + k * 4, none⟩ = some (.int .i64 (st o r l k)) := d0
      replace d1 : wr.cell? ⟨b, off + k * 4 + 1, none⟩ = some (.int .i64 (inr o r l k)) := d1
      replace d2 : wr.cell? ⟨b, off + k * 4 + 2, none⟩ = some (.int .i64 (l.getD k 0)) := d2
      replace d3 : wr.cell? ⟨b, off + k * 4 + 3, none⟩ = some (.int .i64 (st o r l k + inr o r l k - l.getD k 0)) := d3
      have cl := row_cell (unhide HRk) (j := k) (by rw [unhide HL]; exact hlt)
      have HX : Hid (st o r l (k + 1) = st o r l k + inr o r l k - l.getD k 0) := hide (st_succ o r l k)
      rw [st_succ] at hnx
      have hi0 := hin.lo
      have hi1 := hin.hi
      obtain ⟨Qn, hQn⟩ : ∃ q, okN (qI (st o r l k) r) = q := ⟨_, rfl⟩
      obtain ⟨Qe, hQe⟩ : ∃ q, okE (qI (st o r l k) r) = q := ⟨_, rfl⟩
      rw [hQn, hQe] at HI
      clear hQn hQe hno hin
      have k1 : (k : Int) < (l0 : Int) := by omega
      obtain ⟨A, hA⟩ : ∃ x, st o r l k = x := ⟨_, rfl⟩
      obtain ⟨I, hI⟩ : ∃ x, inr o r l k = x := ⟨_, rfl⟩
      obtain ⟨P, hP⟩ : ∃ x, l.getD k 0 = x := ⟨_, rfl⟩
      rw [hA, hI, hP] at HX d3 hnx
      rw [hA, hI] at HI2
      rw [hA] at HI d0 hbd ⊢
      rw [hI] at d1 hi0 hi1
      rw [hP] at d2 cl hpy
      clear hA hI hP
      have b0 : -9223372036854775808 ≤ A + I := by omega
      have b1 : A + I ≤ 9223372036854775807 := by omega
      have e1 : (A != A) = false := by simp
      have e2 : (P != P) = false := by simp
      have e3 : (A + I - P != A + I - P) = false := by simp
      have e4 : (I != I) = false := by simp
      have HR4 := hide (R4.new wr 43 A I P (A + I - P))
      unfold Ans at HI HI2
      have HCl := hide cl
      clear cl
      by_cases hla : k + 1 = l0
      · have e5 : decide ((k : Int) < (l0 : Int) - 1) = false := decide_eq_false (by omega)
        clear HI2 hla
        go_wp2_with fail
        refine (unhide HI _).mono ?_
        rintro e w3 ⟨rfl, hb⟩
        have HW3 := hide (below_via (below_via (unhide HW) (below1 _ _)) hb)
        have HR5 := hide ((unhide HR4).keep hb)
        have cl := ((hb.cell (p := ⟨ab, ao + k, none⟩) (by simp; have := lt_of_cell (unhide HCl); omega)).trans (cell_old (unhide HCl) _))
        have g0 := (unhide HR5).c0
        have g1 := (unhide HR5).c1
        have g2 := (unhide HR5).c2
        have g3 := (unhide HR5).c3
        clear hb d0 d1 d2 d3
        go_wp2_with fail
        go_quiet (fail)
        go_wp2_with fail
        go_roundw
        case rel => exact ⟨k + 1, by omega, by go_num, by rw [unhide HX], hide (below_drewN (unhide HW3) _)⟩
        case measure => simp [intOf]; omega
      · have e5 : decide ((k : Int) < (l0 : Int) - 1) = true := decide_eq_true (by omega)
        have HI3 := hide (unhide HI2 hla)
        clear HI2 hla HI
        go_wp2_with fail
        refine (unhide HI3 _).mono ?_
        rintro e w3 ⟨rfl, hb⟩
        have HW3 := hide (below_via (below_via (unhide HW) (below1 _ _)) hb)
        have HR5 := hide ((unhide HR4).keep hb)
        have cl := ((hb.cell (p := ⟨ab, ao + k, none⟩) (by simp; have := lt_of_cell (unhide HCl); omega)).trans (cell_old (unhide HCl) _))
        have g0 := (unhide HR5).c0
        have g1 := (unhide HR5).c1
        have g2 := (unhide HR5).c2
        have g3 := (unhide HR5).c3
        clear hb d0 d1 d2 d3
        go_wp2_with fail
        go_quiet (fail)
        go_wp2_with fail
        go_roundw
        case rel => exact ⟨k + 1, by omega, by go_num, by rw [unhide HX], hide (below_drewN (unhide HW3) _)⟩
        case measure => simp [intOf]; omega
    · have ek : k = l0 := by omega
      subst ek
      rw [unhide HSt]
      have HSu := hide (sums_any (unhide HUk) (by rw [rowsUp_len]; omega) (unhide HT))
      unfold SumsA at HSu
      have HB2 := hide (below_via (unhide HB) (unhide HW))
      have e2 : ((k : Int) == (k : Int)) = true := by simp
      obtain ⟨S, hS⟩ : ∃ x, T2 (rowsUp o r l k) = x := ⟨_, rfl⟩
      rw [hS] at HSu hS0 hS1
      have e3 : (S - o == S - o) = true := by simp
      clear hS
      go_wp2_with fail
      refine (unhide HSu).mono ?_
      rintro e w3 ⟨rfl, hb⟩
      replace HB2 := hide (below_via (unhide HB2) hb)
      clear hb
      go_wp2_with fail
      go_ret
      exact ⟨rfl, unhide HB2⟩
theorem walk (o : Int) (a0 : Option Addr) (l0 c0 : Nat) (l : List Int) (r : Int) (w : World) (_wo : (Lit.int .i64 o).wf = true) (hR : Row w (.slice a0 l0 c0) l) (_hc : l0 ≤ c0) (_wr : (Lit.int .i64 r).wf = true) : Calls Try.prog 5 #[.int .i64 o, .slice a0 l0 c0, .int .i64 r] w fun e w' => e = .returned (.bool true) ∧ Below w.heap.size w w' := by
  have hl := row_len hR
  by_cases h1 : 200 < l0
  · exact s_long o a0 l0 c0 r (decide_eq_true (by omega)) (hide alive_any) w
  · have d1 : decide ((200 : Int) < (l0 : Int)) = false := decide_eq_false (by omega)
    obtain ⟨rows, e, hr⟩ := res_ex o l r
    by_cases he : e = 0
    · subst he
      obtain ⟨hk, _, ho⟩ := hr.fine
      obtain ⟨b, off, cap, hv⟩ := row_open' hR hk.n0
      cases hv
      exact s_ok o b off _ c0 l r d1 (hide alive_any) w rfl (hide hR) hk ho
    · obtain rfl := hr.none he
      exact s_err o a0 l0 c0 l r e d1 (hide alive_any) w (hide hR) he hr
theorem own : ownKnob Try.prog.godebug = none := by kernel_rfl
theorem laidOut : laidOutB Try.prog = true := by kernel_rfl
set_option linter.unusedVariables false in
set_option maxRecDepth 100000 in
theorem lifted (os : Os) (started : os.Started) (H : Type) (enc : TypeId × Value → H) :
    ReturnsInHanded {} Try.checked os 5 .any (Rows.tableEndsSpec.pre6 enc Try.prog Try.f5 Rows.tableEndsRow.domain false) (Rows.tableEndsSpec.post enc Try.prog Try.f5 false true false false) := by
  refine returnsInHanded_of_change (C := Try.checked) own started (by kernel_rfl) Try.func5
    (ChangeSpec.witness6 (enc := enc) (C := Try.checked) false ⟨#[], #[.int .i64 0, .slice none 0 0, .int .i64 0], []⟩ 8 (by kernel_rfl) (by kernel_rfl) (by kernel_rfl) (by kernel_rfl)) ?_
  intro W base args ds gs before hval0 hW hcnd _
  have hval : ∀ (j : Nat) t v, Try.f5.params[j]? = some t → args[j]? = some v → Value.okWide Try.prog W .any base t v := hval0
  have hW' := hW
  obtain ⟨p, q, hA0, hV, rfl, hfz, hnd⟩ := hW
  have hA : DataW.TrodAll enc Try.prog W 0 (fun _ => true) true Try.f5.params.toList args.toList ds p := hA0
  rw [Try.params5] at hA hval
  obtain ⟨v0, vs0, d0, ds0, p0, q0, hargs, rfl, rfl, h0, r0⟩ := trodAll_cons hA
  obtain ⟨v1, vs1, d1, ds1, p1, q1, rfl, rfl, rfl, h1, r1⟩ := trodAll_cons r0
  obtain ⟨v2, vs2, d2, ds2, p2, q2, rfl, rfl, rfl, h2, r2⟩ := trodAll_cons r1
  obtain ⟨rfl, rfl, rfl⟩ := trodAll_nil r2
  obtain rfl : args = #[v0, v1, v2] := by cases args; simp_all
  obtain ⟨rfl, rfl⟩ := trodVars_none hV
  obtain ⟨a0, rfl, rfl, rfl, w0⟩ := open_int Try.underlying2 (hval 0 2 v0 rfl rfl) h0
  obtain ⟨a1, len1, cap1, rfl⟩ := okWide_slice Try.underlying22 (hval 1 22 v1 rfl rfl)
  have k1 := h1
  have lt1 : ∀ x ∈ p1, x.block < W.heap.size := by obtain ⟨m, hm⟩ := k1; exact DataW.trod_lt m _ _ _ hm
  obtain ⟨z1, w1, cc1⟩ : ∃ zs : List Int, Row W (.slice a1 len1 cap1) zs ∧ len1 ≤ cap1 := by
    obtain ⟨fuel, hf⟩ := h1
    rcases open_ints Try.underlying22 Try.underlying2 (by kernel_rfl) hf with ⟨hcs, _⟩ | ⟨x, l, c, zs, hcs, _, hl, hm, hz, _, hcell, hwz⟩
    · simp [Value.cells] at hcs
      obtain ⟨rfl, rfl, rfl⟩ := hcs
      exact ⟨[], .inl ⟨_, _, rfl, rfl⟩, Nat.le_refl _⟩
    · simp [Value.cells] at hcs
      obtain ⟨rfl, rfl, rfl⟩ := hcs
      obtain ⟨ys, hy⟩ := row_open hl hm (by simpa using hz) hcell hwz
      exact ⟨ys, hy, hl⟩
  obtain ⟨a2, rfl, rfl, rfl, w2⟩ := open_int Try.underlying2 (hval 2 2 v2 rfl rfl) h2
  clear hA0 hval0
  refine (walk a0 a1 len1 cap1 z1 a2 W w0 w1 cc1 w2).mono fun e W' ⟨he, bel⟩ => ?_
  subst he
  exact ⟨_, rfl, _, _, _, [], _, [], hW', trodAll_mk1 (shut_bool Try.underlying4 _), (trodAll_cons_mk (shut_int Try.underlying2 w0) (trodAll_cons_mk (Below.trod laidOut (by kernel_rfl) (of_decide_eq_true (by kernel_rfl)) k1 bel lt1) (trodAll_cons_mk (shut_int Try.underlying2 w2) trodAll_mk0))), rfl, bel.frame _, fun h => by cases h⟩
theorem over : Rows.tableEndsRow.holds Try.pinned (OpenSpec.ofChange Rows.tableEndsSpec) :=
  OpenClaim.holds_of_wide 5 Try.f5 rfl rfl rfl rfl rfl rfl rfl ⟨rfl, rfl, rfl, rfl, rfl⟩ rfl rfl rfl rfl rfl (by kernel_rfl) Try.func5 (by kernel_rfl)
    (of_decide_eq_true (by kernel_rfl)) (by unfold Func.isWrapper; first | (rw [if_pos (by decide +kernel)]; kernel_rfl) | (rw [if_neg (by decide +kernel)]; exact ⟨rfl, rfl⟩))
    (fun os started H enc _ => lifted os started H enc)
/-- The statement. -/
theorem proved : Rows.TableEndsSaid := over
#print axioms proved
end Go.Proofs.Ytmepmmhhiphfiaa.Mn.tableEnds
namespace Go.Proofs.Ytmepmmhhiphfiaa
theorem tableEnds_holds : Rows.TableEndsSaid := Mn.tableEnds.proved
end Go.Proofs.Ytmepmmhhiphfiaa
