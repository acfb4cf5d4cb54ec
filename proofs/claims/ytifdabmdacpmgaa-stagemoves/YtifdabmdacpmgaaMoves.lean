/- Proved here: StageMoves: a stage is never better than its mark tells, unless it was so; better by one behind three better marks in a row; worse at once. No condition. -/
import Derived.Test.YtifdabmdacpmgaaOp
namespace Go.Proofs.Ytifdabmdacpmgaa.stageMoves
open Go.ChangeShapes Go.WideShapes Go.ChangeAt Go.RowKit
set_option linter.unusedVariables false
set_option linter.unusedSimpArgs false
theorem ok_step {ms : List Mk} {k : Nat} (h : ert ms k = 0) : okS (stt ms k).1 (stt ms k).2 ∧ okM (mkA ms k).1 (mkA ms k).2.1 ∧ stt ms (k + 1) = (if (stt ms k).1 ≤ wst (mkA ms k).1 (mkA ms k).2.1 (mkA ms k).2.2 then (wst (mkA ms k).1 (mkA ms k).2.1 (mkA ms k).2.2, 0) else if (stt ms k).2 = 2 then ((stt ms k).1 - 1, 0) else ((stt ms k).1, (stt ms k).2 + 1)) := by
  unfold ert nxt at h
  split at h
  · next c =>
    refine ⟨c.1, c.2, ?_⟩
    show ((nxt _ _ _ _ _).1, (nxt _ _ _ _ _).2.1) = _
    unfold nxt
    rw [if_pos c]
    split
    · rfl
    · split <;> rfl
  · exact absurd h (by decide)
structure MV (w wr : World) (a : Option Addr) (n c : Nat) (ms : List Mk) (va : Option Addr) (vc : Nat) : Prop where
  bel : Below w.heap.size w wr
  row : RowG 3 wr (.slice a n c) (ms.map mkL)
  all : Row wr (.slice va n vc) (stg ms n)
theorem MV.keep {w wr w2 : World} {a : Option Addr} {n c : Nat} {ms : List Mk} {va : Option Addr} {vc : Nat} (h : MV w wr a n c ms va vc) (hb : Below wr.heap.size wr w2) : MV w w2 a n c ms va vc := ⟨below_via h.bel hb, h.row.keep hb, h.all.below hb (Nat.le_refl _)⟩
theorem stg_at {ms : List Mk} {n k : Nat} (h : k < n) : (stg ms n).getD k 0 = (stt ms (k + 1)).1 := by simp [stg, List.getD, h]
theorem MV.at {w wr : World} {a : Option Addr} {n c : Nat} {ms : List Mk} {va : Option Addr} {vc : Nat} (h : MV w wr a n c ms va vc) (hn : n = ms.length) {k : Nat} (hk : k < n) : ∃ b off b' off', a = some ⟨b, off, none⟩ ∧ va = some ⟨b', off', none⟩ ∧ (wr.cell? ⟨b, off + k * 3, none⟩ = some (.int .i64 (mkA ms k).1) ∧ wr.cell? ⟨b, off + k * 3 + 1, none⟩ = some (.int .i64 (mkA ms k).2.1) ∧ wr.cell? ⟨b, off + k * 3 + 2, none⟩ = some (.bool (mkA ms k).2.2)) ∧ wr.cell? ⟨b', off' + k, none⟩ = some (.int .i64 (stt ms (k + 1)).1) := by
  have hR := h.row
  obtain ⟨b, off, cap, e, _, _⟩ := hR.open (by rw [List.length_map]; omega)
  injection e with e1 e2 e3
  subst e1 e3
  rcases h.all with ⟨x, y, e, h0⟩ | ⟨b', off', y, e, _, _, h4, _⟩
  · have := congrArg List.length h0
    rw [stg_len] at this
    simp at this
    omega
  · injection e with e1 e2 e3
    subst e1 e3
    refine ⟨b, off, b', off', rfl, rfl, hR.mark (by omega), ?_⟩
    rw [h4 k (by rw [stg_len]; omega), stg_at hk]
theorem s_long (a : Option Addr) (n c : Nat) (d1 : decide ((300 : Int) < (n : Int)) = true) (hal : Hid Alive) (w : World) : Calls Try.prog 5 #[.slice a n c] w fun e w' => e = .returned (.bool true) ∧ Below w.heap.size w w' := by
  go_enter Try.func5, Try.ntmps5
  go_wp2_with fail
  refine (unhide hal _).mono ?_
  rintro e w1 ⟨rfl, hb⟩
  replace hb := hide hb
  go_wp2_with fail
  go_ret
  exact ⟨rfl, unhide hb⟩
theorem s_no (a : Option Addr) (n c : Nat) (ms : List Mk) (d1 : decide ((300 : Int) < (n : Int)) = false) (hm : Hid (ms.length ≤ 1000)) (hal : Hid Alive) (HO : Hid (RunR ms [] 2)) (w : World) (hR : Hid (RowG 3 w (.slice a n c) (ms.map mkL))) : Calls Try.prog 5 #[.slice a n c] w fun e w' => e = .returned (.bool true) ∧ Below w.heap.size w w' := by
  go_enter Try.func5, Try.ntmps5
  go_wp2_with fail
  refine (unhide hal _).mono ?_
  rintro e w1 ⟨rfl, hb⟩
  have HB := hide hb
  replace hR := hide ((unhide hR).keep hb)
  have HT := hide (to_any _ _ _ (unhide hR) (unhide hm))
  clear hb
  go_wp2_with fail
  refine (unhide HT).mono ?_
  rintro e w2 ⟨u, rfl, hg⟩
  replace HB := hide (below_via (unhide HB) hg.below)
  replace hR := hide ((unhide hR).keep hg.below)
  have HQ := hide (run_any _ _ _ hg.row)
  clear hg HT
  go_wp2_with fail
  refine (unhide HQ).mono ?_
  rintro e w3 ⟨v, zs, e1, rfl, hb, hr, ho⟩
  obtain ⟨rfl, rfl⟩ := ho.only (unhide HO)
  replace HB := hide (below_via (unhide HB) hb)
  replace hR := hide ((unhide hR).keep hb)
  have HV := hide hr
  obtain ⟨va, vc, rfl⟩ := row_slice hr
  clear hb hr ho HQ HO
  go_wp2_with fail
  go_ret
  exact ⟨rfl, unhide HB⟩
set_option maxRecDepth 20000 in
set_option maxHeartbeats 2000000 in
theorem s_ok (a : Option Addr) (n c : Nat) (ms : List Mk) (d1 : decide ((300 : Int) < (n : Int)) = false) (hm : Hid (ms.length ≤ 1000)) (hn : n = ms.length) (n3 : n ≤ 300) (hal : Hid Alive) (HF : Hid (fine ms n)) (HO : Hid (RunR ms (stg ms n) 0)) (w : World) (hR : Hid (RowG 3 w (.slice a n c) (ms.map mkL))) : Calls Try.prog 5 #[.slice a n c] w fun e w' => e = .returned (.bool true) ∧ Below w.heap.size w w' := by
  replace hn := hide hn
  go_enter Try.func5, Try.ntmps5
  go_wp2_with fail
  refine (unhide hal _).mono ?_
  rintro e w1 ⟨rfl, hb⟩
  have HB := hide hb
  replace hR := hide ((unhide hR).keep hb)
  have HT := hide (to_any _ _ _ (unhide hR) (unhide hm))
  clear hb
  go_wp2_with fail
  refine (unhide HT).mono ?_
  rintro e w2 ⟨u, rfl, hg⟩
  replace HB := hide (below_via (unhide HB) hg.below)
  replace hR := hide ((unhide hR).keep hg.below)
  have HQ := hide (run_any _ _ _ hg.row)
  clear hg HT
  go_wp2_with fail
  refine (unhide HQ).mono ?_
  rintro e w3 ⟨v, zs, e1, rfl, hb, hr, ho⟩
  obtain ⟨rfl, rfl⟩ := ho.only (unhide HO)
  replace HB := hide (below_via (unhide HB) hb)
  replace hR := hide ((unhide hR).keep hb)
  have HV := hide hr
  obtain ⟨va, vc, rfl⟩ := row_slice hr
  clear hb hr ho HQ HO
  replace HV : Hid (Row w3 (.slice va n vc) (stg ms n)) := hide (by have := unhide HV; rw [stg_len] at this; exact this)
  rw [stg_len]
  have A : Hid (MV w w3 a n c ms va vc) := hide ⟨unhide HB, unhide hR, unhide HV⟩
  clear HB hR HV
  replace hn := unhide hn
  have t0 : ((n : Int) == (n : Int)) = true := by simp
  replace hn := hide hn
  go_wp2_with fail
  go_loopw [5, 6, 29] (fun l bt i wr => ∃ k : Nat, k ≤ n ∧ i = .int .i64 k ∧ l = .int .i64 (stt ms k).1 ∧ bt = .int .i64 (stt ms k).2 ∧ Hid (MV w wr a n c ms va vc)) (fun _ _ i _ => n - (intOf i).toNat)
  case atStart => exact ⟨0, by omega, rfl, rfl, rfl, A⟩
  case round =>
    clear A
    obtain ⟨k, hk, rfl, rfl, rfl, A⟩ := hrel
    by_cases hlt : k < n
    · replace hn := unhide hn
      have hE := unhide HF k hlt
      obtain ⟨hS, hM, hN⟩ := ok_step hE
      obtain ⟨b, off, b', off', rfl, rfl, ⟨m0, m1, m2⟩, s0⟩ := (unhide A).at hn hlt
      have HW := hide (worst_any (mkA ms k).1 (mkA ms k).2.1 (mkA ms k).2.2)
      have hw := wst_bd (mkA ms k).1 (mkA ms k).2.1 (mkA ms k).2.2
      obtain ⟨h1, h2, h3, h4, _⟩ := hS
      have k1 : (k : Int) < (n : Int) := by omega
      generalize wst (mkA ms k).1 (mkA ms k).2.1 (mkA ms k).2.2 = ww at *
      generalize (mkA ms k).1 = p at *
      generalize (mkA ms k).2.1 = d at *
      generalize (mkA ms k).2.2 = b0 at *
      generalize (stt ms k).1 = s at *
      generalize (stt ms k).2 = g at *
      clear hE hM
      replace hn := hide hn
      by_cases q : s ≤ ww
      · rw [if_pos q] at hN
        rw [hN] at s0
        dsimp only at s0
        have HN := hide hN
        clear hN
        have t1 : decide (ww < s) = false := decide_eq_false (by omega)
        have t3 : (ww != ww) = false := by simp
        have t4 : decide (ww < ww) = false := by simp
        by_cases q2 : s < ww
        · go_wp2_with fail
          refine (unhide HW _).mono ?_
          rintro e w4 ⟨rfl, hb⟩
          replace A := hide ((unhide A).keep hb)
          clear hb m0 m1 m2 s0
          go_wp2_with fail
          go_roundw
          case rel => exact ⟨k + 1, by omega, by go_num, by rw [unhide HN], by rw [unhide HN], A⟩
          case measure => simp [intOf]; omega
        · obtain rfl : s = ww := by omega
          go_wp2_with fail
          refine (unhide HW _).mono ?_
          rintro e w4 ⟨rfl, hb⟩
          replace A := hide ((unhide A).keep hb)
          clear hb m0 m1 m2 s0
          go_wp2_with fail
          go_roundw
          case rel => exact ⟨k + 1, by omega, by go_num, by rw [unhide HN], by rw [unhide HN], A⟩
          case measure => simp [intOf]; omega
      · rw [if_neg q] at hN
        have t1 : decide (ww < s) = true := decide_eq_true (by omega)
        have q2 : ¬ s < ww := by omega
        by_cases q3 : g = 2
        · rw [if_pos q3] at hN
          rw [hN] at s0
          dsimp only at s0
          have HN := hide hN
          clear hN
          subst q3
          have t3 : (s - 1 != s - 1) = false := by simp
          have t4 : decide (s - 1 < ww) = false := decide_eq_false (by omega)
          go_wp2_with fail
          refine (unhide HW _).mono ?_
          rintro e w4 ⟨rfl, hb⟩
          replace A := hide ((unhide A).keep hb)
          clear hb m0 m1 m2 s0
          go_wp2_with fail
          go_roundw
          case rel => exact ⟨k + 1, by omega, by go_num, by rw [unhide HN], by rw [unhide HN], A⟩
          case measure => simp [intOf]; omega
        · rw [if_neg q3] at hN
          rw [hN] at s0
          dsimp only at s0
          have HN := hide hN
          clear hN
          have t2 : (g + 1 == 3) = false := by rw [beq_eq_false_iff_ne]; omega
          have t3 : (s != s) = false := by simp
          have t4 : decide (s < ww) = false := decide_eq_false (by omega)
          go_wp2_with fail
          refine (unhide HW _).mono ?_
          rintro e w4 ⟨rfl, hb⟩
          replace A := hide ((unhide A).keep hb)
          clear hb m0 m1 m2 s0
          go_wp2_with fail
          go_roundw
          case rel => exact ⟨k + 1, by omega, by go_num, by rw [unhide HN], by rw [unhide HN], A⟩
          case measure => simp [intOf]; omega
    · obtain rfl : k = n := by omega
      go_wp2_with fail
      go_ret
      exact ⟨rfl, (unhide A).bel⟩
theorem walk (a : Option Addr) (n c : Nat) (ms : List Mk) (w : World) (hR : RowG 3 w (.slice a n c) (ms.map mkL)) : Calls Try.prog 5 #[.slice a n c] w fun e w' => e = .returned (.bool true) ∧ Below w.heap.size w w' := by
  have hl := rowG_len hR
  rw [List.length_map] at hl
  by_cases h1 : 300 < n
  · exact s_long a n c (decide_eq_true (by omega)) (hide alive_any) w
  · by_cases hf : fine ms ms.length
    · exact s_ok a n c ms (decide_eq_false (by omega)) (hide (by omega)) hl (by omega) (hide alive_any) (hide (by rw [hl]; exact hf)) (hide (.inr (.inl ⟨by omega, hf, by rw [hl], rfl⟩))) w (hide hR)
    · exact s_no a n c ms (decide_eq_false (by omega)) (hide (by omega)) (hide alive_any) (hide (.inr (.inr ⟨by omega, hf, rfl, rfl⟩))) w (hide hR)
theorem own : ownKnob Try.prog.godebug = none := by kernel_rfl
theorem laidOut : laidOutB Try.prog = true := by kernel_rfl
set_option linter.unusedVariables false in
set_option maxRecDepth 100000 in
theorem lifted (os : Os) (started : os.Started) (H : Type) (enc : TypeId × Value → H) :
    ReturnsInHanded {} Try.checked os 5 .any (Rows.stageMovesSpec.pre6 enc Try.prog Try.f5 Rows.stageMovesRow.domain false) (Rows.stageMovesSpec.post enc Try.prog Try.f5 false true false false) := by
  refine returnsInHanded_of_change (C := Try.checked) own started (by kernel_rfl) Try.func5
    (ChangeSpec.witness6 (enc := enc) (C := Try.checked) false ⟨#[], #[.slice none 0 0], []⟩ 8 (by kernel_rfl) (by kernel_rfl) (by kernel_rfl) (by kernel_rfl)) ?_
  intro W base args ds gs before hval0 hW hcnd _
  have hval : ∀ (j : Nat) t v, Try.f5.params[j]? = some t → args[j]? = some v → Value.okWide Try.prog W .any base t v := hval0
  have hW' := hW
  obtain ⟨p, q, hA0, hV, rfl, hfz, hnd⟩ := hW
  have hA : DataW.TrodAll enc Try.prog W 0 (fun _ => true) true Try.f5.params.toList args.toList ds p := hA0
  rw [Try.params5] at hA hval
  obtain ⟨v0, vs0, d0, ds0, p0, q0, hargs, rfl, rfl, h0, r0⟩ := trodAll_cons hA
  obtain ⟨rfl, rfl, rfl⟩ := trodAll_nil r0
  obtain rfl : args = #[v0] := by cases args; simp_all
  obtain ⟨rfl, rfl⟩ := trodVars_none hV
  have k0 := h0
  have lt0 : ∀ x ∈ p0, x.block < W.heap.size := by obtain ⟨m, hm⟩ := k0; exact DataW.trod_lt m _ _ _ hm
  obtain ⟨a0, len0, cap0, rfl⟩ := okWide_slice Try.underlying37 (hval 0 37 v0 rfl rfl)
  obtain ⟨ms0, hr0⟩ : ∃ ms : List Mk, RowG 3 W (.slice a0 len0 cap0) (ms.map mkL) := by
    obtain ⟨fuel, hf⟩ := h0
    exact marks_open hf
  clear hA0 hval0
  refine (walk a0 len0 cap0 ms0 W hr0).mono fun e W' ⟨he, bel⟩ => ?_
  subst he
  exact ⟨_, rfl, _, _, _, [], _, [], hW', trodAll_mk1 (shut_bool Try.underlying4 _), (trodAll_cons_mk (Below.trod laidOut (by kernel_rfl) (of_decide_eq_true (by kernel_rfl)) k0 bel lt0) trodAll_mk0), rfl, bel.frame _, fun h => by cases h⟩
theorem over : Rows.stageMovesRow.holds Try.pinned (OpenSpec.ofChange Rows.stageMovesSpec) :=
  OpenClaim.holds_of_wide 5 Try.f5 rfl rfl rfl rfl rfl rfl rfl ⟨rfl, rfl, rfl, rfl, rfl⟩ rfl rfl rfl rfl rfl (by kernel_rfl) Try.func5 (by kernel_rfl)
    (of_decide_eq_true (by kernel_rfl)) (by unfold Func.isWrapper; first | (rw [if_pos (by decide +kernel)]; kernel_rfl) | (rw [if_neg (by decide +kernel)]; exact ⟨rfl, rfl⟩))
    (fun os started H enc _ => lifted os started H enc)
theorem proved : Rows.StageMovesSaid := over
end Go.Proofs.Ytifdabmdacpmgaa.stageMoves
namespace Go.Proofs.Ytifdabmdacpmgaa
theorem stageMoves_holds : Rows.StageMovesSaid := stageMoves.proved
end Go.Proofs.Ytifdabmdacpmgaa
