/- Proved here: MoneyScales: at any amount, any row of weights and any factor from 1 to 256: weights so many times as great part an amount the same way (or may not be); an amount's negative is parted into the negatives. No condition. -/
import Derived.Test.YtcimppdeajhfmaaTwo
import Derived.Deep.RegionHeld3
namespace Go.Proofs.Ytcimppdeajhfmaa.moneyScales
open Go.ChangeShapes Go.WideShapes Go.ChangeAt Go.RowKit
set_option maxHeartbeats 1000000 in
theorem walk_long (n : Int) (a : Option Addr) (len cap : Nat) (c : Int) (h : 200 < len) (w : World) :
    Calls Try.prog 8 #[.int .i64 n, .slice a len cap, .int .u8 c] w fun e w' => e = .returned (.bool true) ∧ Below w.heap.size w w' := by
  have h2 : (200 : Int) < (len : Int) := by omega
  clear h
  go_enter Try.func8, Try.ntmps8
  go_wp2_with fail
  refine (alive_any _).mono ?_
  rintro e w1 ⟨rfl, hbel⟩
  have HB := hide hbel
  clear hbel
  go_wp2_with fail
  go_ret
  exact ⟨rfl, unhide HB⟩
set_option maxHeartbeats 1000000 in
theorem walk_no (n : Int) (a : Option Addr) (cap : Nat) (ws : List Int) (c : Int) (w : World) (hlen : ws.length ≤ 200) (h : Row w (.slice a ws.length cap) ws) (hno : (weighB ws && may n) = false) :
    Calls Try.prog 8 #[.int .i64 n, .slice a ws.length cap, .int .u8 c] w fun e w' => e = .returned (.bool true) ∧ Below w.heap.size w w' := by
  have H := hide h
  have Hno := hide hno
  clear h hno
  have h2 : ((ws.length : Nat) : Int) ≤ 200 := by omega
  generalize hl : ws.length = len at *
  clear hlen hl
  go_enter Try.func8, Try.ntmps8
  go_wp2_with fail
  refine (alive_any _).mono ?_
  rintro e w1 ⟨rfl, hbel⟩
  have HB := hide hbel
  clear hbel
  go_wp2_with fail
  refine (split_no n _ ws _ ((unhide H).below (unhide HB) (Nat.le_refl _)) (unhide Hno)).mono ?_
  rintro e w' ⟨rfl, rfl⟩
  go_wp2_with fail
  go_ret
  exact ⟨rfl, unhide HB⟩
theorem wrap_i64 {n : Int} (h1 : -9223372036854775808 ≤ n) (h2 : n ≤ 9223372036854775807) : IntKind.i64.wrap n = n := by
  simp only [IntKind.wrap, IntKind.bits, IntKind.signed]
  simp
  omega
theorem take_times (ws : List Int) (c : Int) (k : Nat) (h : k < ws.length) : times c (ws.take k) ++ [ws.getD k 0 * c] = times c (ws.take (k + 1)) := by
  unfold times
  rw [List.take_succ_eq_append_getElem h, List.map_append]
  simp [List.getD, h]
def negs (n : Int) (ws : List Int) (k : Nat) : List Int := (List.range k).map fun j => -part n ws j
theorem negs_succ (n : Int) (ws : List Int) (k : Nat) : negs n ws k ++ [-part n ws k] = negs n ws (k + 1) := by
  unfold negs
  rw [List.range_succ, List.map_append]
  rfl
theorem negs_all (n : Int) (ws : List Int) : partL (-n) ws = negs n ws ws.length := by
  unfold partL negs
  exact List.map_congr_left (fun j _ => part_neg n ws j)
set_option maxHeartbeats 4000000 in
theorem walk_yes (n : Int) (b off cap : Nat) (ws : List Int) (f : Nat) (w : World) (hf : f ≤ 255) (hlen : ws.length ≤ 200) (hg : good ws = true) (ht : total ws ≠ 0) (hn : may n = true)
    (hc : ∀ j, j < ws.length → w.cell? ⟨b, off + j, none⟩ = some (.int .i64 (ws.getD j 0))) (hrow : Row w (.slice (some ⟨b, off, none⟩) ws.length cap) ws) :
    Calls Try.prog 8 #[.int .i64 n, .slice (some ⟨b, off, none⟩) ws.length cap, .int .u8 f] w fun e w' => e = .returned (.bool true) ∧ Below w.heap.size w w' := by
  have h1 := (good_len hg).1
  have hb : b < w.heap.size := lt_of_cell (hc 0 (by omega))
  have hnb := may_bd hn
  have HC := hide hc
  have HR := hide hrow
  have Hsplit : Hid (∀ w1 : World, Below w.heap.size w w1 → Calls Try.prog 23 #[.int .i64 n, .slice (some ⟨b, off, none⟩) ws.length cap] w1 fun e w' => e = .returned (.tuple #[.slice (some ⟨w1.heap.size, 0, none⟩) ws.length ws.length, .int .i64 0]) ∧ Own w1 w' w1.heap.size ws.length (part n ws)) :=
    hide (fun w1 hb1 => split_row n b off cap ws w1 hg ht hn (fun j hj => (hb1.cell (p := ⟨b, off + j, none⟩) hb).trans (hc j hj)) (hrow.below hb1 (Nat.le_refl _)) (fun j _ => div_ok hg ht hn j))
  have hn' : may (-n) = true := by have := may_bd hn; simp [may]; omega
  have Hsplit2 : Hid (∀ w1 : World, Below w.heap.size w w1 → Calls Try.prog 23 #[.int .i64 (-n), .slice (some ⟨b, off, none⟩) ws.length cap] w1 fun e w' => ∃ u, e = .returned (.tuple #[u, .int .i64 0]) ∧ Row w' u (negs n ws ws.length) ∧ Below w1.heap.size w1 w') :=
    hide (fun w1 hb1 => by
      have := split_yes (-n) _ ws w1 (hrow.below hb1 (Nat.le_refl _)) hg ht hn' (fun j _ => div_ok hg ht hn' j)
      rw [negs_all] at this
      exact this)
  have Hsplit3 : Hid (∀ (w1 : World) (v : Value), Row w1 v (times ((f : Int) + 1) ws) → Calls Try.prog 23 #[.int .i64 n, v] w1 fun e w' => (e = .returned (.tuple #[.slice none 0 0, .int .i64 2]) ∧ w1 = w') ∨ ∃ u, e = .returned (.tuple #[u, .int .i64 0]) ∧ Row w' u (partL n ws) ∧ Below w1.heap.size w1 w') :=
    hide (fun w1 v hv => by
      cases hok : (weighB (times ((f : Int) + 1) ws) && may n) with
      | false => exact (split_no n v _ w1 hv hok).mono fun e w' h => Or.inl h
      | true =>
        have h1 : weighB (times ((f : Int) + 1) ws) = true ∧ may n = true := by simpa using hok
        have hg2 : good (times ((f : Int) + 1) ws) = true := by
          cases hg2 : good (times ((f : Int) + 1) ws) with
          | true => rfl
          | false => rw [weighB_no hg2] at h1; exact absurd h1.1 (by decide)
        have ht2 : total (times ((f : Int) + 1) ws) ≠ 0 := by
          have := h1.1
          rw [weighB_yes hg2] at this
          simpa using this
        have := split_yes n v _ w1 hv hg2 ht2 hn (fun j _ => div_ok hg2 ht2 hn j)
        rw [times_partL (by omega)] at this
        exact this.mono fun e w' h => Or.inr h)
  have Hbd := hide (part_bd hg hn)
  have Hwb := hide (good_at hg)
  have Hl : Hid (∀ (w1 w2 : World) (P : Nat), Own w1 w2 P ws.length (part n ws) → Row w2 (.slice (some ⟨P, 0, none⟩) ws.length ws.length) (partL n ws)) := hide (fun w1 w2 P ho => ho.asRow (by unfold maxLen; omega) (part_in64 hg hn))
  have Htimes := hide (fun k h => take_times ws ((f : Int) + 1) k h)
  have Htake : Hid (times ((f : Int) + 1) (ws.take ws.length) = times ((f : Int) + 1) ws) := hide (by rw [List.take_length])
  have Htl : Hid ((times ((f : Int) + 1) ws).length ≤ 200) := hide (by rw [times_len]; exact hlen)
  have hlen2 : decide ((200 : Int) < ((ws.length : Nat) : Int)) = false := by simp; omega
  have Hlens : Hid (∀ k, (times ((f : Int) + 1) (ws.take k)).length ≤ 200 ∧ (negs n ws k).length = k) := hide (fun k => ⟨by rw [times_len, List.length_take]; omega, by simp [negs]⟩)
  clear hg ht hn hn' hc hrow
  generalize ws.length = len at *
  go_enter Try.func8, Try.ntmps8
  go_wp2_with fail
  refine (alive_any _).mono ?_
  rintro e w1 ⟨rfl, hbel⟩
  have HB := hide hbel
  have hsz : w.heap.size ≤ w1.heap.size := hbel.size
  clear hbel
  go_wp2_with fail
  refine (unhide Hsplit w1 (unhide HB)).mono ?_
  rintro e w2 ⟨rfl, hown⟩
  have HO := hide hown
  clear hown
  have HL2 := hide (unhide Hl w1 w2 _ (unhide HO))
  have Hp : Hid (∀ j, j < len → w2.cell? ⟨w1.heap.size, j, none⟩ = some (.int .i64 (part n ws j))) := hide (fun j hj => (unhide HO).row.cell hj)
  have Hw : Hid (∀ j, j < len → w2.cell? ⟨b, off + j, none⟩ = some (.int .i64 (ws.getD j 0))) := hide (fun j hj =>
    ((unhide HO).below.cell (p := ⟨b, off + j, none⟩) (by show b < w1.heap.size; omega)).trans (((unhide HB).cell (p := ⟨b, off + j, none⟩) hb).trans (unhide HC j hj)))
  have HBel : Hid (Below w.heap.size w w2) := hide ((unhide HB).trans ((unhide HO).below.mono hsz))
  have hP : w1.heap.size < w2.heap.size := (unhide HO).row.lt
  have hb2 : b < w2.heap.size := by omega
  clear HO HB HC HR Hsplit Hl
  generalize w1.heap.size = P at *
  go_wp2_with fail
  go_loopw [9, 10, 32] (fun g t i wr => ∃ k : Nat, k ≤ len ∧ i = .int .i64 k ∧ Two w2 wr wr.heap.size g t (times ((f : Int) + 1) (ws.take k)) (negs n ws k)) (fun _ _ i _ => len - (intOf i).toNat)
  case atStart => exact ⟨0, by omega, rfl, Two.nil w2⟩
  case round =>
    obtain ⟨k, hk, rfl, hT⟩ := hrel
    by_cases hlt : k < len
    · have hkw := (hT.below.cell (p := ⟨b, off + k, none⟩) hb2).trans (unhide Hw k hlt)
      have hkp0 := unhide Hp k hlt
      have hkp := (hT.below.cell (p := ⟨P, k, none⟩) hP).trans hkp0
      have hpb := unhide Hbd k
      have hwb := unhide Hwb k
      have hzc : 0 ≤ ws.getD k 0 * ((f : Int) + 1) ∧ ws.getD k 0 * ((f : Int) + 1) ≤ 2560000000000000 := by
        refine ⟨Int.mul_nonneg hwb.1 (by omega), ?_⟩
        have := Int.mul_le_mul hwb.2 (show (f : Int) + 1 ≤ 256 by omega) (by omega) (by omega)
        omega
      have HTm := hide (unhide Htimes k hlt)
      have HNg := hide (negs_succ n ws k)
      have hll := unhide Hlens k
      have HT := hide hT
      clear hT
      generalize part n ws k = p at *
      generalize ws.getD k 0 = z at *
      generalize times ((f : Int) + 1) (ws.take k) = zs at *
      generalize negs n ws k = ys at *
      have hk0 : (0 : Int) ≤ (k : Int) := Int.natCast_nonneg _
      have hk1 : (k : Int) < (len : Int) := by omega
      have q1 : IntKind.i64.wrap (f : Int) = (f : Int) := wrap_i64 (by omega) (by omega)
      have q2 : IntKind.i64.wrap ((f : Int) + 1) = (f : Int) + 1 := wrap_i64 (by omega) (by omega)
      have q3 : IntKind.i64.wrap (z * ((f : Int) + 1)) = z * ((f : Int) + 1) := wrap_i64 (by omega) (by omega)
      have q4 : IntKind.i64.wrap (-p) = -p := wrap_i64 (by omega) (by omega)
      go_wp2_with fail
      go_region_held3 (fun w' => w'.cell? ⟨P, k, none⟩ = some (.int .i64 p))
        (first
          | go_keep
          | exact (hT1.below.cell (p := ⟨P, k, none⟩) hP).trans hkp0
          | exact (hT2.below.cell (p := ⟨P, k, none⟩) hP).trans hkp0)
        (first
          | (refine step_two (by rfl) (.tmp 37) (.tmp 43) (by rfl) w2 _ wr.heap.size _ _ zs ys (z * ((f : Int) + 1)) _ (by rfl) (by rfl) (by first | exact (unhide HT).drew | exact ((unhide HT).alloc _).drew | exact (((unhide HT).alloc _).alloc _).drew) (by first | exact cell_new _ _ | exact cell_new_past _ _ _ | exact cell_new_next _ _ _) (by omega) ⟨by omega, by omega⟩ ?_; intro v1 W1 hT1 hfar1)
          | (refine step_two (by rfl) (.tmp 45) (.tmp 51) (by rfl) w2 _ W1.heap.size _ _ ys _ (-p) _ (by rfl) (by rfl) (by first | exact hT1.swap | exact hT1.swap.alloc _) (by first | exact cell_new _ _ | exact (hfar1 _ _ (by omega) (by simp <;> omega)).trans (cell_new_next _ _ _) | exact (hfar1 _ _ (by omega) (by simp <;> omega)).trans (cell_new_past _ _ _)) (by omega) ⟨by omega, by omega⟩ ?_; intro v2 W2 hT2 hfar2))
      all_goals go_wp2
      all_goals go_roundw
      all_goals first
        | exact ⟨k + 1, by omega, by go_num, by have h3 := hT2.swap; rw [unhide HTm, unhide HNg] at h3; exact h3⟩
        | (simp [intOf]; omega)
    · have hk2 : k = len := by omega
      subst hk2
      rw [unhide Htake] at hT
      have HT := hide hT
      have hsz2 : w2.heap.size ≤ wr.heap.size := hT.below.size
      clear hT
      have HB3 : Hid (Below w.heap.size w wr) := hide ((unhide HBel).trans ((unhide HT).below.mono (unhide HBel).size))
      have hwsz := (unhide HBel).size
      go_wp2_with fail
      refine (unhide Hsplit2 wr (unhide HB3)).mono ?_
      rintro e w3 ⟨m, rfl, hm, hb3⟩
      have hsz3 := hb3.size
      have Hm := hide hm
      have Hb3 := hide hb3
      clear hm hb3
      go_wp2_with fail
      refine (same_yes m _ _ w3 (unhide Hm) (((unhide HT).swap.row1 (by rw [(unhide Hlens k).2]; unfold maxLen; omega)).below (unhide Hb3) (Nat.le_refl _))).mono ?_
      rintro e w4 ⟨rfl, m4, rfl⟩
      go_wp2_with fail
      refine (unhide Hsplit3 (w3.drewN m4) _ ((((unhide HT).row1 (by have := unhide Htl; unfold maxLen; omega)).below (unhide Hb3) (Nat.le_refl _)).later (fun a x hx => hx))).mono ?_
      rintro e w5 (⟨rfl, rfl⟩ | ⟨u, rfl, hu, hb5⟩)
      · go_wp2_with fail
        go_ret
        exact ⟨rfl, below_drewN ((unhide HB3).trans ((unhide Hb3).mono (by omega))) m4⟩
      · have HU := hide hu
        have Hb5 := hide hb5
        clear hu hb5
        go_wp2_with fail
        refine (same_yes u _ _ w5 (unhide HU) (((((unhide HL2).below (unhide HT).below (Nat.le_refl _)).below (unhide Hb3) (Nat.le_refl _)).later (w' := w3.drewN m4) (fun a x hx => hx)).below (unhide Hb5) (Nat.le_refl _))).mono ?_
        rintro e w6 ⟨rfl, m6, rfl⟩
        go_wp2_with fail
        go_ret
        refine ⟨rfl, below_drewN ?_ m6⟩
        exact (below_drewN ((unhide HB3).trans ((unhide Hb3).mono (by omega))) m4).trans ((unhide Hb5).mono (by show w.heap.size ≤ w3.heap.size; omega))
theorem walk (n : Int) (v : Value) (ws : List Int) (c : Int) (w : World) (_wn : (Lit.int .i64 n).wf = true) (h : Row w v ws) (wc : (Lit.int .u8 c).wf = true) :
    Calls Try.prog 8 #[.int .i64 n, v, .int .u8 c] w fun e w' => e = .returned (.bool true) ∧ Below w.heap.size w w' := by
  by_cases hlen : ws.length ≤ 200
  · cases hok : (weighB ws && may n) with
    | false =>
      obtain ⟨a, cap, rfl⟩ := row_slice h
      exact walk_no n a cap ws c w hlen h hok
    | true =>
      have h1 : weighB ws = true ∧ may n = true := by simpa using hok
      have hg : good ws = true := by
        cases hg : good ws with
        | true => rfl
        | false => rw [weighB_no hg] at h1; exact absurd h1.1 (by decide)
      have ht : total ws ≠ 0 := by
        have := h1.1
        rw [weighB_yes hg] at this
        simpa using this
      have hc : 0 ≤ c ∧ c ≤ 255 := by
        simp only [Lit.wf, IntKind.min, IntKind.max, IntKind.signed, IntKind.bits, Bool.and_eq_true] at wc
        simpa using wc
      obtain ⟨f, rfl⟩ := Int.eq_ofNat_of_zero_le hc.1
      rcases h with ⟨a, cap, rfl, rfl⟩ | ⟨b, off, cap, rfl, h0, hm, hc2, hin⟩
      · exact absurd rfl ht
      · exact walk_yes n b off cap ws f w (by omega) hlen hg ht h1.2 hc2 (Or.inr ⟨b, off, cap, rfl, h0, hm, hc2, hin⟩)
  · obtain ⟨a, cap, rfl⟩ := row_slice h
    exact walk_long n a ws.length cap c (by omega) w
theorem own : ownKnob Try.prog.godebug = none := by kernel_rfl
theorem laidOut : laidOutB Try.prog = true := by kernel_rfl
set_option linter.unusedVariables false in
set_option maxRecDepth 100000 in
theorem lifted (os : Os) (started : os.Started) (H : Type) (enc : TypeId × Value → H) :
    ReturnsInHanded {} Try.checked os 8 .any (Rows.moneyScalesSpec.pre6 enc Try.prog Try.f8 Rows.moneyScalesRow.domain false) (Rows.moneyScalesSpec.post enc Try.prog Try.f8 false true false false) := by
  refine returnsInHanded_of_change (C := Try.checked) own started (by kernel_rfl) Try.func8
    (ChangeSpec.witness6 (enc := enc) (C := Try.checked) false ⟨#[], #[.int .i64 0, .slice none 0 0, .int .u8 0], []⟩ 8 (by kernel_rfl) (by kernel_rfl) (by kernel_rfl) (by kernel_rfl)) ?_
  intro W base args ds gs before hval0 hW hcnd _
  have hval : ∀ (j : Nat) t v, Try.f8.params[j]? = some t → args[j]? = some v → Value.okWide Try.prog W .any base t v := hval0
  have hW' := hW
  obtain ⟨p, q, hA0, hV, rfl, hfz, hnd⟩ := hW
  have hA : DataW.TrodAll enc Try.prog W 0 (fun _ => true) true Try.f8.params.toList args.toList ds p := hA0
  rw [Try.params8] at hA hval
  obtain ⟨v0, vs0, d0, ds0, p0, q0, hargs, rfl, rfl, h0, r0⟩ := trodAll_cons hA
  obtain ⟨v1, vs1, d1, ds1, p1, q1, rfl, rfl, rfl, h1, r1⟩ := trodAll_cons r0
  obtain ⟨v2, vs2, d2, ds2, p2, q2, rfl, rfl, rfl, h2, r2⟩ := trodAll_cons r1
  obtain ⟨rfl, rfl, rfl⟩ := trodAll_nil r2
  obtain rfl : args = #[v0, v1, v2] := by cases args; simp_all
  obtain ⟨rfl, rfl⟩ := trodVars_none hV
  obtain ⟨a0, rfl, rfl, rfl, w0⟩ := open_int Try.underlying2 (hval 0 2 v0 rfl rfl) h0
  obtain ⟨a1, len1, cap1, rfl⟩ := okWide_slice Try.underlying29 (hval 1 29 v1 rfl rfl)
  have k1 := h1
  have lt1 : ∀ x ∈ p1, x.block < W.heap.size := by obtain ⟨m, hm⟩ := k1; exact DataW.trod_lt m _ _ _ hm
  obtain ⟨z1, w1⟩ : ∃ zs : List Int, Row W (.slice a1 len1 cap1) zs := by
    obtain ⟨fuel, hf⟩ := h1
    rcases open_ints Try.underlying29 Try.underlying2 (by kernel_rfl) hf with ⟨hcs, _⟩ | ⟨x, l, c, zs, hcs, _, hl, hm, hz, _, hcell, hwz⟩
    · simp [Value.cells] at hcs
      obtain ⟨rfl, rfl, rfl⟩ := hcs
      exact ⟨[], .inl ⟨_, _, rfl, rfl⟩⟩
    · simp [Value.cells] at hcs
      obtain ⟨rfl, rfl, rfl⟩ := hcs
      exact row_open hl hm (by simpa using hz) hcell hwz
  obtain ⟨a2, rfl, rfl, rfl, w2⟩ := open_int Try.underlying5 (hval 2 5 v2 rfl rfl) h2
  clear hA0 hval0
  refine (walk a0 _ z1 a2 W w0 w1 w2).mono fun e W' ⟨he, bel⟩ => ?_
  subst he
  exact ⟨_, rfl, _, _, _, [], _, [], hW', trodAll_mk1 (shut_bool Try.underlying4 _), (trodAll_cons_mk (shut_int Try.underlying2 w0) (trodAll_cons_mk (Below.trod laidOut (by kernel_rfl) (of_decide_eq_true (by kernel_rfl)) k1 bel lt1) (trodAll_cons_mk (shut_int Try.underlying5 w2) trodAll_mk0))), rfl, bel.frame _, fun h => by cases h⟩
theorem over : Rows.moneyScalesRow.holds Try.pinned (OpenSpec.ofChange Rows.moneyScalesSpec) :=
  OpenClaim.holds_of_wide 8 Try.f8 rfl rfl rfl rfl rfl rfl rfl ⟨rfl, rfl, rfl, rfl, rfl⟩ rfl rfl rfl rfl rfl (by kernel_rfl) Try.func8 (by kernel_rfl)
    (of_decide_eq_true (by kernel_rfl)) (by unfold Func.isWrapper; first | (rw [if_pos (by decide +kernel)]; kernel_rfl) | (rw [if_neg (by decide +kernel)]; exact ⟨rfl, rfl⟩))
    (fun os started H enc _ => lifted os started H enc)
/-- The statement. -/
theorem proved : Rows.MoneyScalesSaid := over
#print axioms proved
end Go.Proofs.Ytcimppdeajhfmaa.moneyScales
namespace Go.Proofs.Ytcimppdeajhfmaa
theorem moneyScales_holds : Rows.MoneyScalesSaid := moneyScales.proved
end Go.Proofs.Ytcimppdeajhfmaa
