/- What the document's Sum answers at any row of 64-bit numbers: the same as money's. -/
import Derived.Test.YtkccladbcehdbaaMErase
import Derived.Deep.RegionHeld3
namespace Go.Proofs.Ytkccladbcehdbaa.Mn
open Go.RowKit
theorem ret_pair {k l : IntKind} {a b c d : Int} (h1 : a = b) (h2 : c = d) : Ending.returned (.tuple #[.int k a, .int l c]) = .returned (.tuple #[.int k b, .int l d]) := by rw [h1, h2]
set_option maxHeartbeats 1000000 in
theorem rsum_empty (a : Option Addr) (cap : Nat) (w : World) (hF : From w (.slice a 0 cap) []) :
    Calls Try.prog 26 #[.slice a 0 cap] w fun e w' => e = .returned (.tuple #[.int .i64 0, .int .i64 0]) ∧ Below w.heap.size w w' := by
  have HF := hide (hF.later (W' := w.alloc (.cells #[] 2)) (fun x y hx => (((Below.refl w.heap.size w).alloc (Nat.le_refl _) _).cell (World.block_lt_of_cell? w _ hx)).trans hx))
  clear hF
  go_enter Try.func26, Try.ntmps26
  go_wp2_with (at_builtin; refine list_from rfl _ _ rfl w _ _ _ [] [] (Grow.empty w w (Below.refl _ _)) (unhide HF) rfl rfl (by decide) (fun y hy => by cases hy) ?_)
  intro v W hG
  have HG := hide hG
  obtain ⟨x, c, hv⟩ : ∃ x c, v = .slice x 0 c := by
    rcases hG.owns.2 with ⟨h, _⟩ | ⟨g, c, cur, h, _⟩
    · exact ⟨none, 0, h⟩
    · exact ⟨_, c, h⟩
  clear hG
  subst hv
  go_wp2_with fail
  refine wp_loop_rounds 1 ?_
  rw [rounds_succ]
  go_wp2_with fail
  go_ret2
  exact ⟨rfl, (unhide HG).below⟩
set_option maxHeartbeats 4000000 in
theorem rsum_row (b off cap : Nat) (zs : List Int) (w : World) (h0 : 0 < zs.length) (hlen : zs.length ≤ 1000)
    (hc : ∀ j, j < zs.length → w.cell? ⟨b, off + j, none⟩ = some (.int .i64 (zs.getD j 0))) (hin : ∀ z ∈ zs, In64 z) :
    Calls Try.prog 26 #[.slice (some ⟨b, off, none⟩) zs.length cap] w fun e w' => e = .returned (.tuple #[.int .i64 (okN (total zs)), .int .i64 (okE (total zs))]) ∧ Below w.heap.size w w' := by
  have HF : Hid (From (w.alloc (.cells #[] 2)) (.slice (some ⟨b, off, none⟩) zs.length cap) zs) := hide (Or.inr ⟨⟨b, off, none⟩, cap, rfl, fun j hj => by
    rw [Addr.add_lit, World.cell?_alloc_past _ _ _ (lt_of_cell (hc j hj))]
    exact hc j hj⟩)
  have Hin := hide hin
  have Hl := hide hlen
  have H0 := hide h0
  clear hc hin
  obtain ⟨T, hT⟩ : ∃ T, T = total zs := ⟨_, rfl⟩
  rw [← hT]
  have HT := hide hT
  clear hT h0
  go_enter Try.func26, Try.ntmps26
  go_wp2_with (at_builtin; refine list_from rfl _ _ rfl w _ _ _ [] zs (Grow.empty w w (Below.refl _ _)) (unhide HF) rfl rfl (by simp; omega) (unhide Hin) ?_)
  intro v W hG
  obtain ⟨g, cp, hv, hcl⟩ := hG.cells (unhide H0)
  subst hv
  have Hcl := hide hcl
  clear hG hcl
  go_wp2_with fail
  go_loopw [4, 5] (fun o l wr => ∃ (ys : List Int) (t : Int), o = .slice (some ⟨g, 0, none⟩) ys.length cp ∧ l = .int .i64 t ∧ ys.length ≤ 1000 ∧ Hid (Cells w wr g cp ys) ∧ Hid (In64 t) ∧ Hid (t + total ys = T)) (fun o _ _ => lenOf o)
  case atStart => exact ⟨zs, 0, rfl, rfl, hlen, Hcl, hide ⟨by omega, by omega⟩, hide (by rw [unhide HT]; omega)⟩
  case round =>
    obtain ⟨ys, t, rfl, rfl, hyl, HC, Ht, HS⟩ := hrel
    clear Hcl HF
    by_cases hy0 : ys.length = 0
    · have e0 : ys = [] := List.eq_nil_of_length_eq_zero hy0
      have HTt : Hid (t = T) := hide (by have := unhide HS; rw [e0] at this; simp only [total] at this; omega)
      have hok : okN T = t ∧ okE T = 0 := by
        have h1 := turn_in (unhide Ht)
        rw [unhide HTt] at h1 ⊢
        exact ⟨okN_in h1, okE_in h1⟩
      have Hok := hide hok
      clear hok
      subst e0
      go_wp2_with fail
      go_ret2
      exact ⟨ret_pair (unhide Hok).1.symm (unhide Hok).2.symm, (unhide HC).below⟩
    · have hypos : (0 : Int) < (ys.length : Int) := by omega
      have Hcell := hide (unhide HC).cell
      have Hin2 := hide (getD_in (unhide HC).small)
      generalize hlen2 : ys.length = len at *
      go_wp2_with fail
      go_loop [6, 19] (fun a i => ∃ k A : Nat, k ≤ len ∧ A < len ∧ i = .int .i64 k ∧ a = .int .i64 A ∧ Hid (Chosen t ys k A)) (fun _ i => len - (intOf i).toNat)
      case atStart => exact ⟨0, 0, by omega, by omega, rfl, rfl, hide (Or.inl ⟨rfl, fun j hj => by omega⟩)⟩
      case round =>
        obtain ⟨k, A, hk, hA, rfl, rfl, HCh⟩ := hrel
        by_cases hlt : k < len
        · have hck := unhide Hcell k hlt
          have Hy := hide (chosen_yes (t := t) (ys := ys) (k := k) (A := A))
          have Hn := hide (chosen_no (t := t) (ys := ys) (k := k) (A := A))
          generalize ys.getD k 0 = y at *
          by_cases hy : y < 0
          · by_cases ht : t < 0
            · have HCh2 := hide (unhide Hn ⟨fun _ => ht, fun _ => hy⟩ (unhide HCh))
              go_wp2_with fail
              go_round
              case rel => exact ⟨k + 1, A, by omega, hA, by go_num, rfl, HCh2⟩
              case measure => simp [intOf]; omega
            · have HCh2 := hide (unhide Hy (fun c => ht (c.1 hy)) (unhide HCh))
              go_wp2_with fail
              go_round
              case rel => exact ⟨k + 1, k, by omega, hlt, by go_num, rfl, HCh2⟩
              case measure => simp [intOf]; omega
          · by_cases ht : t < 0
            · have HCh2 := hide (unhide Hy (fun c => hy (c.2 ht)) (unhide HCh))
              go_wp2_with fail
              go_round
              case rel => exact ⟨k + 1, k, by omega, hlt, by go_num, rfl, HCh2⟩
              case measure => simp [intOf]; omega
            · have HCh2 := hide (unhide Hn ⟨fun c => absurd c hy, fun c => absurd c ht⟩ (unhide HCh))
              go_wp2_with fail
              go_round
              case rel => exact ⟨k + 1, A, by omega, hA, by go_num, rfl, HCh2⟩
              case measure => simp [intOf]; omega
        · have hk2 : k = len := by omega
          subst hk2
          have hcA := unhide Hcell A hA
          have hAi : (A : Int) < (k : Int) := by omega
          have hA0 : (0 : Int) ≤ (A : Int) := Int.natCast_nonneg _
          have HiA := hide (unhide Hin2 A)
          have Hov : Hid (¬ turn (t + ys.getD A 0) = 0 → ¬ turn T = 0) := hide (fun h => by
            have := chosen_over (t := t) (ys := ys) (A := A) (by rw [hlen2]; exact unhide HCh) (by omega) (unhide Ht) (unhide HC).small h
            rw [unhide HS] at this
            exact this)
          have Her := hide ((unhide HC).drew.erase A (by omega))
          have Hsum2 : Hid (t + ys.getD A 0 + total (ys.eraseIdx A) = T) := hide (by have := total_erase ys A (by omega); have := unhide HS; omega)
          have hel : (ys.eraseIdx A).length = k - 1 := by rw [List.length_eraseIdx, if_pos (by omega), hlen2]
          have Hel := hide hel
          clear hel
          generalize hyA : ys.getD A 0 = y at *
          clear hyA
          go_wp2_with fail
          refine (radd_any t y (unhide Ht) (unhide HiA) _).mono ?_
          rintro e w' ⟨rfl, rfl⟩
          by_cases hto : turn (t + y) = 0
          · rw [okN_in hto, okE_in hto]
            have Ht2 := hide (in_of_turn hto)
            clear hto
            have hcpk : (k : Int) ≤ (cp : Int) := by have := (unhide HC).room; omega
            have hAk : (A : Int) + 1 ≤ (k : Int) := by omega
            have hAc : (A : Int) ≤ (cp : Int) := by omega
            have f1 : (A : Int) ≤ (A : Int) + 1 := by omega
            have f2 : (0 : Int) ≤ (A : Int) + 1 := by omega
            have q1 : IntKind.i64.wrap ((A : Int) + 1) = (A : Int) + 1 := IntWalk.i64_in _ ⟨by omega, by omega⟩
            by_cases hcp : cp = A + 1
            · subst hcp
              go_wp2_with fail
              go_region_held3 (fun _ => True) (trivial) ((refine step_erase (by rfl) (.tmp 46) (.tmp 50) (by rfl) w _ g (A + 1) A _ _ ys _ (unhide HC).drew (by omega) (by rfl) (by rfl) (by omega) (fun h => by omega) ?_; intro W2 hC2))
              have HC2 := hide hC2
              clear hC2
              go_wp2
              go_roundw
              case rel => exact ⟨ys.eraseIdx A, t + y, rfl, rfl, by rw [unhide Hel]; omega, HC2, Ht2, Hsum2⟩
              case measure => simp only [lenOf]; rw [unhide Hel]; omega
            · go_wp2_with fail
              go_region_held3 (fun _ => True) (trivial) ((refine step_erase (by rfl) (.tmp 46) (.tmp 50) (by rfl) w _ g cp A _ _ ys _ (unhide HC).drew (by omega) (by rfl) (by rfl) (by omega) (fun h => by rfl) ?_; intro W2 hC2))
              have HC2 := hide hC2
              clear hC2
              go_wp2
              go_roundw
              case rel => exact ⟨ys.eraseIdx A, t + y, rfl, rfl, by rw [unhide Hel]; omega, HC2, Ht2, Hsum2⟩
              case measure => simp only [lenOf]; rw [unhide Hel]; omega
          · rw [okN_out hto, okE_out hto]
            have hT0 := unhide Hov hto
            have HO := hide (okN_out hT0)
            have HE := hide (okE_out hT0)
            clear hto hT0
            go_wp2_with fail
            go_ret2
            exact ⟨ret_pair (unhide HO).symm (unhide HE).symm, (unhide HC).below⟩
/-- A slice that came in: its length is within its capacity, and a nil one has none. -/
def Fine (v : Value) : Prop := ∀ a l c, v = .slice a l c → l ≤ c ∧ (a = none → c = 0)
theorem Row.src {w : World} {v : Value} {zs : List Int} (h : Row w v zs) (hv : Fine v) : From w v zs := by
  rcases h with ⟨a, cap, rfl, rfl⟩ | ⟨b, off, cap, rfl, h0, hm, hc, hin⟩
  · have := hv a 0 cap rfl
    cases a with
    | none => rw [this.2 rfl]; exact Or.inl ⟨rfl, rfl⟩
    | some x => exact Or.inr ⟨x, cap, rfl, fun j hj => by simp at hj⟩
  · exact Or.inr ⟨⟨b, off, none⟩, cap, rfl, fun j hj => by rw [Addr.add_lit]; exact hc j hj⟩
theorem rsum_any (v : Value) (zs : List Int) (w : World) (h : Row w v zs) (hv : Fine v) (hlen : zs.length ≤ 1000) :
    Calls Try.prog 26 #[v] w fun e w' => e = .returned (.tuple #[.int .i64 (okN (total zs)), .int .i64 (okE (total zs))]) ∧ Below w.heap.size w w' := by
  have hF := h.src hv
  rcases h with ⟨a, cap, rfl, rfl⟩ | ⟨b, off, cap, rfl, h0, hm, hc, hin⟩
  · have h0 : In64 0 := ⟨by omega, by omega⟩
    rw [show total [] = 0 from rfl, okN_in (turn_in h0), okE_in (turn_in h0)]
    exact rsum_empty a cap w hF
  · exact rsum_row b off cap zs w h0 hlen hc hin
end Go.Proofs.Ytkccladbcehdbaa.Mn
