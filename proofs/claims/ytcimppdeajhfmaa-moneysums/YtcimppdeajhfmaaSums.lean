/- Proved here: MoneySums: at any row of 64-bit numbers money's Sum, or its error, is the document's, in whatever order they stand, and they stay as they were. No condition. -/
import Derived.Test.YtcimppdeajhfmaaRSum
namespace Go.Proofs.Ytcimppdeajhfmaa.moneySums
open Go.ChangeShapes Go.WideShapes Go.ChangeAt Go.RowKit
theorem total_turn (zs : List Int) (K : Nat) : total (zs.drop K ++ zs.take K) = total zs := by
  rw [total_append, Int.add_comm, ← total_append, List.take_append_drop]
set_option maxHeartbeats 1000000 in
theorem walk_long (a : Option Addr) (len cap : Nat) (c : Int) (h : 200 < len) (w : World) :
    Calls Try.prog 4 #[.slice a len cap, .int .u8 c] w fun e w' => e = .returned (.bool true) ∧ Below w.heap.size w w' := by
  have h2 : (200 : Int) < (len : Int) := by omega
  clear h
  go_enter Try.func4, Try.ntmps4
  go_wp2_with fail
  refine (alive_any _).mono ?_
  rintro e w1 ⟨rfl, hbel⟩
  have HB := hide hbel
  clear hbel
  go_wp2_with fail
  go_ret
  exact ⟨rfl, unhide HB⟩
set_option maxHeartbeats 4000000 in
theorem walk_row (b off cap : Nat) (zs : List Int) (f : Nat) (w : World) (hf : f ≤ 255) (h0 : 0 < zs.length) (hlen : zs.length ≤ 200) (hcap : zs.length ≤ cap) (hrow : Row w (.slice (some ⟨b, off, none⟩) zs.length cap) zs)
    (hc : ∀ W, Row W (.slice (some ⟨b, off, none⟩) zs.length cap) zs → ∀ j, j < zs.length → W.cell? ⟨b, off + j, none⟩ = some (.int .i64 (zs.getD j 0))) (hin : ∀ z ∈ zs, In64 z) :
    Calls Try.prog 4 #[.slice (some ⟨b, off, none⟩) zs.length cap, .int .u8 f] w fun e w' => e = .returned (.bool true) ∧ Below w.heap.size w w' := by
  obtain ⟨K, hK⟩ : ∃ K, K = f % (zs.length + 1) := ⟨_, rfl⟩
  have hKl : K ≤ zs.length := by have := Nat.mod_lt f (show 0 < zs.length + 1 by omega); omega
  have eK : (f : Int) % ((zs.length : Int) + 1) = (K : Int) := by rw [hK, Int.natCast_emod]; rfl
  have HR := hide hrow
  have HC := hide hc
  have Hin := hide hin
  have Hfrom : Hid (∀ W, Row W (.slice (some ⟨b, off, none⟩) zs.length cap) zs → From W (.slice (some ⟨b, off, none⟩) zs.length cap) zs) := hide (fun W h => h.src (fun a l c e => by
    simp only [Value.slice.injEq] at e
    obtain ⟨rfl, rfl, rfl⟩ := e
    exact ⟨hcap, fun h => by cases h⟩))
  have Hsum : Hid (∀ (W : World) (v : Value), Row W v zs → Calls Try.prog 20 #[v] W fun e w' => e = .returned (.tuple #[.int .i64 (okN (total zs)), .int .i64 (okE (total zs))]) ∧ W = w') := hide (fun W v h => sum_any v zs W h)
  have Hsum2 : Hid (∀ (W : World) (v : Value), Row W v (zs.drop K ++ zs.take K) → Calls Try.prog 20 #[v] W fun e w' => e = .returned (.tuple #[.int .i64 (okN (total zs)), .int .i64 (okE (total zs))]) ∧ W = w') := hide (fun W v h => by
    have := sum_any v _ W h
    rw [total_turn] at this
    exact this)
  have Hrsum : Hid (∀ W, Row W (.slice (some ⟨b, off, none⟩) zs.length cap) zs → Calls Try.prog 21 #[.slice (some ⟨b, off, none⟩) zs.length cap] W fun e w' => e = .returned (.tuple #[.int .i64 (okN (total zs)), .int .i64 (okE (total zs))]) ∧ Below W.heap.size W w') := hide (fun W h => rsum_row b off cap zs W h0 (by omega) (hc W h) hin)
  have Hml : Hid (zs.length ≤ maxLen) := hide (by unfold maxLen; omega)
  have Hdt : Hid ((zs.drop K ++ zs.take K).length ≤ 200) := hide (by simp; omega)
  have Hdl : Hid ((zs.drop K).length = zs.length - K ∧ (zs.take K).length = K) := hide ⟨by simp, by simp; omega⟩
  have Hdi : Hid ((∀ z ∈ zs.drop K, In64 z) ∧ ∀ z ∈ zs.take K, In64 z) := hide ⟨fun z h => hin z (List.mem_of_mem_drop h), fun z h => hin z (List.mem_of_mem_take h)⟩
  have Hcells : Hid (∀ W, Row W (.slice (some ⟨b, off, none⟩) zs.length cap) zs → (∀ j, j < (zs.drop K).length → W.cell? ⟨b, off + K + j, none⟩ = some (.int .i64 ((zs.drop K).getD j 0))) ∧ ∀ j, j < (zs.take K).length → W.cell? ⟨b, off + j, none⟩ = some (.int .i64 ((zs.take K).getD j 0))) := hide (fun W h => ⟨fun j hj => by
      rw [Nat.add_assoc, hc W h (K + j) (by simp at hj; omega)]
      simp [List.getD], fun j hj => by
      rw [hc W h j (by simp at hj; omega)]
      have : j < K := by simp at hj; omega
      simp [List.getD, this]⟩)
  obtain ⟨N, hN⟩ : ∃ N, N = okN (total zs) := ⟨_, rfl⟩
  obtain ⟨E, hE⟩ : ∃ E, E = okE (total zs) := ⟨_, rfl⟩
  rw [← hN, ← hE] at Hsum Hsum2 Hrsum
  clear hK hN hE hrow hc hin
  have hlen2 : decide ((200 : Int) < (zs.length : Int)) = false := by simp; omega
  generalize hl : zs.length = len at *
  have Hl := hide hl
  clear hl
  go_enter Try.func4, Try.ntmps4
  go_wp2_with fail
  refine (alive_any _).mono ?_
  rintro e w1 ⟨rfl, hbel⟩
  have HB := hide hbel
  have HR1 := hide ((unhide HR).below hbel (Nat.le_refl _))
  have HR1' := hide ((unhide HR1).alloc (.cells #[] 2))
  clear hbel HR
  go_wp2_with (at_builtin; refine list_from rfl _ _ rfl w1 _ _ _ [] zs (Grow.empty w1 w1 (Below.refl _ _)) (unhide Hfrom _ (unhide HR1')) rfl rfl (by rw [unhide Hl]; simp; omega) (unhide Hin) ?_)
  intro v W1 hG
  have HG := hide hG
  have HRW := hide ((unhide HR1).below hG.below (Nat.le_refl _))
  have HBW : Hid (Below w.heap.size w W1) := hide ((unhide HB).trans (hG.below.mono (unhide HB).size))
  clear hG HR1 HR1' HB
  have HRG := hide ((unhide HG).row (by rw [unhide Hl]; exact unhide Hml))
  go_wp2_with fail
  refine (unhide Hsum _ _ (unhide HRG)).mono ?_
  rintro e w' ⟨rfl, rfl⟩
  go_wp2_with fail
  refine (unhide Hrsum _ (unhide HRW)).mono ?_
  rintro e W2 ⟨rfl, hb2⟩
  have HRG2 := hide ((unhide HRG).below hb2 (Nat.le_refl _))
  have HRW2 := hide ((unhide HRW).below hb2 (Nat.le_refl _))
  have HBW2 : Hid (Below w.heap.size w W2) := hide ((unhide HBW).trans (hb2.mono (unhide HBW).size))
  clear hb2 HRG HRW HBW HG
  go_wp2_with fail
  refine (same_yes _ _ zs _ (unhide HRG2) (unhide HRW2)).mono ?_
  rintro e W3 ⟨rfl, m, rfl⟩
  have HRW3 : Hid (Row (W2.drewN m) (.slice (some ⟨b, off, none⟩) len cap) zs) := hide ((unhide HRW2).later (fun a x hx => hx))
  have HBW3 : Hid (Below w.heap.size w (W2.drewN m)) := hide (below_drewN (unhide HBW2) m)
  clear HRG2 HRW2 HBW2
  generalize W2.drewN m = W4 at *
  have HRW5 := hide ((unhide HRW3).alloc (.cells #[] 2))
  have hb4 : b < W4.heap.size := lt_of_cell (unhide HC W4 (unhide HRW3) 0 h0)
  have k0 : (0 : Int) ≤ (K : Int) := Int.natCast_nonneg _
  have k1 : (K : Int) ≤ (len : Int) := by omega
  have k2 : (K : Int) ≤ (cap : Int) := by omega
  have k3 : (len : Int) ≤ (cap : Int) := by omega
  have HF2 : Hid (∀ W5, Below W4.heap.size W4 W5 → From W5 (.slice (some ⟨b, off, none⟩) K cap) (zs.take K)) := hide (fun W5 hb5 =>
    Or.inr ⟨⟨b, off, none⟩, cap, by rw [(unhide Hdl).2], fun j hj => by
      rw [Addr.add_lit]
      exact (unhide Hcells W5 ((unhide HRW3).below hb5 (Nat.le_refl _))).2 j hj⟩)
  go_wp2_with fail
  rw [eK]
  clear eK
  by_cases hKc : K = cap
  · have HF1 : Hid (From (W4.alloc (.cells #[] 2)).drew (.slice (some ⟨b, off, none⟩) 0 0) (zs.drop K)) := hide (Or.inr ⟨⟨b, off, none⟩, 0, by rw [(unhide Hdl).1, show len - K = 0 from by omega], fun j hj => by
      rw [(unhide Hdl).1] at hj; omega⟩)
    have hKl2 : K = len := by omega
    subst hKc
    subst hKl2
    clear k1 k2 k3
    have k4 : (K : Int) ≤ (K : Int) := by omega
    go_region_held3 (fun _ => True) (trivial)
      (first
        | (refine step_from (by rfl) (.tmp 52) (.tmp 55) (by rfl) W4 _ _ _ [] (zs.drop K) (Grow.empty W4 W4 (Below.refl _ _)).drew (unhide HF1) (by rfl) (by rfl) (by show 0 + (zs.drop K).length ≤ 1000000; rw [(unhide Hdl).1]; omega) (unhide Hdi).1 ?_; intro v1 W5 hG1)
        | (refine step_from (by rfl) (.tmp 56) (.tmp 59) (by rfl) W4 _ _ _ (zs.drop K) (zs.take K) hG1 (unhide HF2 _ hG1.below) (by rfl) (by rfl) (by rw [(unhide Hdl).1, (unhide Hdl).2]; omega) (unhide Hdi).2 ?_; intro v2 W6 hG2)
        | (go_at_call 20; refine (unhide Hsum2 _ _ (hG2.row (by have := unhide Hdt; unfold maxLen; omega))).mono ?_; rintro e w' ⟨rfl, rfl⟩))
    have HBel : Hid (Below w.heap.size w W6) := hide ((unhide HBW3).trans (hG2.below.mono (unhide HBW3).size))
    clear hG1 hG2
    go_wp2
    go_ret
    exact ⟨rfl, unhide HBel⟩
  · have hKc2 : ¬ cap = K := fun h => hKc h.symm
    have HF1 : Hid (From (W4.alloc (.cells #[] 2)).drew (.slice (some ⟨b, off + K, none⟩) (len - K) (cap - K)) (zs.drop K)) := hide (Or.inr ⟨⟨b, off + K, none⟩, cap - K, by rw [(unhide Hdl).1], fun j hj => by
      rw [Addr.add_lit]
      exact (unhide Hcells _ (unhide HRW5)).1 j hj⟩)
    go_region_held3 (fun _ => True) (trivial)
      (first
        | (refine step_from (by rfl) (.tmp 52) (.tmp 55) (by rfl) W4 _ _ _ [] (zs.drop K) (Grow.empty W4 W4 (Below.refl _ _)).drew (unhide HF1) (by rfl) (by rfl) (by show 0 + (zs.drop K).length ≤ 1000000; rw [(unhide Hdl).1]; omega) (unhide Hdi).1 ?_; intro v1 W5 hG1)
        | (refine step_from (by rfl) (.tmp 56) (.tmp 59) (by rfl) W4 _ _ _ (zs.drop K) (zs.take K) hG1 (unhide HF2 _ hG1.below) (by rfl) (by rfl) (by rw [(unhide Hdl).1, (unhide Hdl).2]; omega) (unhide Hdi).2 ?_; intro v2 W6 hG2)
        | (go_at_call 20; refine (unhide Hsum2 _ _ (hG2.row (by have := unhide Hdt; unfold maxLen; omega))).mono ?_; rintro e w' ⟨rfl, rfl⟩))
    have HBel : Hid (Below w.heap.size w W6) := hide ((unhide HBW3).trans (hG2.below.mono (unhide HBW3).size))
    clear hG1 hG2
    go_wp2
    go_ret
    exact ⟨rfl, unhide HBel⟩
set_option maxHeartbeats 2000000 in
theorem walk_nil (f : Nat) (w : World) (hf : f ≤ 255) :
    Calls Try.prog 4 #[.slice none 0 0, .int .u8 f] w fun e w' => e = .returned (.bool true) ∧ Below w.heap.size w w' := by
  have Hfrom : Hid (∀ W : World, From W (.slice none 0 0) []) := hide (fun W => by first | exact Or.inl ⟨rfl, rfl⟩ | exact Or.inr ⟨_, _, rfl, fun j hj => by simp at hj⟩)
  have Hrow : Hid (∀ W : World, Row W (.slice none 0 0) []) := hide (fun W => Or.inl ⟨_, _, rfl, rfl⟩)
  have e0 : okN (total []) = 0 ∧ okE (total []) = 0 := by
    have h0 : In64 0 := ⟨by omega, by omega⟩
    exact ⟨by rw [show total [] = 0 from rfl, okN_in (turn_in h0)], by rw [show total [] = 0 from rfl, okE_in (turn_in h0)]⟩
  have Hsum : Hid (∀ (W : World) (v : Value), Row W v [] → Calls Try.prog 20 #[v] W fun e w' => e = .returned (.tuple #[.int .i64 0, .int .i64 0]) ∧ W = w') := hide (fun W v h => by
    have := sum_any v [] W h
    rw [e0.1, e0.2] at this
    exact this)
  have Hrsum : Hid (∀ W : World, Calls Try.prog 21 #[.slice none 0 0] W fun e w' => e = .returned (.tuple #[.int .i64 0, .int .i64 0]) ∧ Below W.heap.size W w') := hide (fun W => rsum_empty _ _ W (unhide Hfrom W))
  clear e0
  go_enter Try.func4, Try.ntmps4
  go_wp2_with fail
  refine (alive_any _).mono ?_
  rintro e w1 ⟨rfl, hbel⟩
  have HB := hide hbel
  clear hbel
  go_wp2_with (at_builtin; refine list_from rfl _ _ rfl w1 _ _ _ [] [] (Grow.empty w1 w1 (Below.refl _ _)) (unhide Hfrom _) rfl rfl (by decide) (fun y hy => by cases hy) ?_)
  intro v W1 hG
  have HRG := hide (hG.row (by decide))
  have HBW : Hid (Below w.heap.size w W1) := hide ((unhide HB).trans (hG.below.mono (unhide HB).size))
  clear hG HB
  go_wp2_with fail
  refine (unhide Hsum _ _ (unhide HRG)).mono ?_
  rintro e w' ⟨rfl, rfl⟩
  go_wp2_with fail
  refine (unhide Hrsum _).mono ?_
  rintro e W2 ⟨rfl, hb2⟩
  have HRG2 := hide ((unhide HRG).below hb2 (Nat.le_refl _))
  have HBW2 : Hid (Below w.heap.size w W2) := hide ((unhide HBW).trans (hb2.mono (unhide HBW).size))
  clear hb2 HRG HBW
  go_wp2_with fail
  refine (same_yes _ _ [] _ (unhide HRG2) (unhide Hrow _)).mono ?_
  rintro e W3 ⟨rfl, m, rfl⟩
  have HBW3 : Hid (Below w.heap.size w (W2.drewN m)) := hide (below_drewN (unhide HBW2) m)
  clear HRG2 HBW2
  generalize W2.drewN m = W4 at *
  go_wp2_with fail
  go_region_held3 (fun _ => True) (trivial)
    (first
      | (refine step_from (by rfl) (.tmp 52) (.tmp 55) (by rfl) W4 _ _ _ [] [] (Grow.empty W4 W4 (Below.refl _ _)).drew (by first | exact Or.inl ⟨rfl, rfl⟩ | exact Or.inr ⟨_, _, rfl, fun j hj => by simp at hj⟩) (by rfl) (by rfl) (by decide) (fun y hy => by cases hy) ?_; intro v1 W5 hG1)
      | (refine step_from (by rfl) (.tmp 56) (.tmp 59) (by rfl) W4 _ _ _ [] [] hG1 (by first | exact Or.inl ⟨rfl, rfl⟩ | exact Or.inr ⟨_, _, rfl, fun j hj => by simp at hj⟩) (by rfl) (by rfl) (by decide) (fun y hy => by cases hy) ?_; intro v2 W6 hG2)
      | (go_at_call 20; refine (unhide Hsum _ _ (hG2.row (by decide))).mono ?_; rintro e w' ⟨rfl, rfl⟩))
  have HBel : Hid (Below w.heap.size w W6) := hide ((unhide HBW3).trans (hG2.below.mono (unhide HBW3).size))
  clear hG1 hG2
  go_wp2
  go_ret
  exact ⟨rfl, unhide HBel⟩
set_option maxHeartbeats 2000000 in
theorem walk_zero (x : Addr) (cap : Nat) (f : Nat) (w : World) (hf : f ≤ 255) :
    Calls Try.prog 4 #[.slice (some x) 0 cap, .int .u8 f] w fun e w' => e = .returned (.bool true) ∧ Below w.heap.size w w' := by
  have Hfrom : Hid (∀ W : World, From W (.slice (some x) 0 cap) []) := hide (fun W => by first | exact Or.inl ⟨rfl, rfl⟩ | exact Or.inr ⟨_, _, rfl, fun j hj => by simp at hj⟩)
  have Hz : Hid (∀ (W : World) (ad : Addr) (c : Nat), From W (.slice (some ad) 0 c) []) := hide (fun W ad c => Or.inr ⟨ad, c, rfl, fun j hj => by simp at hj⟩)
  have Hrow : Hid (∀ W : World, Row W (.slice (some x) 0 cap) []) := hide (fun W => Or.inl ⟨_, _, rfl, rfl⟩)
  have e0 : okN (total []) = 0 ∧ okE (total []) = 0 := by
    have h0 : In64 0 := ⟨by omega, by omega⟩
    exact ⟨by rw [show total [] = 0 from rfl, okN_in (turn_in h0)], by rw [show total [] = 0 from rfl, okE_in (turn_in h0)]⟩
  have Hsum : Hid (∀ (W : World) (v : Value), Row W v [] → Calls Try.prog 20 #[v] W fun e w' => e = .returned (.tuple #[.int .i64 0, .int .i64 0]) ∧ W = w') := hide (fun W v h => by
    have := sum_any v [] W h
    rw [e0.1, e0.2] at this
    exact this)
  have Hrsum : Hid (∀ W : World, Calls Try.prog 21 #[.slice (some x) 0 cap] W fun e w' => e = .returned (.tuple #[.int .i64 0, .int .i64 0]) ∧ Below W.heap.size W w') := hide (fun W => rsum_empty _ _ W (unhide Hfrom W))
  clear e0
  go_enter Try.func4, Try.ntmps4
  go_wp2_with fail
  refine (alive_any _).mono ?_
  rintro e w1 ⟨rfl, hbel⟩
  have HB := hide hbel
  clear hbel
  go_wp2_with (at_builtin; refine list_from rfl _ _ rfl w1 _ _ _ [] [] (Grow.empty w1 w1 (Below.refl _ _)) (unhide Hfrom _) rfl rfl (by decide) (fun y hy => by cases hy) ?_)
  intro v W1 hG
  have HRG := hide (hG.row (by decide))
  have HBW : Hid (Below w.heap.size w W1) := hide ((unhide HB).trans (hG.below.mono (unhide HB).size))
  clear hG HB
  go_wp2_with fail
  refine (unhide Hsum _ _ (unhide HRG)).mono ?_
  rintro e w' ⟨rfl, rfl⟩
  go_wp2_with fail
  refine (unhide Hrsum _).mono ?_
  rintro e W2 ⟨rfl, hb2⟩
  have HRG2 := hide ((unhide HRG).below hb2 (Nat.le_refl _))
  have HBW2 : Hid (Below w.heap.size w W2) := hide ((unhide HBW).trans (hb2.mono (unhide HBW).size))
  clear hb2 HRG HBW
  go_wp2_with fail
  refine (same_yes _ _ [] _ (unhide HRG2) (unhide Hrow _)).mono ?_
  rintro e W3 ⟨rfl, m, rfl⟩
  have HBW3 : Hid (Below w.heap.size w (W2.drewN m)) := hide (below_drewN (unhide HBW2) m)
  clear HRG2 HBW2
  generalize W2.drewN m = W4 at *
  have kc : (0 : Int) ≤ (cap : Int) := Int.natCast_nonneg _
  go_wp2_with fail
  go_region_held3 (fun _ => True) (trivial)
    (first
      | (refine step_from (by rfl) (.tmp 52) (.tmp 55) (by rfl) W4 _ _ _ [] [] (Grow.empty W4 W4 (Below.refl _ _)).drew (unhide Hz _ _ _) (by rfl) (by rfl) (by decide) (fun y hy => by cases hy) ?_; intro v1 W5 hG1)
      | (refine step_from (by rfl) (.tmp 56) (.tmp 59) (by rfl) W4 _ _ _ [] [] hG1 (unhide Hz _ _ _) (by rfl) (by rfl) (by decide) (fun y hy => by cases hy) ?_; intro v2 W6 hG2)
      | (go_at_call 20; refine (unhide Hsum _ _ (hG2.row (by decide))).mono ?_; rintro e w' ⟨rfl, rfl⟩))
  have HBel : Hid (Below w.heap.size w W6) := hide ((unhide HBW3).trans (hG2.below.mono (unhide HBW3).size))
  clear hG1 hG2
  go_wp2
  go_ret
  exact ⟨rfl, unhide HBel⟩
theorem fine_mk {a : Option Addr} {l c : Nat} (h : l ≤ c) (hn : a = none → c = 0) : Fine (.slice a l c) := fun a' l' c' e => by
  simp only [Value.slice.injEq] at e
  obtain ⟨rfl, rfl, rfl⟩ := e
  exact ⟨h, hn⟩
theorem walk (v : Value) (zs : List Int) (c : Int) (w : World) (h : Row w v zs ∧ Fine v) (wc : (Lit.int .u8 c).wf = true) :
    Calls Try.prog 4 #[v, .int .u8 c] w fun e w' => e = .returned (.bool true) ∧ Below w.heap.size w w' := by
  obtain ⟨h, hv⟩ := h
  have hc : 0 ≤ c ∧ c ≤ 255 := by
    simp only [Lit.wf, IntKind.min, IntKind.max, IntKind.signed, IntKind.bits, Bool.and_eq_true] at wc
    simpa using wc
  obtain ⟨f, rfl⟩ := Int.eq_ofNat_of_zero_le hc.1
  by_cases hlen : zs.length ≤ 200
  · rcases h with ⟨a, cap, rfl, rfl⟩ | ⟨b, off, cap, rfl, h0, hm, hc2, hin⟩
    · have hf := hv a 0 cap rfl
      cases a with
      | none => rw [hf.2 rfl]; exact walk_nil f w (by omega)
      | some x => exact walk_zero x cap f w (by omega)
    · refine walk_row b off cap zs f w (by omega) h0 hlen (hv _ _ _ rfl).1 (Or.inr ⟨b, off, cap, rfl, h0, hm, hc2, hin⟩) (fun W hW => ?_) hin
      rcases hW with ⟨a', cap', hv', hz⟩ | ⟨b', off', cap', hv', _, _, hc', _⟩
      · rw [hz] at h0; exact absurd h0 (by decide)
      · simp only [Value.slice.injEq, Option.some.injEq, Addr.mk.injEq] at hv'
        obtain ⟨⟨rfl, rfl, _⟩, _, _⟩ := hv'
        exact hc'
  · obtain ⟨a, cap, rfl⟩ := row_slice h
    exact walk_long a zs.length cap f (by omega) w
theorem own : ownKnob Try.prog.godebug = none := by kernel_rfl
theorem laidOut : laidOutB Try.prog = true := by kernel_rfl
set_option linter.unusedVariables false in
set_option maxRecDepth 100000 in
theorem lifted (os : Os) (started : os.Started) (H : Type) (enc : TypeId × Value → H) :
    ReturnsInHanded {} Try.checked os 4 .any (Rows.moneySumsSpec.pre6 enc Try.prog Try.f4 Rows.moneySumsRow.domain false) (Rows.moneySumsSpec.post enc Try.prog Try.f4 false true false false) := by
  refine returnsInHanded_of_change (C := Try.checked) own started (by kernel_rfl) Try.func4
    (ChangeSpec.witness6 (enc := enc) (C := Try.checked) false ⟨#[], #[.slice none 0 0, .int .u8 0], []⟩ 8 (by kernel_rfl) (by kernel_rfl) (by kernel_rfl) (by kernel_rfl)) ?_
  intro W base args ds gs before hval0 hW hcnd _
  have hval : ∀ (j : Nat) t v, Try.f4.params[j]? = some t → args[j]? = some v → Value.okWide Try.prog W .any base t v := hval0
  have hW' := hW
  obtain ⟨p, q, hA0, hV, rfl, hfz, hnd⟩ := hW
  have hA : DataW.TrodAll enc Try.prog W 0 (fun _ => true) true Try.f4.params.toList args.toList ds p := hA0
  rw [Try.params4] at hA hval
  obtain ⟨v0, vs0, d0, ds0, p0, q0, hargs, rfl, rfl, h0, r0⟩ := trodAll_cons hA
  obtain ⟨v1, vs1, d1, ds1, p1, q1, rfl, rfl, rfl, h1, r1⟩ := trodAll_cons r0
  obtain ⟨rfl, rfl, rfl⟩ := trodAll_nil r1
  obtain rfl : args = #[v0, v1] := by cases args; simp_all
  obtain ⟨rfl, rfl⟩ := trodVars_none hV
  obtain ⟨a0, len0, cap0, rfl⟩ := okWide_slice Try.underlying29 (hval 0 29 v0 rfl rfl)
  have k0 := h0
  have lt0 : ∀ x ∈ p0, x.block < W.heap.size := by obtain ⟨m, hm⟩ := k0; exact DataW.trod_lt m _ _ _ hm
  obtain ⟨z0, w0⟩ : ∃ zs : List Int, Row W (.slice a0 len0 cap0) zs ∧ Fine (.slice a0 len0 cap0) := by
    obtain ⟨fuel, hf⟩ := h0
    rcases open_ints Try.underlying29 Try.underlying2 (by kernel_rfl) hf with ⟨hcs, _⟩ | ⟨x, l, c, zs, hcs, _, hl, hm, hz, _, hcell, hwz⟩
    · simp [Value.cells] at hcs
      obtain ⟨rfl, rfl, rfl⟩ := hcs
      exact ⟨[], .inl ⟨_, _, rfl, rfl⟩, fine_mk (Nat.le_refl _) (fun _ => rfl)⟩
    · simp [Value.cells] at hcs
      obtain ⟨rfl, rfl, rfl⟩ := hcs
      obtain ⟨ys, hys⟩ := row_open hl hm (by simpa using hz) hcell hwz
      exact ⟨ys, hys, fine_mk hl (fun h => by cases h)⟩
  obtain ⟨a1, rfl, rfl, rfl, w1⟩ := open_int Try.underlying5 (hval 1 5 v1 rfl rfl) h1
  clear hA0 hval0
  refine (walk _ z0 a1 W w0 w1).mono fun e W' ⟨he, bel⟩ => ?_
  subst he
  exact ⟨_, rfl, _, _, _, [], _, [], hW', trodAll_mk1 (shut_bool Try.underlying4 _), (trodAll_cons_mk (Below.trod laidOut (by kernel_rfl) (of_decide_eq_true (by kernel_rfl)) k0 bel lt0) (trodAll_cons_mk (shut_int Try.underlying5 w1) trodAll_mk0)), rfl, bel.frame _, fun h => by cases h⟩
theorem over : Rows.moneySumsRow.holds Try.pinned (OpenSpec.ofChange Rows.moneySumsSpec) :=
  OpenClaim.holds_of_wide 4 Try.f4 rfl rfl rfl rfl rfl rfl rfl ⟨rfl, rfl, rfl, rfl, rfl⟩ rfl rfl rfl rfl rfl (by kernel_rfl) Try.func4 (by kernel_rfl)
    (of_decide_eq_true (by kernel_rfl)) (by unfold Func.isWrapper; first | (rw [if_pos (by decide +kernel)]; kernel_rfl) | (rw [if_neg (by decide +kernel)]; exact ⟨rfl, rfl⟩))
    (fun os started H enc _ => lifted os started H enc)
/-- The statement. -/
theorem proved : Rows.MoneySumsSaid := over
#print axioms proved
end Go.Proofs.Ytcimppdeajhfmaa.moneySums
namespace Go.Proofs.Ytcimppdeajhfmaa
theorem moneySums_holds : Rows.MoneySumsSaid := moneySums.proved
end Go.Proofs.Ytcimppdeajhfmaa
