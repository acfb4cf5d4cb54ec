/- The document's own steps. -/
import Derived.Test.YtdbefnghljjieaaXs
namespace Go.Proofs.Ytdbefnghljjieaa
open Go.RowKit
set_option linter.unusedVariables false
set_option linter.unusedSimpArgs false
theorem row_one (w : World) (k : Nat) : RowG 1 (w.alloc (.cells #[.int .u8 (k : Int)] 5)) (.slice (some ⟨w.heap.size, 0, none⟩) 1 1) (bysN [k]) := by
  refine Or.inr ⟨_, _, _, rfl, Nat.lt_of_lt_of_eq (by decide : 0 < 1) rfl, Nat.le_refl _, by simp [maxLen], fun j hj t ht => ?_, fun f hf => ?_⟩
  · obtain rfl : j = 0 := by simp at hj; exact hj
    obtain rfl : t = 0 := by omega
    exact (Blk.new w #[.int .u8 (k : Int)] 5).at 0 _ rfl
  · simp at hf
    subst hf
    exact ⟨rfl, fun v hv => by simp at hv; subst hv; rfl⟩
def A1 : Stt := ⟨List.replicate 4 (some zs64), [(2, l7)]⟩
theorem wrE_A1 : wrE (newS 4) 2 = 0 := by decide
theorem wr_A1 : wrS (newS 4) 2 l7 = A1 := by rw [wrS, if_pos wrE_A1]; rfl
def A2 (k : Nat) : Stt := crashS (fateN [k]) A1
def hd (k : Nat) : Nat := if k = 1 then 7 else 0
theorem rdB_A2 (k : Nat) (hk : k < 3) : ∃ l, rdB (A2 k) 2 = hd k :: l ∧ l.length = 63 := by
  match k, hk with
  | 0, _ => exact ⟨List.replicate 63 0, by decide, by decide⟩
  | 1, _ => exact ⟨List.replicate 63 0, by decide, by decide⟩
  | 2, _ => exact ⟨List.replicate 63 0, by decide, by decide⟩
theorem rdE_A2 (k : Nat) (hk : k < 3) : rdE (A2 k) 2 = if k = 2 then 7 else 0 := by
  match k, hk with
  | 0, _ => decide
  | 1, _ => decide
  | 2, _ => decide
theorem ix58_0 (w : World) : (Instr.index 58 (.agg #[.int .u8 0, .int .u8 7, .int .u8 0]) (.int .u8 0)).run Try.prog w = .ok (.int .u8 0) w := by kernel_rfl
theorem ix58_1 (w : World) : (Instr.index 58 (.agg #[.int .u8 0, .int .u8 7, .int .u8 0]) (.int .u8 1)).run Try.prog w = .ok (.int .u8 7) w := by kernel_rfl
theorem ix58_2 (w : World) : (Instr.index 58 (.agg #[.int .u8 0, .int .u8 7, .int .u8 0]) (.int .u8 2)).run Try.prog w = .ok (.int .u8 0) w := by kernel_rfl
theorem l7_len : l7.length = 64 := by decide
set_option maxHeartbeats 4000000 in
set_option maxRecDepth 20000 in
theorem alive_any (w : World) : Calls Try.prog 8 #[] w fun e w' => e = .returned (.bool true) ∧ Below w.heap.size w w' := by
  go_enter Try.func8, Try.ntmps8
  go_wp2_with fail
  refine (newx 4 (fun k => k < w.heap.size) _ (by decide) (by decide) (fun k h => h)).mono ?_
  rintro e w1 ⟨p, rfl, h, hb⟩
  have HH := hide h
  obtain ⟨bs, rfl⟩ := h.ptr
  have HB := hide hb
  clear h hb
  go_wp2_with fail
  refine (sizx _ _ _ _ (unhide HH)).mono ?_
  rintro e w2 ⟨rfl, e1⟩
  rw [e1, show ((newS 4).L.length : Int) = 4 by decide]
  clear e1 w2 HH
  go_wp2_with fail
  go_loopw [27] (fun i wr => ∃ k : Nat, k ≤ 3 ∧ i = .int .u8 (k : Int) ∧ Hid (Below w.heap.size w wr)) (fun i _ => 3 - (intOf i).toNat)
  case atStart => exact ⟨0, by omega, rfl, HB⟩
  case round =>
    obtain ⟨k, hk, rfl, HB⟩ := hrel
    match k, hk with
    | 0, _ =>
      obtain ⟨rl, hrl, hrl2⟩ := rdB_A2 0 (by decide)
      have hre := rdE_A2 0 (by decide)
      rw [show hd 0 = 0 by decide] at hrl
      rw [show (if 0 = 2 then (7 : Int) else 0) = 0 by decide] at hre
      have HRL := hide hrl
      have HRE := hide hre
      have hrl3 := hide (show (byv (0 :: rl)).length = 64 by rw [byv_len, List.length_cons, hrl2])
      clear hrl hre hrl2
      go_wp2_with fail
      refine (newx 4 (fun k => k < w.heap.size) _ (by decide) (by decide) (fun k h => Nat.lt_of_lt_of_le h (unhide HB).size)).mono ?_
      rintro e w1 ⟨p, rfl, h, hb⟩
      have HH := hide h
      obtain ⟨bs, rfl⟩ := h.ptr
      replace HB := hide ((unhide HB).trans (hb.mono (unhide HB).size))
      clear h hb
      go_wp2_with (refine build_rg rfl 45 _ rfl (l := [(0, .int .u8 7)]) rfl bd7 ?_)
      refine (wrix _ (newS 4) _ _ (unhide HH) (fun k h => Nat.lt_of_lt_of_le h (unhide HB).size) 2 l7 l7_len).mono ?_
      rintro e w2 ⟨rfl, h, hk⟩
      rw [wr_A1] at h
      rw [wrE_A1]
      replace HH := hide h
      replace HB := hide ((unhide HB).trans (hk.below (fun k h => h)))
      clear h hk
      go_wp2_with fail
      refine (crax _ A1 (fun k => k < w.heap.size ∨ k = w2.heap.size) _ (((unhide HH).more (Nat.le_refl _)).below (below1 w2 _)) (fun k h => by have := (unhide HB).size; rcases h with h | h <;> (simp; omega)) _ 1 1 [0] (row_one w2 0) (fun x hx => by rw [List.mem_singleton.1 hx]; decide) (fun y e h0 => by injection e with e; subst e; exact Or.inr rfl)).mono ?_
      rintro e w3 ⟨rfl, h, hk⟩
      replace HH := hide (h.mono (Z := fun k => k < w.heap.size) (fun k h => Or.inl h))
      replace HB := hide (((unhide HB).alloc (unhide HB).size _).trans (hk.below (fun k h => Or.inl h)))
      clear h hk
      go_wp2_with fail
      refine (reax _ (A2 0) _ _ (unhide HH) 2).mono ?_
      rintro e w4 ⟨rfl, hb⟩
      rw [unhide HRL, unhide HRE]
      replace HB := hide ((unhide HB).trans (hb.mono (unhide HB).size))
      have hs := hide (unhide HB).size
      clear hb HH
      go_wp2_with (refine alloc_rg rfl 45 rfl al45 ?_)
      intro W HX hb
      replace HX := hide HX
      replace HB := hide ((unhide HB).trans (hb.mono (unhide HB).size))
      clear hb
      generalize w4.heap.size = b8 at *
      go_wp2_with (refine store_all rfl 45 _ _ rfl (unhide HX) rfl rfl size45 (by rw [List.size_toArray, byv_len, zs_len]) (unhide hrl3) (one_byv _) ?_)
      intro W2 HX2 hb
      replace HB := hide ((unhide HB).trans (hb.below (fun k e => by rw [e]; exact unhide hs) (unhide HB).size))
      have c0 : W2.cell? ⟨b8, 0, none⟩ = some (.int .u8 ((0 : Nat) : Int)) := HX2.rg 0 _ rfl
      clear HX2 hb HX
      have hi := ix58_0
      go_wp2_with fail
      go_roundw
      case rel => exact ⟨0 + 1, by omega, by first | rfl | go_num, HB⟩
      case measure => simp [intOf]
      

    | 1, _ =>
      obtain ⟨rl, hrl, hrl2⟩ := rdB_A2 1 (by decide)
      have hre := rdE_A2 1 (by decide)
      rw [show hd 1 = 7 by decide] at hrl
      rw [show (if 1 = 2 then (7 : Int) else 0) = 0 by decide] at hre
      have HRL := hide hrl
      have HRE := hide hre
      have hrl3 := hide (show (byv (7 :: rl)).length = 64 by rw [byv_len, List.length_cons, hrl2])
      clear hrl hre hrl2
      go_wp2_with fail
      refine (newx 4 (fun k => k < w.heap.size) _ (by decide) (by decide) (fun k h => Nat.lt_of_lt_of_le h (unhide HB).size)).mono ?_
      rintro e w1 ⟨p, rfl, h, hb⟩
      have HH := hide h
      obtain ⟨bs, rfl⟩ := h.ptr
      replace HB := hide ((unhide HB).trans (hb.mono (unhide HB).size))
      clear h hb
      go_wp2_with (refine build_rg rfl 45 _ rfl (l := [(0, .int .u8 7)]) rfl bd7 ?_)
      refine (wrix _ (newS 4) _ _ (unhide HH) (fun k h => Nat.lt_of_lt_of_le h (unhide HB).size) 2 l7 l7_len).mono ?_
      rintro e w2 ⟨rfl, h, hk⟩
      rw [wr_A1] at h
      rw [wrE_A1]
      replace HH := hide h
      replace HB := hide ((unhide HB).trans (hk.below (fun k h => h)))
      clear h hk
      go_wp2_with fail
      refine (crax _ A1 (fun k => k < w.heap.size ∨ k = w2.heap.size) _ (((unhide HH).more (Nat.le_refl _)).below (below1 w2 _)) (fun k h => by have := (unhide HB).size; rcases h with h | h <;> (simp; omega)) _ 1 1 [1] (row_one w2 1) (fun x hx => by rw [List.mem_singleton.1 hx]; decide) (fun y e h0 => by injection e with e; subst e; exact Or.inr rfl)).mono ?_
      rintro e w3 ⟨rfl, h, hk⟩
      replace HH := hide (h.mono (Z := fun k => k < w.heap.size) (fun k h => Or.inl h))
      replace HB := hide (((unhide HB).alloc (unhide HB).size _).trans (hk.below (fun k h => Or.inl h)))
      clear h hk
      go_wp2_with fail
      refine (reax _ (A2 1) _ _ (unhide HH) 2).mono ?_
      rintro e w4 ⟨rfl, hb⟩
      rw [unhide HRL, unhide HRE]
      replace HB := hide ((unhide HB).trans (hb.mono (unhide HB).size))
      have hs := hide (unhide HB).size
      clear hb HH
      go_wp2_with (refine alloc_rg rfl 45 rfl al45 ?_)
      intro W HX hb
      replace HX := hide HX
      replace HB := hide ((unhide HB).trans (hb.mono (unhide HB).size))
      clear hb
      generalize w4.heap.size = b8 at *
      go_wp2_with (refine store_all rfl 45 _ _ rfl (unhide HX) rfl rfl size45 (by rw [List.size_toArray, byv_len, zs_len]) (unhide hrl3) (one_byv _) ?_)
      intro W2 HX2 hb
      replace HB := hide ((unhide HB).trans (hb.below (fun k e => by rw [e]; exact unhide hs) (unhide HB).size))
      have c0 : W2.cell? ⟨b8, 0, none⟩ = some (.int .u8 ((7 : Nat) : Int)) := HX2.rg 0 _ rfl
      clear HX2 hb HX
      have hi := ix58_1
      go_wp2_with fail
      go_roundw
      case rel => exact ⟨1 + 1, by omega, by first | rfl | go_num, HB⟩
      case measure => simp [intOf]
      

    | 2, _ =>
      obtain ⟨rl, hrl, hrl2⟩ := rdB_A2 2 (by decide)
      have hre := rdE_A2 2 (by decide)
      rw [show hd 2 = 0 by decide] at hrl
      rw [show (if 2 = 2 then (7 : Int) else 0) = 7 by decide] at hre
      have HRL := hide hrl
      have HRE := hide hre
      have hrl3 := hide (show (byv (0 :: rl)).length = 64 by rw [byv_len, List.length_cons, hrl2])
      clear hrl hre hrl2
      go_wp2_with fail
      refine (newx 4 (fun k => k < w.heap.size) _ (by decide) (by decide) (fun k h => Nat.lt_of_lt_of_le h (unhide HB).size)).mono ?_
      rintro e w1 ⟨p, rfl, h, hb⟩
      have HH := hide h
      obtain ⟨bs, rfl⟩ := h.ptr
      replace HB := hide ((unhide HB).trans (hb.mono (unhide HB).size))
      clear h hb
      go_wp2_with (refine build_rg rfl 45 _ rfl (l := [(0, .int .u8 7)]) rfl bd7 ?_)
      refine (wrix _ (newS 4) _ _ (unhide HH) (fun k h => Nat.lt_of_lt_of_le h (unhide HB).size) 2 l7 l7_len).mono ?_
      rintro e w2 ⟨rfl, h, hk⟩
      rw [wr_A1] at h
      rw [wrE_A1]
      replace HH := hide h
      replace HB := hide ((unhide HB).trans (hk.below (fun k h => h)))
      clear h hk
      go_wp2_with fail
      refine (crax _ A1 (fun k => k < w.heap.size ∨ k = w2.heap.size) _ (((unhide HH).more (Nat.le_refl _)).below (below1 w2 _)) (fun k h => by have := (unhide HB).size; rcases h with h | h <;> (simp; omega)) _ 1 1 [2] (row_one w2 2) (fun x hx => by rw [List.mem_singleton.1 hx]; decide) (fun y e h0 => by injection e with e; subst e; exact Or.inr rfl)).mono ?_
      rintro e w3 ⟨rfl, h, hk⟩
      replace HH := hide (h.mono (Z := fun k => k < w.heap.size) (fun k h => Or.inl h))
      replace HB := hide (((unhide HB).alloc (unhide HB).size _).trans (hk.below (fun k h => Or.inl h)))
      clear h hk
      go_wp2_with fail
      refine (reax _ (A2 2) _ _ (unhide HH) 2).mono ?_
      rintro e w4 ⟨rfl, hb⟩
      rw [unhide HRL, unhide HRE]
      replace HB := hide ((unhide HB).trans (hb.mono (unhide HB).size))
      have hs := hide (unhide HB).size
      clear hb HH
      go_wp2_with (refine alloc_rg rfl 45 rfl al45 ?_)
      intro W HX hb
      replace HX := hide HX
      replace HB := hide ((unhide HB).trans (hb.mono (unhide HB).size))
      clear hb
      generalize w4.heap.size = b8 at *
      go_wp2_with (refine store_all rfl 45 _ _ rfl (unhide HX) rfl rfl size45 (by rw [List.size_toArray, byv_len, zs_len]) (unhide hrl3) (one_byv _) ?_)
      intro W2 HX2 hb
      replace HB := hide ((unhide HB).trans (hb.below (fun k e => by rw [e]; exact unhide hs) (unhide HB).size))
      have c0 : W2.cell? ⟨b8, 0, none⟩ = some (.int .u8 ((0 : Nat) : Int)) := HX2.rg 0 _ rfl
      clear HX2 hb HX
      have hi := ix58_2
      go_wp2_with fail
      go_roundw
      case rel => exact ⟨2 + 1, by omega, by first | rfl | go_num, HB⟩
      case measure => simp [intOf]
      

    | 3, _ =>
      go_wp2_with fail
      refine (syn_nil _).mono ?_
      rintro e w2 ⟨rfl, hb⟩
      replace HB := hide (below_via (unhide HB) hb)
      clear hb
      go_wp2_with fail
      refine (siz_nil _).mono ?_
      rintro e w3 ⟨rfl, e1⟩
      rw [e1]
      clear e1 w3
      go_wp2_with fail
      go_ret
      exact ⟨rfl, unhide HB⟩
end Go.Proofs.Ytdbefnghljjieaa
