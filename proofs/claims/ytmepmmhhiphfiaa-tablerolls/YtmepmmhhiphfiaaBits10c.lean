/- The reference's small, a case. -/
import Derived.Test.YtmepmmhhiphfiaaBits10
namespace Go.Proofs.Ytmepmmhhiphfiaa
open Go.RowKit
set_option linter.unusedSimpArgs false
set_option maxRecDepth 20000 in
set_option maxHeartbeats 4000000 in
theorem small_min (f : Nat → Nat) (hf : Bit f) (hv : val f 260 = 9223372036854775808) (w : World) : Calls Try.prog 59 #[.agg (gv true f)] w fun e w' => e = .returned (.tuple #[.int .i64 (-(val f 260 : Int)), .bool true]) ∧ Below w.heap.size w w' := by
  have hz4 := zero54
  have HF := hide hf
  clear hf
  obtain ⟨V, s1, r1, b1, hs1⟩ := bits_start (w.alloc (.cells (gv true f) 84)) (upd zb 63 1)
  rw [← bv_tl1] at s1
  have hg := GRow.new w true f
  replace hg := hide (hg.keep b1 (by simp))
  replace b1 := hide (below_via ((Below.refl _ _).alloc (Nat.le_refl _) _) b1)
  replace r1 := hide r1
  have hsz : (w.alloc (.cells (gv true f) 84)).heap.size = w.heap.size + 1 := by simp
  rw [hsz] at s1 r1
  clear hs1 hsz
  have gs := bv_size zb
  have HV := hide hv
  have HO := hide (show ord (val f 260 : Int) ((P2 63 : Nat) : Int) = 0 by rw [P2_63]; exact (by rw [hv]; exact ord_same _))
  clear hv
  go_enter Try.func59, Try.ntmps59
  go_wp2_with fail
  clear s1
  refine wp_loadB (unhide hg) rfl rfl ?_
  go_wp2_with fail
  refine wp_load54 (unhide r1) rfl rfl ?_
  go_wp2_with fail
  refine (size_any f (upd zb 63 1) (unhide HF) (lim_bit 63) _).mono ?_
  rintro e w2 ⟨rfl, hb2⟩
  replace hg := hide ((unhide hg).keep hb2 (unhide hg).lt)
  replace b1 := hide (below_via (unhide b1) hb2)
  clear hb2 r1 gs hz4
  rw [val_lim (by omega), unhide HO]
  clear HO
  have cl := (unhide hg).less
  go_wp2_with fail
  go_loopw [6, 7] (fun n i wr => ∃ k : Nat, k ≤ 64 ∧ i = .int .i64 k ∧ n = .int .u64 (val f k : Nat) ∧ Hid (GRow wr w.heap.size true f) ∧ Hid (Below w.heap.size w wr)) (fun _ i _ => 64 - (intOf i).toNat)
  case atStart => exact ⟨0, by omega, rfl, rfl, hg, b1⟩
  case round =>
    obtain ⟨k, hk, rfl, rfl, hg, b1⟩ := hrel
    by_cases hlt : k < 64
    · have ck := (unhide hg).cell (i := k) (by omega)
      have hfk := unhide HF k
      go_wp2_with fail
      go_roundw
      case rel => exact ⟨k + 1, by omega, by go_num, by rw [or_bit (unhide HF) hlt], hg, b1⟩
      case measure => simp [intOf]; omega
    · obtain rfl : k = 64 := by omega
      have cl := (unhide hg).less
      have hr := hide (show wrap64 (IntKind.u64.wrap (-(val f 64 : Nat))) = (-(val f 260 : Int)) by have h := unhide HV; rw [val_64 (by omega)]; rw [IntKind.wrap_u64]; unfold wrap64; omega)
      go_wp2_with fail
      go_ret2
      exact ⟨by rw [← unhide hr]; rfl, unhide b1⟩
end Go.Proofs.Ytmepmmhhiphfiaa
