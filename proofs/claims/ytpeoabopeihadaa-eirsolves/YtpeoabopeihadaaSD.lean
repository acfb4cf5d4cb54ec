/- The reference's small. -/
import Derived.Test.YtpeoabopeihadaaSC
import Derived.Test.YtpeoabopeihadaaSTri
set_option linter.unusedVariables false
set_option linter.unusedSimpArgs false
set_option linter.unusedSectionVars false
namespace Go.Proofs.Ytpeoabopeihadaa
open Go.RowKit
attribute [local simp] Tri.typeInfo Tri.sizeOf Tri.underlying Tri.runUnderlying Tri.isAgg Tri.zeroValue Tri.depth Tri.stoodInHeld Tri.eqGuardType Tri.call15 Tri.call14 Tri.call16 Tri.call17 Tri.call18 Tri.call19 Tri.call20 Tri.call46 Tri.call49 Tri.call50 Tri.call51 Tri.call52 Tri.call53 Tri.call54 Tri.call55 Tri.call65 Tri.call95 Tri.call106 Tri.call107 Tri.call108 Tri.call109 Tri.call116 Tri.call117 Tri.call118 Tri.call119 Tri.call120 Tri.call122 Tri.call135 Tri.call136 Tri.call137 Tri.call143 Tri.call144 Tri.call145 Tri.call146 Tri.call147 Tri.call149 Tri.call150 Tri.call151 Tri.call152 Tri.call156 Tri.call157 Tri.call159 Tri.call160 Tri.call161 Tri.call162 Tri.call163 Tri.call164 Tri.call165 Tri.call166 Tri.call167 Tri.call175 Tri.call176 Tri.call178 Tri.call179 Tri.call180 Tri.call181 Tri.call182 Tri.call183 Tri.call186 Tri.call187 Tri.call188 Tri.call204 Tri.call205
theorem bv_tl (k v : Nat) : (bv zb).toList.set k (.int .u8 v) = (bv (upd zb k v)).toList := by
  rw [← bv_set (f := zb) (k := k) (v := v), Array.toList_setIfInBounds]
theorem bits_start (v : World) (g : Nat → Nat) : ∃ V : World, (storeCells ⟨v.heap.size, 0, none⟩ (bv g).toList).run (Tri Try.prog) (v.alloc (.cells (bv zb) 199)) = .ok () V ∧ Row V v.heap.size g ∧ Below v.heap.size v V ∧ V.heap.size = v.heap.size + 1 := by
  have r := Row.new v zb
  have b := (Below.refl v.heap.size v).alloc (Nat.le_refl _) (.cells (bv zb) 199)
  have hs : (v.alloc (.cells (bv zb) 199)).heap.size = v.heap.size + 1 := by simp
  generalize v.alloc (.cells (bv zb) 199) = V at *
  exact ⟨_, store54c g r, r.put g, below_put b (Nat.le_refl _) _, by rw [setRow_size, hs]⟩
theorem lim_bit (k : Nat) : Bit (upd zb k 1) := bit_upd (fun _ => by simp [zb]) (by omega)
theorem val_lim {k : Nat} (hk : k < 260) : val (upd zb k 1) 260 = P2 k := by
  rw [val_put (f := zb) rfl hk, val_zb]
  omega
theorem P2_63 : P2 63 = 9223372036854775808 := by decide +kernel
theorem bv_tl1 (k : Nat) : (bv zb).toList.set k (.int .u8 1) = (bv (upd zb k 1)).toList := bv_tl k 1
theorem P2_npow : ∀ m, P2 m = 2 ^ m
  | 0 => rfl
  | m + 1 => by rw [P2_succ, P2_npow m, Nat.pow_succ]
theorem val_64 {f : Nat → Nat} (h : val f 260 < 18446744073709551616) : val f 64 = val f 260 := by
  have e := val_split f 64 196
  rw [show 64 + 196 = 260 from rfl, P2_64] at e
  have : val (fun j => f (64 + j)) 196 = 0 := by
    rcases Nat.eq_zero_or_pos (val (fun j => f (64 + j)) 196) with z | z
    · exact z
    · omega
  rw [this] at e
  omega
theorem or_bit {f : Nat → Nat} (hf : Bit f) {k : Nat} (hk : k < 64) : bits .or .u64 ((val f k : Nat) : Int) (IntKind.u64.wrap ((f k : Int) * 2 ^ k)) = ((val f (k + 1) : Nat) : Int) := by
  show _ = ((val f k + f k * P2 k : Nat) : Int)
  have hv := val_lt hf k
  have h1 := hf k
  have hm := P2_mono k (64 - k)
  have hm2 := P2_mono (k + 1) (64 - (k + 1))
  rw [show k + (64 - k) = 64 by omega, P2_64] at hm
  rw [show k + 1 + (64 - (k + 1)) = 64 by omega, P2_64, P2_succ] at hm2
  rw [← P2_pow k]
  generalize f k = b at *
  have hw : IntKind.u64.wrap ((b : Int) * (P2 k : Int)) = ((b * P2 k : Nat) : Int) := by
    rw [IntKind.wrap_u64, ← Int.natCast_mul]
    rcases (show b = 0 ∨ b = 1 by omega) with rfl | rfl <;> omega
  rw [hw]
  show IntKind.u64.wrap ((BitVec.ofInt 64 ((val f k : Nat) : Int) ||| BitVec.ofInt 64 ((b * P2 k : Nat) : Int)).toNat : Int) = _
  rw [BitVec.ofInt_natCast, BitVec.ofInt_natCast, BitVec.toNat_or, BitVec.toNat_ofNat, BitVec.toNat_ofNat, IntKind.wrap_u64, Nat.mod_eq_of_lt (a := val f k) (by omega)]
  rcases (show b = 0 ∨ b = 1 by omega) with rfl | rfl
  · rw [Nat.zero_mul, Nat.zero_mod, Nat.or_zero]
    omega
  · rw [Nat.one_mul, Nat.mod_eq_of_lt (by omega), P2_npow k, Nat.or_comm]
    have := Nat.two_pow_add_eq_or_of_lt (i := k) (b := val f k) (by rw [← P2_npow]; exact hv) 1
    rw [Nat.mul_one] at this
    rw [← this, ← P2_npow]
    omega
end Go.Proofs.Ytpeoabopeihadaa
namespace Go.Proofs.Ytpeoabopeihadaa
open Go.RowKit
attribute [local simp] Tri.typeInfo Tri.sizeOf Tri.underlying Tri.runUnderlying Tri.isAgg Tri.zeroValue Tri.depth Tri.stoodInHeld Tri.eqGuardType Tri.call15 Tri.call14 Tri.call16 Tri.call17 Tri.call18 Tri.call19 Tri.call20 Tri.call46 Tri.call49 Tri.call50 Tri.call51 Tri.call52 Tri.call53 Tri.call54 Tri.call55 Tri.call65 Tri.call95 Tri.call106 Tri.call107 Tri.call108 Tri.call109 Tri.call116 Tri.call117 Tri.call118 Tri.call119 Tri.call120 Tri.call122 Tri.call135 Tri.call136 Tri.call137 Tri.call143 Tri.call144 Tri.call145 Tri.call146 Tri.call147 Tri.call149 Tri.call150 Tri.call151 Tri.call152 Tri.call156 Tri.call157 Tri.call159 Tri.call160 Tri.call161 Tri.call162 Tri.call163 Tri.call164 Tri.call165 Tri.call166 Tri.call167 Tri.call175 Tri.call176 Tri.call178 Tri.call179 Tri.call180 Tri.call181 Tri.call182 Tri.call183 Tri.call186 Tri.call187 Tri.call188 Tri.call204 Tri.call205
set_option maxRecDepth 20000 in
set_option maxHeartbeats 4000000 in
theorem small_out (l : Bool) (f : Nat → Nat) (hf : Bit f) (hv : 9223372036854775808 < val f 260) (w : World) : Calls (Tri Try.prog) 183 #[.agg (gv l f)] w fun e w' => e = .returned (.tuple #[.int .i64 0, .bool false]) ∧ Below w.heap.size w w' := by
  have hz4 := zero54
  have HF := hide hf
  clear hf
  obtain ⟨V, s1, r1, b1, hs1⟩ := bits_start (w.alloc (.cells (gv l f) 201)) (upd zb 63 1)
  rw [← bv_tl1] at s1
  have hg := GRow.new w l f
  replace hg := hide (hg.keep b1 (by simp))
  replace b1 := hide (below_via ((Below.refl _ _).alloc (Nat.le_refl _) _) b1)
  replace r1 := hide r1
  have hsz : (w.alloc (.cells (gv l f) 201)).heap.size = w.heap.size + 1 := by simp
  rw [hsz] at s1 r1
  clear hs1 hsz
  have gs := bv_size zb
  have HV := hide hv
  have HO := hide (show ord (val f 260 : Int) ((P2 63 : Nat) : Int) = 1 by rw [P2_63]; exact ord_gt (by omega))
  clear hv
  go_enter (Tri.at (by decide) Try.func183), Try.ntmps183
  go_wp2_with fail
  clear s1
  refine wp_loadB (unhide hg) rfl rfl ?_
  go_wp2_with fail
  refine wp_load54 (unhide r1) rfl rfl ?_
  go_wp2_with fail
  refine (size_any f (upd zb 63 1) (unhide HF) (lim_bit 63) _).mono ?_
  rintro e w2 ⟨rfl, hb2⟩
  replace hg := hide ((unhide hg).keep hb2 (unhide hg).lt)
  replace b1 := hide (below_via (unhide b1) hb2)
  clear hb2 r1 gs hz4
  rw [val_lim (by omega), unhide HO]
  clear HO
  have cl := (unhide hg).less
  go_wp2_with fail
  go_ret2
  exact ⟨rfl, unhide b1⟩
set_option maxRecDepth 20000 in
set_option maxHeartbeats 4000000 in
theorem small_top (f : Nat → Nat) (hf : Bit f) (hv : val f 260 = 9223372036854775808) (w : World) : Calls (Tri Try.prog) 183 #[.agg (gv false f)] w fun e w' => e = .returned (.tuple #[.int .i64 0, .bool false]) ∧ Below w.heap.size w w' := by
  have hz4 := zero54
  have HF := hide hf
  clear hf
  obtain ⟨V, s1, r1, b1, hs1⟩ := bits_start (w.alloc (.cells (gv false f) 201)) (upd zb 63 1)
  rw [← bv_tl1] at s1
  have hg := GRow.new w false f
  replace hg := hide (hg.keep b1 (by simp))
  replace b1 := hide (below_via ((Below.refl _ _).alloc (Nat.le_refl _) _) b1)
  replace r1 := hide r1
  have hsz : (w.alloc (.cells (gv false f) 201)).heap.size = w.heap.size + 1 := by simp
  rw [hsz] at s1 r1
  clear hs1 hsz
  have gs := bv_size zb
  have HV := hide hv
  have HO := hide (show ord (val f 260 : Int) ((P2 63 : Nat) : Int) = 0 by rw [P2_63]; exact (by rw [hv]; exact ord_same _))
  clear hv
  go_enter (Tri.at (by decide) Try.func183), Try.ntmps183
  go_wp2_with fail
  clear s1
  refine wp_loadB (unhide hg) rfl rfl ?_
  go_wp2_with fail
  refine wp_load54 (unhide r1) rfl rfl ?_
  go_wp2_with fail
  refine (size_any f (upd zb 63 1) (unhide HF) (lim_bit 63) _).mono ?_
  rintro e w2 ⟨rfl, hb2⟩
  replace hg := hide ((unhide hg).keep hb2 (unhide hg).lt)
  replace b1 := hide (below_via (unhide b1) hb2)
  clear hb2 r1 gs hz4
  rw [val_lim (by omega), unhide HO]
  clear HO
  have cl := (unhide hg).less
  go_wp2_with fail
  go_ret2
  exact ⟨rfl, unhide b1⟩
end Go.Proofs.Ytpeoabopeihadaa
namespace Go.Proofs.Ytpeoabopeihadaa
open Go.RowKit
attribute [local simp] Tri.typeInfo Tri.sizeOf Tri.underlying Tri.runUnderlying Tri.isAgg Tri.zeroValue Tri.depth Tri.stoodInHeld Tri.eqGuardType Tri.call15 Tri.call14 Tri.call16 Tri.call17 Tri.call18 Tri.call19 Tri.call20 Tri.call46 Tri.call49 Tri.call50 Tri.call51 Tri.call52 Tri.call53 Tri.call54 Tri.call55 Tri.call65 Tri.call95 Tri.call106 Tri.call107 Tri.call108 Tri.call109 Tri.call116 Tri.call117 Tri.call118 Tri.call119 Tri.call120 Tri.call122 Tri.call135 Tri.call136 Tri.call137 Tri.call143 Tri.call144 Tri.call145 Tri.call146 Tri.call147 Tri.call149 Tri.call150 Tri.call151 Tri.call152 Tri.call156 Tri.call157 Tri.call159 Tri.call160 Tri.call161 Tri.call162 Tri.call163 Tri.call164 Tri.call165 Tri.call166 Tri.call167 Tri.call175 Tri.call176 Tri.call178 Tri.call179 Tri.call180 Tri.call181 Tri.call182 Tri.call183 Tri.call186 Tri.call187 Tri.call188 Tri.call204 Tri.call205
set_option maxRecDepth 20000 in
set_option maxHeartbeats 4000000 in
theorem small_neg (f : Nat → Nat) (hf : Bit f) (hv : val f 260 < 9223372036854775808) (w : World) : Calls (Tri Try.prog) 183 #[.agg (gv true f)] w fun e w' => e = .returned (.tuple #[.int .i64 (-(val f 260 : Int)), .bool true]) ∧ Below w.heap.size w w' := by
  have hz4 := zero54
  have HF := hide hf
  clear hf
  obtain ⟨V, s1, r1, b1, hs1⟩ := bits_start (w.alloc (.cells (gv true f) 201)) (upd zb 63 1)
  rw [← bv_tl1] at s1
  have hg := GRow.new w true f
  replace hg := hide (hg.keep b1 (by simp))
  replace b1 := hide (below_via ((Below.refl _ _).alloc (Nat.le_refl _) _) b1)
  replace r1 := hide r1
  have hsz : (w.alloc (.cells (gv true f) 201)).heap.size = w.heap.size + 1 := by simp
  rw [hsz] at s1 r1
  clear hs1 hsz
  have gs := bv_size zb
  have HV := hide hv
  have HO := hide (show ord (val f 260 : Int) ((P2 63 : Nat) : Int) = (-1) by rw [P2_63]; exact ord_lt (by omega))
  clear hv
  go_enter (Tri.at (by decide) Try.func183), Try.ntmps183
  go_wp2_with fail
  clear s1
  refine wp_loadB (unhide hg) rfl rfl ?_
  go_wp2_with fail
  refine wp_load54 (unhide r1) rfl rfl ?_
  go_wp2_with fail
  refine (size_any f (upd zb 63 1) (unhide HF) (lim_bit 63) _).mono ?_
  rintro e w2 ⟨rfl, hb2⟩
  replace hg := hide ((unhide hg).keep hb2 (unhide hg).lt)
  replace b1 := hide (below_via (unhide b1) hb2)
  clear hb2 r1 gs hz4
  rw [val_lim (by omega), unhide HO]
  clear HO
  have cl := (unhide hg).less
  go_wp2_with fail
  go_loopw [6, 7] (fun n i wr => ∃ k : Nat, k ≤ 64 ∧ i = .int .i64 k ∧ n = .int .u64 (val f k : Nat) ∧ Hid (GRow wr w.heap.size true f) ∧ Hid (Below w.heap.size w wr)) (fun _ i _ => 64 - (intOf i).toNat)
  case atStart => exact ⟨0, by omega, rfl, rfl, hg, b1⟩
  case round =>
    obtain ⟨k, hk, rfl, rfl, hg, b1⟩ := hrel
    by_cases hlt : k < 64
    · have ck := (unhide hg).cell (i := k) (by omega)
      have hfk := unhide HF k
      go_wp2_with fail
      go_roundw
      case rel => exact ⟨k + 1, by omega, by go_num, by rw [or_bit (unhide HF) hlt], hg, b1⟩
      case measure => simp [intOf]; omega
    · obtain rfl : k = 64 := by omega
      have cl := (unhide hg).less
      have hr := hide (show wrap64 (IntKind.u64.wrap (-(val f 64 : Nat))) = (-(val f 260 : Int)) by have h := unhide HV; rw [val_64 (by omega)]; rw [IntKind.wrap_u64]; unfold wrap64; omega)
      go_wp2_with fail
      go_ret2
      exact ⟨by rw [← unhide hr]; rfl, unhide b1⟩
end Go.Proofs.Ytpeoabopeihadaa
namespace Go.Proofs.Ytpeoabopeihadaa
open Go.RowKit
attribute [local simp] Tri.typeInfo Tri.sizeOf Tri.underlying Tri.runUnderlying Tri.isAgg Tri.zeroValue Tri.depth Tri.stoodInHeld Tri.eqGuardType Tri.call15 Tri.call14 Tri.call16 Tri.call17 Tri.call18 Tri.call19 Tri.call20 Tri.call46 Tri.call49 Tri.call50 Tri.call51 Tri.call52 Tri.call53 Tri.call54 Tri.call55 Tri.call65 Tri.call95 Tri.call106 Tri.call107 Tri.call108 Tri.call109 Tri.call116 Tri.call117 Tri.call118 Tri.call119 Tri.call120 Tri.call122 Tri.call135 Tri.call136 Tri.call137 Tri.call143 Tri.call144 Tri.call145 Tri.call146 Tri.call147 Tri.call149 Tri.call150 Tri.call151 Tri.call152 Tri.call156 Tri.call157 Tri.call159 Tri.call160 Tri.call161 Tri.call162 Tri.call163 Tri.call164 Tri.call165 Tri.call166 Tri.call167 Tri.call175 Tri.call176 Tri.call178 Tri.call179 Tri.call180 Tri.call181 Tri.call182 Tri.call183 Tri.call186 Tri.call187 Tri.call188 Tri.call204 Tri.call205
set_option maxRecDepth 20000 in
set_option maxHeartbeats 4000000 in
theorem small_min (f : Nat → Nat) (hf : Bit f) (hv : val f 260 = 9223372036854775808) (w : World) : Calls (Tri Try.prog) 183 #[.agg (gv true f)] w fun e w' => e = .returned (.tuple #[.int .i64 (-(val f 260 : Int)), .bool true]) ∧ Below w.heap.size w w' := by
  have hz4 := zero54
  have HF := hide hf
  clear hf
  obtain ⟨V, s1, r1, b1, hs1⟩ := bits_start (w.alloc (.cells (gv true f) 201)) (upd zb 63 1)
  rw [← bv_tl1] at s1
  have hg := GRow.new w true f
  replace hg := hide (hg.keep b1 (by simp))
  replace b1 := hide (below_via ((Below.refl _ _).alloc (Nat.le_refl _) _) b1)
  replace r1 := hide r1
  have hsz : (w.alloc (.cells (gv true f) 201)).heap.size = w.heap.size + 1 := by simp
  rw [hsz] at s1 r1
  clear hs1 hsz
  have gs := bv_size zb
  have HV := hide hv
  have HO := hide (show ord (val f 260 : Int) ((P2 63 : Nat) : Int) = 0 by rw [P2_63]; exact (by rw [hv]; exact ord_same _))
  clear hv
  go_enter (Tri.at (by decide) Try.func183), Try.ntmps183
  go_wp2_with fail
  clear s1
  refine wp_loadB (unhide hg) rfl rfl ?_
  go_wp2_with fail
  refine wp_load54 (unhide r1) rfl rfl ?_
  go_wp2_with fail
  refine (size_any f (upd zb 63 1) (unhide HF) (lim_bit 63) _).mono ?_
  rintro e w2 ⟨rfl, hb2⟩
  replace hg := hide ((unhide hg).keep hb2 (unhide hg).lt)
  replace b1 := hide (below_via (unhide b1) hb2)
  clear hb2 r1 gs hz4
  rw [val_lim (by omega), unhide HO]
  clear HO
  have cl := (unhide hg).less
  go_wp2_with fail
  go_loopw [6, 7] (fun n i wr => ∃ k : Nat, k ≤ 64 ∧ i = .int .i64 k ∧ n = .int .u64 (val f k : Nat) ∧ Hid (GRow wr w.heap.size true f) ∧ Hid (Below w.heap.size w wr)) (fun _ i _ => 64 - (intOf i).toNat)
  case atStart => exact ⟨0, by omega, rfl, rfl, hg, b1⟩
  case round =>
    obtain ⟨k, hk, rfl, rfl, hg, b1⟩ := hrel
    by_cases hlt : k < 64
    · have ck := (unhide hg).cell (i := k) (by omega)
      have hfk := unhide HF k
      go_wp2_with fail
      go_roundw
      case rel => exact ⟨k + 1, by omega, by go_num, by rw [or_bit (unhide HF) hlt], hg, b1⟩
      case measure => simp [intOf]; omega
    · obtain rfl : k = 64 := by omega
      have cl := (unhide hg).less
      have hr := hide (show wrap64 (IntKind.u64.wrap (-(val f 64 : Nat))) = (-(val f 260 : Int)) by have h := unhide HV; rw [val_64 (by omega)]; rw [IntKind.wrap_u64]; unfold wrap64; omega)
      go_wp2_with fail
      go_ret2
      exact ⟨by rw [← unhide hr]; rfl, unhide b1⟩
end Go.Proofs.Ytpeoabopeihadaa
namespace Go.Proofs.Ytpeoabopeihadaa
open Go.RowKit
attribute [local simp] Tri.typeInfo Tri.sizeOf Tri.underlying Tri.runUnderlying Tri.isAgg Tri.zeroValue Tri.depth Tri.stoodInHeld Tri.eqGuardType Tri.call15 Tri.call14 Tri.call16 Tri.call17 Tri.call18 Tri.call19 Tri.call20 Tri.call46 Tri.call49 Tri.call50 Tri.call51 Tri.call52 Tri.call53 Tri.call54 Tri.call55 Tri.call65 Tri.call95 Tri.call106 Tri.call107 Tri.call108 Tri.call109 Tri.call116 Tri.call117 Tri.call118 Tri.call119 Tri.call120 Tri.call122 Tri.call135 Tri.call136 Tri.call137 Tri.call143 Tri.call144 Tri.call145 Tri.call146 Tri.call147 Tri.call149 Tri.call150 Tri.call151 Tri.call152 Tri.call156 Tri.call157 Tri.call159 Tri.call160 Tri.call161 Tri.call162 Tri.call163 Tri.call164 Tri.call165 Tri.call166 Tri.call167 Tri.call175 Tri.call176 Tri.call178 Tri.call179 Tri.call180 Tri.call181 Tri.call182 Tri.call183 Tri.call186 Tri.call187 Tri.call188 Tri.call204 Tri.call205
set_option maxRecDepth 20000 in
set_option maxHeartbeats 4000000 in
theorem small_pos (f : Nat → Nat) (hf : Bit f) (hv : val f 260 < 9223372036854775808) (w : World) : Calls (Tri Try.prog) 183 #[.agg (gv false f)] w fun e w' => e = .returned (.tuple #[.int .i64 (val f 260 : Int), .bool true]) ∧ Below w.heap.size w w' := by
  have hz4 := zero54
  have HF := hide hf
  clear hf
  obtain ⟨V, s1, r1, b1, hs1⟩ := bits_start (w.alloc (.cells (gv false f) 201)) (upd zb 63 1)
  rw [← bv_tl1] at s1
  have hg := GRow.new w false f
  replace hg := hide (hg.keep b1 (by simp))
  replace b1 := hide (below_via ((Below.refl _ _).alloc (Nat.le_refl _) _) b1)
  replace r1 := hide r1
  have hsz : (w.alloc (.cells (gv false f) 201)).heap.size = w.heap.size + 1 := by simp
  rw [hsz] at s1 r1
  clear hs1 hsz
  have gs := bv_size zb
  have HV := hide hv
  have HO := hide (show ord (val f 260 : Int) ((P2 63 : Nat) : Int) = (-1) by rw [P2_63]; exact ord_lt (by omega))
  clear hv
  go_enter (Tri.at (by decide) Try.func183), Try.ntmps183
  go_wp2_with fail
  clear s1
  refine wp_loadB (unhide hg) rfl rfl ?_
  go_wp2_with fail
  refine wp_load54 (unhide r1) rfl rfl ?_
  go_wp2_with fail
  refine (size_any f (upd zb 63 1) (unhide HF) (lim_bit 63) _).mono ?_
  rintro e w2 ⟨rfl, hb2⟩
  replace hg := hide ((unhide hg).keep hb2 (unhide hg).lt)
  replace b1 := hide (below_via (unhide b1) hb2)
  clear hb2 r1 gs hz4
  rw [val_lim (by omega), unhide HO]
  clear HO
  have cl := (unhide hg).less
  go_wp2_with fail
  go_loopw [6, 7] (fun n i wr => ∃ k : Nat, k ≤ 64 ∧ i = .int .i64 k ∧ n = .int .u64 (val f k : Nat) ∧ Hid (GRow wr w.heap.size false f) ∧ Hid (Below w.heap.size w wr)) (fun _ i _ => 64 - (intOf i).toNat)
  case atStart => exact ⟨0, by omega, rfl, rfl, hg, b1⟩
  case round =>
    obtain ⟨k, hk, rfl, rfl, hg, b1⟩ := hrel
    by_cases hlt : k < 64
    · have ck := (unhide hg).cell (i := k) (by omega)
      have hfk := unhide HF k
      go_wp2_with fail
      go_roundw
      case rel => exact ⟨k + 1, by omega, by go_num, by rw [or_bit (unhide HF) hlt], hg, b1⟩
      case measure => simp [intOf]; omega
    · obtain rfl : k = 64 := by omega
      have cl := (unhide hg).less
      have hr := hide (show wrap64 (val f 64 : Nat) = (val f 260 : Int) by have h := unhide HV; rw [val_64 (by omega)]; unfold wrap64; omega)
      go_wp2_with fail
      go_ret2
      exact ⟨by rw [← unhide hr]; rfl, unhide b1⟩
end Go.Proofs.Ytpeoabopeihadaa
namespace Go.Proofs.Ytpeoabopeihadaa
open Go.RowKit
attribute [local simp] Tri.typeInfo Tri.sizeOf Tri.underlying Tri.runUnderlying Tri.isAgg Tri.zeroValue Tri.depth Tri.stoodInHeld Tri.eqGuardType Tri.call15 Tri.call14 Tri.call16 Tri.call17 Tri.call18 Tri.call19 Tri.call20 Tri.call46 Tri.call49 Tri.call50 Tri.call51 Tri.call52 Tri.call53 Tri.call54 Tri.call55 Tri.call65 Tri.call95 Tri.call106 Tri.call107 Tri.call108 Tri.call109 Tri.call116 Tri.call117 Tri.call118 Tri.call119 Tri.call120 Tri.call122 Tri.call135 Tri.call136 Tri.call137 Tri.call143 Tri.call144 Tri.call145 Tri.call146 Tri.call147 Tri.call149 Tri.call150 Tri.call151 Tri.call152 Tri.call156 Tri.call157 Tri.call159 Tri.call160 Tri.call161 Tri.call162 Tri.call163 Tri.call164 Tri.call165 Tri.call166 Tri.call167 Tri.call175 Tri.call176 Tri.call178 Tri.call179 Tri.call180 Tri.call181 Tri.call182 Tri.call183 Tri.call186 Tri.call187 Tri.call188 Tri.call204 Tri.call205
def sgn (l : Bool) (V : Nat) : Int := if l = true then -(V : Int) else V
theorem small_any (l : Bool) (f : Nat → Nat) (hf : Bit f) (w : World) : Calls (Tri Try.prog) 183 #[.agg (gv l f)] w fun e w' => e = .returned (.tuple #[.int .i64 (okN (sgn l (val f 260))), .bool (decide (turn (sgn l (val f 260)) = 0))]) ∧ Below w.heap.size w w' := by
  have hin : ∀ n : Int, In64 n → okN n = n ∧ decide (turn n = 0) = true := fun n h => ⟨okN_in (turn_in h), decide_eq_true (turn_in h)⟩
  have hout : ∀ n : Int, ¬ In64 n → okN n = 0 ∧ decide (turn n = 0) = false := fun n h => ⟨okN_out (fun t => h (in_of_turn t)), decide_eq_false (fun t => h (in_of_turn t))⟩
  by_cases h1 : 9223372036854775808 < val f 260
  · obtain ⟨e1, e2⟩ := hout (sgn l (val f 260)) (fun h => by
      have a := h.lo
      have b := h.hi
      cases l <;> simp [sgn] at a b <;> omega)
    rw [e1, e2]
    exact small_out l f hf h1 w
  · cases l with
    | true =>
      obtain ⟨e1, e2⟩ := hin (sgn true (val f 260)) (by unfold sgn; rw [if_pos rfl]; exact ⟨by omega, by omega⟩)
      rw [e1, e2]
      unfold sgn
      rw [if_pos rfl]
      by_cases h2 : val f 260 = 9223372036854775808
      · exact small_min f hf h2 w
      · exact small_neg f hf (by omega) w
    | false =>
      by_cases h2 : val f 260 = 9223372036854775808
      · obtain ⟨e1, e2⟩ := hout (sgn false (val f 260)) (fun h => by
          have b := h.hi
          unfold sgn at b
          rw [if_neg (by decide)] at b
          omega)
        rw [e1, e2]
        exact small_top f hf h2 w
      · obtain ⟨e1, e2⟩ := hin (sgn false (val f 260)) (by unfold sgn; rw [if_neg (by decide)]; exact ⟨by omega, by omega⟩)
        rw [e1, e2]
        unfold sgn
        rw [if_neg (by decide)]
        exact small_pos f hf (by omega) w
end Go.Proofs.Ytpeoabopeihadaa
