/- A number laid open as bits: big. -/
import Derived.Test.YtpeoabopeihadaaSB
import Derived.Test.YtpeoabopeihadaaSTri
set_option linter.unusedVariables false
set_option linter.unusedSimpArgs false
set_option linter.unusedSectionVars false
namespace Go.Proofs.Ytpeoabopeihadaa
open Go.RowKit
attribute [local simp] Tri.typeInfo Tri.sizeOf Tri.underlying Tri.runUnderlying Tri.isAgg Tri.zeroValue Tri.depth Tri.stoodInHeld Tri.eqGuardType Tri.call15 Tri.call14 Tri.call16 Tri.call17 Tri.call18 Tri.call19 Tri.call20 Tri.call46 Tri.call49 Tri.call50 Tri.call51 Tri.call52 Tri.call53 Tri.call54 Tri.call55 Tri.call65 Tri.call95 Tri.call106 Tri.call107 Tri.call108 Tri.call109 Tri.call116 Tri.call117 Tri.call118 Tri.call119 Tri.call120 Tri.call122 Tri.call135 Tri.call136 Tri.call137 Tri.call143 Tri.call144 Tri.call145 Tri.call146 Tri.call147 Tri.call149 Tri.call150 Tri.call151 Tri.call152 Tri.call156 Tri.call157 Tri.call159 Tri.call160 Tri.call161 Tri.call162 Tri.call163 Tri.call164 Tri.call165 Tri.call166 Tri.call167 Tri.call175 Tri.call176 Tri.call178 Tri.call179 Tri.call180 Tri.call181 Tri.call182 Tri.call183 Tri.call186 Tri.call187 Tri.call188 Tri.call204 Tri.call205
theorem big_start (w : World) (x : Array Value) (t : TypeId) (l : Bool) : GRow (((w.alloc (.cells x t)).alloc (.cells (gv false zb) 201)).alloc (.cells ((gv false zb).setIfInBounds 0 (.bool l)) 201)) (w.heap.size + 1) false zb ∧
    GRow (((w.alloc (.cells x t)).alloc (.cells (gv false zb) 201)).alloc (.cells ((gv false zb).setIfInBounds 0 (.bool l)) 201)) (w.heap.size + 1 + 1) l zb ∧
    Below w.heap.size w (((w.alloc (.cells x t)).alloc (.cells (gv false zb) 201)).alloc (.cells ((gv false zb).setIfInBounds 0 (.bool l)) 201)) ∧
    (((w.alloc (.cells x t)).alloc (.cells (gv false zb) 201)).alloc (.cells ((gv false zb).setIfInBounds 0 (.bool l)) 201)).heap[w.heap.size]? = some (.cells x t (0, 0)) := by
  rw [gv_less]
  have h0 := heap_alloc_new w (.cells x t)
  have hb := (Below.refl w.heap.size w).alloc (Nat.le_refl _) (.cells x t)
  have hs : (w.alloc (.cells x t)).heap.size = w.heap.size + 1 := by simp
  generalize w.alloc (.cells x t) = W at *
  have g1 := GRow.new W false zb
  have hs1 : (W.alloc (.cells (gv false zb) 201)).heap.size = W.heap.size + 1 := by simp
  have h1 := (Below.heap_alloc W (.cells (gv false zb) 201) w.heap.size (by omega)).trans h0
  have hb1 := hb.alloc (by omega) (.cells (gv false zb) 201)
  generalize W.alloc (.cells (gv false zb) 201) = V at *
  have g2 := GRow.new V l zb
  rw [hs1, hs] at g2
  rw [hs] at g1
  exact ⟨g1.alloc _, g2, hb1.alloc (by omega) _, (Below.heap_alloc V _ w.heap.size (by omega)).trans h1⟩
theorem and_one_u (n : Int) : bits .and .u64 n 1 = n % 2 := by
  show IntKind.u64.wrap ((BitVec.ofInt 64 n &&& BitVec.ofInt 64 1).toNat : Int) = n % 2
  rw [BitVec.toNat_and, show (BitVec.ofInt 64 1).toNat = 1 from by decide, Nat.and_one_is_mod, BitVec.toNat_ofInt, IntKind.wrap_u64]
  omega
theorem and_one_i (n : Int) : bits .and .i64 n 1 = n % 2 := by
  show IntKind.i64.wrap ((BitVec.ofInt 64 n &&& BitVec.ofInt 64 1).toNat : Int) = n % 2
  rw [BitVec.toNat_and, show (BitVec.ofInt 64 1).toNat = 1 from by decide, Nat.and_one_is_mod, BitVec.toNat_ofInt, IntKind.wrap_i64]
  omega
theorem P2_pow : ∀ m, ((P2 m : Nat) : Int) = 2 ^ m
  | 0 => rfl
  | m + 1 => by rw [P2_succ, Int.natCast_mul, P2_pow m, Int.pow_succ]; rfl
theorem P2_pos (m : Nat) : 0 < P2 m := Nat.lt_of_lt_of_le (show 0 < P2 0 by show 0 < 1; omega) (by have := P2_mono 0 m; rwa [Nat.zero_add] at this)
theorem P2_add (a : Nat) : ∀ b, P2 (a + b) = P2 a * P2 b
  | 0 => by show P2 a = P2 a * 1; omega
  | b + 1 => by show P2 (a + b) * 2 = P2 a * (P2 b * 2); rw [P2_add a b, Nat.mul_assoc]
theorem P2_64 : P2 64 = 18446744073709551616 := by decide +kernel
theorem val_bits (n : Int) : ∀ m, ((val (fun j => (n / 2 ^ j % 2).toNat) m : Nat) : Int) = n % (P2 m : Int)
  | 0 => by show (0 : Int) = n % 1; omega
  | m + 1 => by
    show ((val (fun j => (n / 2 ^ j % 2).toNat) m + (n / 2 ^ m % 2).toNat * P2 m : Nat) : Int) = n % ((P2 m * 2 : Nat) : Int)
    rw [Int.natCast_add, val_bits n m, Int.natCast_mul, Int.natCast_mul, ← P2_pow m]
    have hp := P2_pos m
    generalize P2 m = p at *
    have e1 : n % (p : Int) + (p : Int) * (n / (p : Int)) = n := Int.emod_add_mul_ediv n p
    have r0 := Int.emod_nonneg n (show (p : Int) ≠ 0 by omega)
    have r1 := Int.emod_lt_of_pos n (show 0 < (p : Int) by omega)
    generalize hq : n / (p : Int) = q at *
    generalize n % (p : Int) = r at *
    have e2 : q % 2 + 2 * (q / 2) = q := Int.emod_add_mul_ediv q 2
    have b0 := Int.emod_nonneg q (show (2 : Int) ≠ 0 by omega)
    have b1 := Int.emod_lt_of_pos q (show (0 : Int) < 2 by omega)
    generalize q % 2 = b at *
    generalize q / 2 = t at *
    have hbn : (b.toNat : Int) = b := Int.toNat_of_nonneg b0
    have e3 : n = (r + b * p) + (p : Int) * 2 * t := by
      rw [← e1, ← e2, Int.mul_add, Int.mul_comm b p, Int.mul_assoc]
      omega
    rw [hbn, show ((2 : Nat) : Int) = 2 from rfl, e3, Int.add_mul_emod_self_left]
    symm
    refine Int.emod_eq_of_lt ?_ ?_
    · rcases (show b = 0 ∨ b = 1 by omega) with rfl | rfl
      · show 0 ≤ r + 0 * (p : Int); omega
      · show 0 ≤ r + 1 * (p : Int); omega
    · rcases (show b = 0 ∨ b = 1 by omega) with rfl | rfl
      · show r + 0 * (p : Int) < (p : Int) * 2; omega
      · show r + 1 * (p : Int) < (p : Int) * 2; omega
theorem val_split (f : Nat → Nat) (a : Nat) : ∀ b, val f (a + b) = val f a + P2 a * val (fun j => f (a + j)) b
  | 0 => by show val f a = val f a + P2 a * 0; omega
  | b + 1 => by
    show val f (a + b) + f (a + b) * P2 (a + b) = val f a + P2 a * (val (fun j => f (a + j)) b + f (a + b) * P2 b)
    rw [val_split f a b, P2_add, Nat.mul_add, Nat.mul_left_comm (P2 a) (f (a + b)) (P2 b)]
    omega
def ub (H L : Int) (k : Nat) : Nat := if k < 64 then (L / 2 ^ k % 2).toNat else (H / 2 ^ (k - 64) % 2).toNat
theorem ub_lo {H L : Int} {k : Nat} (h : k < 64) : bits .and .u64 (L / 2 ^ k) 1 = (ub H L k : Int) := by
  rw [and_one_u]; unfold ub; rw [if_pos h]; omega
theorem ub_hi {H L : Int} {k : Nat} (h : ¬ k < 64) : bits .and .i64 (H / 2 ^ (k - 64)) 1 = (ub H L k : Int) := by
  rw [and_one_i]; unfold ub; rw [if_neg h]; omega
theorem ub_bit (H L : Int) : Bit (ub H L) := by
  intro k
  unfold ub
  split <;> omega
theorem val_ub {H L : Int} (h0 : 0 ≤ L) (h1 : L < 18446744073709551616) : ((val (ub H L) 128 : Nat) : Int) = L + 18446744073709551616 * (H % 18446744073709551616) := by
  rw [val_split (ub H L) 64 64, Int.natCast_add, Int.natCast_mul,
    val_congr (f := ub H L) (g := fun j => (L / 2 ^ j % 2).toNat) (n := 64) (fun i hi => by unfold ub; rw [if_pos hi]),
    val_congr (f := fun j => ub H L (64 + j)) (g := fun j => (H / 2 ^ j % 2).toNat) (n := 64) (fun i hi => by show ub H L (64 + i) = _; unfold ub; rw [if_neg (by omega), Nat.add_sub_cancel_left]),
    val_bits, val_bits, P2_64]
  show L % 18446744073709551616 + 18446744073709551616 * (H % 18446744073709551616) = _
  omega
theorem val_top0 {f : Nat → Nat} {k : Nat} (h : ∀ j, k ≤ j → f j = 0) : ∀ m, val f (k + m) = val f k
  | 0 => rfl
  | m + 1 => by show val f (k + m) + f (k + m) * P2 (k + m) = val f k; rw [val_top0 h m, h _ (by omega)]; omega
theorem neg_step {u h : Nat → Nat} {k c b d : Nat} (H : val h k + val u k = c * P2 k) (e : c + b + u k = 2 * d) : val (upd h k b) (k + 1) + val u (k + 1) = d * P2 (k + 1) := by
  rw [val_upd]
  show val h k + b * P2 k + (val u k + u k * P2 k) = d * (P2 k * 2)
  have e2 : (c + b + u k) * P2 k = 2 * d * P2 k := by rw [e]
  rw [Nat.add_mul, Nat.add_mul] at e2
  rw [show d * (P2 k * 2) = 2 * d * P2 k by rw [Nat.mul_comm (P2 k) 2, ← Nat.mul_assoc, Nat.mul_comm d 2]]
  omega
theorem pos_step {u h : Nat → Nat} {k b : Nat} (H : val h k = val u k) (e : b = u k) : val (upd h k b) (k + 1) = val u (k + 1) := by
  rw [val_upd, H, e]
  rfl
theorem zero_step {h : Nat → Nat} {k b : Nat} (H : ∀ j, k ≤ j → h j = 0) : ∀ j, k + 1 ≤ j → upd h k b j = 0 := by
  intro j hj
  unfold upd
  rw [if_neg (by omega)]
  exact H j (by omega)
set_option maxRecDepth 20000 in
set_option maxHeartbeats 4000000 in
theorem big_neg (H L : Int) (hH : decide (H < 0) = true) (w : World) : Calls (Tri Try.prog) 178 #[.agg #[.int .i64 H, .int .u64 L]] w fun e w' => (∃ f, (Bit f ∧ ∃ c, c ≤ 1 ∧ val f 260 + val (ub H L) 128 = c * P2 128) ∧ e = .returned (.agg (gv true f))) ∧ Below w.heap.size w w' := by
  have hz := zero56
  have g0 := gv_zero false zb
  go_enter (Tri.at (by decide) Try.func178), Try.ntmps178
  go_wp2_with fail
  go_loopw [4, 5] (fun cr i wr => ∃ (k c : Nat) (h : Nat → Nat), k ≤ 128 ∧ i = .int .i64 k ∧ cr = .int .u8 c ∧ c ≤ 1 ∧ Hid (Bit h) ∧ Hid (∀ j, k ≤ j → h j = 0) ∧ Hid (val h k + val (ub H L) k = c * P2 k) ∧ Hid (wr.heap[w.heap.size]? = some (.cells #[.int .i64 H, .int .u64 L] 215 (0, 0))) ∧ Hid (∃ l u, GRow wr (w.heap.size + 1) l u) ∧ Hid (GRow wr (w.heap.size + 1 + 1) true h) ∧ Hid (Below w.heap.size w wr)) (fun _ i _ => 128 - (intOf i).toNat)
  case atStart =>
    obtain ⟨a, b, c, d⟩ := big_start w #[.int .i64 H, .int .u64 L] 215 true
    exact ⟨0, 0, zb, by omega, rfl, rfl, by omega, hide (fun _ => by simp [zb]), hide (fun _ _ => rfl), hide rfl, hide d, hide ⟨_, _, a⟩, hide b, hide c⟩
  case round =>
    obtain ⟨k, c, h, hk, rfl, rfl, hc, HH, HZ, HV, R0, R1, R2, HB⟩ := hrel
    have cH : wr.cell? ⟨w.heap.size, 0, none⟩ = some (.int .i64 H) := cell_of_row wr _ 0 _ _ _ (unhide R0)
    have cL : wr.cell? ⟨w.heap.size, 1, none⟩ = some (.int .u64 L) := cell_of_row wr _ 1 _ _ _ (unhide R0)
    have cs := (unhide R2).less
    by_cases hlt : k < 128
    · have ck := (unhide R2).cell (i := k) (by omega)
      have fk := (unhide R2).frozen (1 + k)
      have HS := hide (fun (b d : Nat) => neg_step (u := ub H L) (h := h) (k := k) (c := c) (b := b) (d := d) (unhide HV))
      have hub := ub_bit H L k
      generalize h k = z at *
      by_cases h64 : k < 64
      · have hbit := ub_lo (H := H) (L := L) h64
        generalize ub H L k = y at *
        have hy : y = 0 ∨ y = 1 := by omega
        have hc' : c = 0 ∨ c = 1 := by omega
        clear hub hc HV
        rcases hy with rfl | rfl <;> rcases hc' with rfl | rfl
        · go_wp2_with fail
          go_roundw
          case rel => exact ⟨k + 1, 0, upd h k 0, by omega, by go_num, rfl, by omega, hide (bit_upd (unhide HH) (by omega)), hide (zero_step (unhide HZ)), hide (unhide HS 0 0 (by omega)), hide ((heap_setCell_other wr _ w.heap.size _ (by show w.heap.size ≠ w.heap.size + 1 + 1; omega)).trans (unhide R0)), hide ((unhide R1).imp fun _ e => e.imp fun _ r => r.other (by show w.heap.size + 1 ≠ w.heap.size + 1 + 1; omega) _), hide ((unhide R2).set k 0), hide ((unhide HB).setCell (by show w.heap.size ≤ w.heap.size + 1 + 1; omega) _)⟩
          case measure => simp [intOf]; omega
        · go_wp2_with fail
          go_roundw
          case rel => exact ⟨k + 1, 1, upd h k 1, by omega, by go_num, rfl, by omega, hide (bit_upd (unhide HH) (by omega)), hide (zero_step (unhide HZ)), hide (unhide HS 1 1 (by omega)), hide ((heap_setCell_other wr _ w.heap.size _ (by show w.heap.size ≠ w.heap.size + 1 + 1; omega)).trans (unhide R0)), hide ((unhide R1).imp fun _ e => e.imp fun _ r => r.other (by show w.heap.size + 1 ≠ w.heap.size + 1 + 1; omega) _), hide ((unhide R2).set k 1), hide ((unhide HB).setCell (by show w.heap.size ≤ w.heap.size + 1 + 1; omega) _)⟩
          case measure => simp [intOf]; omega
        · go_wp2_with fail
          go_roundw
          case rel => exact ⟨k + 1, 1, upd h k 1, by omega, by go_num, rfl, by omega, hide (bit_upd (unhide HH) (by omega)), hide (zero_step (unhide HZ)), hide (unhide HS 1 1 (by omega)), hide ((heap_setCell_other wr _ w.heap.size _ (by show w.heap.size ≠ w.heap.size + 1 + 1; omega)).trans (unhide R0)), hide ((unhide R1).imp fun _ e => e.imp fun _ r => r.other (by show w.heap.size + 1 ≠ w.heap.size + 1 + 1; omega) _), hide ((unhide R2).set k 1), hide ((unhide HB).setCell (by show w.heap.size ≤ w.heap.size + 1 + 1; omega) _)⟩
          case measure => simp [intOf]; omega
        · go_wp2_with fail
          go_roundw
          case rel => exact ⟨k + 1, 1, upd h k 0, by omega, by go_num, rfl, by omega, hide (bit_upd (unhide HH) (by omega)), hide (zero_step (unhide HZ)), hide (unhide HS 0 1 (by omega)), hide ((heap_setCell_other wr _ w.heap.size _ (by show w.heap.size ≠ w.heap.size + 1 + 1; omega)).trans (unhide R0)), hide ((unhide R1).imp fun _ e => e.imp fun _ r => r.other (by show w.heap.size + 1 ≠ w.heap.size + 1 + 1; omega) _), hide ((unhide R2).set k 0), hide ((unhide HB).setCell (by show w.heap.size ≤ w.heap.size + 1 + 1; omega) _)⟩
          case measure => simp [intOf]; omega
      · have hbit := ub_hi (H := H) (L := L) h64
        generalize ub H L k = y at *
        have hy : y = 0 ∨ y = 1 := by omega
        have hc' : c = 0 ∨ c = 1 := by omega
        clear hub hc HV
        rcases hy with rfl | rfl <;> rcases hc' with rfl | rfl
        · go_wp2_with fail
          go_roundw
          case rel => exact ⟨k + 1, 0, upd h k 0, by omega, by go_num, rfl, by omega, hide (bit_upd (unhide HH) (by omega)), hide (zero_step (unhide HZ)), hide (unhide HS 0 0 (by omega)), hide ((heap_setCell_other wr _ w.heap.size _ (by show w.heap.size ≠ w.heap.size + 1 + 1; omega)).trans (unhide R0)), hide ((unhide R1).imp fun _ e => e.imp fun _ r => r.other (by show w.heap.size + 1 ≠ w.heap.size + 1 + 1; omega) _), hide ((unhide R2).set k 0), hide ((unhide HB).setCell (by show w.heap.size ≤ w.heap.size + 1 + 1; omega) _)⟩
          case measure => simp [intOf]; omega
        · go_wp2_with fail
          go_roundw
          case rel => exact ⟨k + 1, 1, upd h k 1, by omega, by go_num, rfl, by omega, hide (bit_upd (unhide HH) (by omega)), hide (zero_step (unhide HZ)), hide (unhide HS 1 1 (by omega)), hide ((heap_setCell_other wr _ w.heap.size _ (by show w.heap.size ≠ w.heap.size + 1 + 1; omega)).trans (unhide R0)), hide ((unhide R1).imp fun _ e => e.imp fun _ r => r.other (by show w.heap.size + 1 ≠ w.heap.size + 1 + 1; omega) _), hide ((unhide R2).set k 1), hide ((unhide HB).setCell (by show w.heap.size ≤ w.heap.size + 1 + 1; omega) _)⟩
          case measure => simp [intOf]; omega
        · go_wp2_with fail
          go_roundw
          case rel => exact ⟨k + 1, 1, upd h k 1, by omega, by go_num, rfl, by omega, hide (bit_upd (unhide HH) (by omega)), hide (zero_step (unhide HZ)), hide (unhide HS 1 1 (by omega)), hide ((heap_setCell_other wr _ w.heap.size _ (by show w.heap.size ≠ w.heap.size + 1 + 1; omega)).trans (unhide R0)), hide ((unhide R1).imp fun _ e => e.imp fun _ r => r.other (by show w.heap.size + 1 ≠ w.heap.size + 1 + 1; omega) _), hide ((unhide R2).set k 1), hide ((unhide HB).setCell (by show w.heap.size ≤ w.heap.size + 1 + 1; omega) _)⟩
          case measure => simp [intOf]; omega
        · go_wp2_with fail
          go_roundw
          case rel => exact ⟨k + 1, 1, upd h k 0, by omega, by go_num, rfl, by omega, hide (bit_upd (unhide HH) (by omega)), hide (zero_step (unhide HZ)), hide (unhide HS 0 1 (by omega)), hide ((heap_setCell_other wr _ w.heap.size _ (by show w.heap.size ≠ w.heap.size + 1 + 1; omega)).trans (unhide R0)), hide ((unhide R1).imp fun _ e => e.imp fun _ r => r.other (by show w.heap.size + 1 ≠ w.heap.size + 1 + 1; omega) _), hide ((unhide R2).set k 0), hide ((unhide HB).setCell (by show w.heap.size ≤ w.heap.size + 1 + 1; omega) _)⟩
          case measure => simp [intOf]; omega
    · obtain rfl : k = 128 := by omega
      obtain ⟨m, v, R1'⟩ := unhide R1
      have HP := hide (show Bit h ∧ ∃ c, c ≤ 1 ∧ val h 260 + val (ub H L) 128 = c * P2 128 from ⟨unhide HH, c, hc, by rw [show (260 : Nat) = 128 + 132 from rfl, val_top0 (unhide HZ)]; exact unhide HV⟩)
      have hst := store56c true h R1'
      have Rr := hide (R1'.put (m := true) h)
      have HB2 := hide (below_put (unhide HB) (b := w.heap.size + 1) (by omega) (gv true h))
      clear HV R1 R1' cH cL cs
      go_wp2_with fail
      refine wp_load56 (unhide R2) rfl rfl ?_
      go_wp2_with fail
      refine bodyPost_ret (v := .agg (gv true h)) (results56 rfl _ rfl (unhide Rr)) rfl ⟨⟨h, unhide HP, rfl⟩, unhide HB2⟩
set_option maxRecDepth 20000 in
set_option maxHeartbeats 4000000 in
theorem big_pos (H L : Int) (hH : decide (H < 0) = false) (w : World) : Calls (Tri Try.prog) 178 #[.agg #[.int .i64 H, .int .u64 L]] w fun e w' => (∃ f, (Bit f ∧ ∃ c, c ≤ 1 ∧ val f 260 = val (ub H L) 128) ∧ e = .returned (.agg (gv false f))) ∧ Below w.heap.size w w' := by
  have hz := zero56
  have g0 := gv_zero false zb
  go_enter (Tri.at (by decide) Try.func178), Try.ntmps178
  go_wp2_with fail
  go_loopw [4, 5] (fun cr i wr => ∃ (k c : Nat) (h : Nat → Nat), k ≤ 128 ∧ i = .int .i64 k ∧ cr = .int .u8 c ∧ c ≤ 0 ∧ Hid (Bit h) ∧ Hid (∀ j, k ≤ j → h j = 0) ∧ Hid (val h k = val (ub H L) k) ∧ Hid (wr.heap[w.heap.size]? = some (.cells #[.int .i64 H, .int .u64 L] 215 (0, 0))) ∧ Hid (∃ l u, GRow wr (w.heap.size + 1) l u) ∧ Hid (GRow wr (w.heap.size + 1 + 1) false h) ∧ Hid (Below w.heap.size w wr)) (fun _ i _ => 128 - (intOf i).toNat)
  case atStart =>
    obtain ⟨a, b, c, d⟩ := big_start w #[.int .i64 H, .int .u64 L] 215 false
    exact ⟨0, 0, zb, by omega, rfl, rfl, by omega, hide (fun _ => by simp [zb]), hide (fun _ _ => rfl), hide rfl, hide d, hide ⟨_, _, a⟩, hide b, hide c⟩
  case round =>
    obtain ⟨k, c, h, hk, rfl, rfl, hc, HH, HZ, HV, R0, R1, R2, HB⟩ := hrel
    have cH : wr.cell? ⟨w.heap.size, 0, none⟩ = some (.int .i64 H) := cell_of_row wr _ 0 _ _ _ (unhide R0)
    have cL : wr.cell? ⟨w.heap.size, 1, none⟩ = some (.int .u64 L) := cell_of_row wr _ 1 _ _ _ (unhide R0)
    have cs := (unhide R2).less
    by_cases hlt : k < 128
    · have ck := (unhide R2).cell (i := k) (by omega)
      have fk := (unhide R2).frozen (1 + k)
      have HS := hide (fun (b : Nat) => pos_step (u := ub H L) (h := h) (k := k) (b := b) (unhide HV))
      have hub := ub_bit H L k
      generalize h k = z at *
      by_cases h64 : k < 64
      · have hbit := ub_lo (H := H) (L := L) h64
        generalize ub H L k = y at *
        have hy : y = 0 ∨ y = 1 := by omega
        have hc' : c = 0 := by omega
        clear hub hc HV
        rcases hy with rfl | rfl <;> rcases hc' with rfl
        · go_wp2_with fail
          go_roundw
          case rel => exact ⟨k + 1, 0, upd h k 0, by omega, by go_num, rfl, by omega, hide (bit_upd (unhide HH) (by omega)), hide (zero_step (unhide HZ)), hide (unhide HS 0 rfl), hide ((heap_setCell_other wr _ w.heap.size _ (by show w.heap.size ≠ w.heap.size + 1 + 1; omega)).trans (unhide R0)), hide ((unhide R1).imp fun _ e => e.imp fun _ r => r.other (by show w.heap.size + 1 ≠ w.heap.size + 1 + 1; omega) _), hide ((unhide R2).set k 0), hide ((unhide HB).setCell (by show w.heap.size ≤ w.heap.size + 1 + 1; omega) _)⟩
          case measure => simp [intOf]; omega
        · go_wp2_with fail
          go_roundw
          case rel => exact ⟨k + 1, 0, upd h k 1, by omega, by go_num, rfl, by omega, hide (bit_upd (unhide HH) (by omega)), hide (zero_step (unhide HZ)), hide (unhide HS 1 rfl), hide ((heap_setCell_other wr _ w.heap.size _ (by show w.heap.size ≠ w.heap.size + 1 + 1; omega)).trans (unhide R0)), hide ((unhide R1).imp fun _ e => e.imp fun _ r => r.other (by show w.heap.size + 1 ≠ w.heap.size + 1 + 1; omega) _), hide ((unhide R2).set k 1), hide ((unhide HB).setCell (by show w.heap.size ≤ w.heap.size + 1 + 1; omega) _)⟩
          case measure => simp [intOf]; omega
      · have hbit := ub_hi (H := H) (L := L) h64
        generalize ub H L k = y at *
        have hy : y = 0 ∨ y = 1 := by omega
        have hc' : c = 0 := by omega
        clear hub hc HV
        rcases hy with rfl | rfl <;> rcases hc' with rfl
        · go_wp2_with fail
          go_roundw
          case rel => exact ⟨k + 1, 0, upd h k 0, by omega, by go_num, rfl, by omega, hide (bit_upd (unhide HH) (by omega)), hide (zero_step (unhide HZ)), hide (unhide HS 0 rfl), hide ((heap_setCell_other wr _ w.heap.size _ (by show w.heap.size ≠ w.heap.size + 1 + 1; omega)).trans (unhide R0)), hide ((unhide R1).imp fun _ e => e.imp fun _ r => r.other (by show w.heap.size + 1 ≠ w.heap.size + 1 + 1; omega) _), hide ((unhide R2).set k 0), hide ((unhide HB).setCell (by show w.heap.size ≤ w.heap.size + 1 + 1; omega) _)⟩
          case measure => simp [intOf]; omega
        · go_wp2_with fail
          go_roundw
          case rel => exact ⟨k + 1, 0, upd h k 1, by omega, by go_num, rfl, by omega, hide (bit_upd (unhide HH) (by omega)), hide (zero_step (unhide HZ)), hide (unhide HS 1 rfl), hide ((heap_setCell_other wr _ w.heap.size _ (by show w.heap.size ≠ w.heap.size + 1 + 1; omega)).trans (unhide R0)), hide ((unhide R1).imp fun _ e => e.imp fun _ r => r.other (by show w.heap.size + 1 ≠ w.heap.size + 1 + 1; omega) _), hide ((unhide R2).set k 1), hide ((unhide HB).setCell (by show w.heap.size ≤ w.heap.size + 1 + 1; omega) _)⟩
          case measure => simp [intOf]; omega
    · obtain rfl : k = 128 := by omega
      obtain ⟨m, v, R1'⟩ := unhide R1
      have HP := hide (show Bit h ∧ ∃ c, c ≤ 1 ∧ val h 260 = val (ub H L) 128 from ⟨unhide HH, 0, by omega, by rw [show (260 : Nat) = 128 + 132 from rfl, val_top0 (unhide HZ)]; exact unhide HV⟩)
      have hst := store56c false h R1'
      have Rr := hide (R1'.put (m := false) h)
      have HB2 := hide (below_put (unhide HB) (b := w.heap.size + 1) (by omega) (gv false h))
      clear HV R1 R1' cH cL cs
      go_wp2_with fail
      refine wp_load56 (unhide R2) rfl rfl ?_
      go_wp2_with fail
      refine bodyPost_ret (v := .agg (gv false h)) (results56 rfl _ rfl (unhide Rr)) rfl ⟨⟨h, unhide HP, rfl⟩, unhide HB2⟩
def Big (X : Int) (l : Bool) (f : Nat → Nat) : Prop := Bit f ∧ l = decide (X < 0) ∧ val f 260 = X.natAbs
theorem P2_128 : P2 128 = 340282366920938463463374607431768211456 := by decide +kernel
theorem big_any (X : Int) (hX : In128 X) (w : World) : Calls (Tri Try.prog) 178 #[.agg #[.int .i64 (hi X), .int .u64 (lo X)]] w fun e w' => (∃ l f, Big X l f ∧ e = .returned (.agg (gv l f))) ∧ Below w.heap.size w w' := by
  have hv := val_ub (H := hi X) (L := lo X) (by unfold lo; omega) (by unfold lo; omega)
  have hb := hi_bd X
  have e := hilo hX
  have l0 : 0 ≤ lo X := by unfold lo; omega
  have l1 : lo X < 18446744073709551616 := by unfold lo; omega
  generalize hi X = H at *
  generalize lo X = L at *
  by_cases hH : H < 0
  · refine (big_neg H L (decide_eq_true hH) w).mono ?_
    rintro z w' ⟨⟨f, ⟨hf, c, hc, hs⟩, rfl⟩, hB⟩
    refine ⟨⟨true, f, ⟨hf, (decide_eq_true (by omega)).symm, ?_⟩, rfl⟩, hB⟩
    rw [P2_128] at hs
    rcases (show c = 0 ∨ c = 1 by omega) with rfl | rfl
    · omega
    · omega
  · refine (big_pos H L (decide_eq_false hH) w).mono ?_
    rintro z w' ⟨⟨f, ⟨hf, c, hc, hs⟩, rfl⟩, hB⟩
    refine ⟨⟨false, f, ⟨hf, (decide_eq_false (by omega)).symm, ?_⟩, rfl⟩, hB⟩
    omega
end Go.Proofs.Ytpeoabopeihadaa
namespace Go.Proofs.Ytpeoabopeihadaa
open Go.RowKit
attribute [local simp] Tri.typeInfo Tri.sizeOf Tri.underlying Tri.runUnderlying Tri.isAgg Tri.zeroValue Tri.depth Tri.stoodInHeld Tri.eqGuardType Tri.call15 Tri.call14 Tri.call16 Tri.call17 Tri.call18 Tri.call19 Tri.call20 Tri.call46 Tri.call49 Tri.call50 Tri.call51 Tri.call52 Tri.call53 Tri.call54 Tri.call55 Tri.call65 Tri.call95 Tri.call106 Tri.call107 Tri.call108 Tri.call109 Tri.call116 Tri.call117 Tri.call118 Tri.call119 Tri.call120 Tri.call122 Tri.call135 Tri.call136 Tri.call137 Tri.call143 Tri.call144 Tri.call145 Tri.call146 Tri.call147 Tri.call149 Tri.call150 Tri.call151 Tri.call152 Tri.call156 Tri.call157 Tri.call159 Tri.call160 Tri.call161 Tri.call162 Tri.call163 Tri.call164 Tri.call165 Tri.call166 Tri.call167 Tri.call175 Tri.call176 Tri.call178 Tri.call179 Tri.call180 Tri.call181 Tri.call182 Tri.call183 Tri.call186 Tri.call187 Tri.call188 Tri.call204 Tri.call205
theorem rof_any (n : Int) (h : In64 n) (w : World) : Calls (Tri Try.prog) 179 #[.int .i64 n] w fun e w' => e = .returned (.agg #[.int .i64 (hi n), .int .u64 (lo n)]) ∧ Below w.heap.size w w' := by
  have h1 := h.lo; have h2 := h.hi
  by_cases hn : n < 0
  · have t := decide_eq_true hn
    have e1 := hide (show hi n = -1 by unfold hi wrap64; omega)
    go_enter (Tri.at (by decide) Try.func179), Try.ntmps179
    go_wp2_with fail
    refine bodyPost_ret (v := .agg #[.int .i64 (-1), .int .u64 (IntKind.u64.wrap n)]) (by simp [results, Try.results179, go_sem]) rfl ⟨?_, (Below.refl _ _).alloc (Nat.le_refl _) _⟩
    rw [unhide e1, IntKind.wrap_u64]
    rfl
  · have t := decide_eq_false hn
    have e1 := hide (show hi n = 0 by unfold hi wrap64; omega)
    have e2 := hide (show lo n = n by unfold lo; omega)
    go_enter (Tri.at (by decide) Try.func179), Try.ntmps179
    go_wp2_with fail
    refine bodyPost_ret (v := .agg #[.int .i64 0, .int .u64 n]) (by simp [results, Try.results179, go_sem]) rfl ⟨?_, (Below.refl _ _).alloc (Nat.le_refl _) _⟩
    rw [unhide e1, unhide e2]
theorem cells_block {b : Nat} {t : TypeId} : ∀ (vs : List Value) (o : Nat) (w : World) (c : Array Value), w.heap[b]? = some (.cells c t (0, 0)) → ∃ c' : Array Value, (w.setCells b o vs).heap[b]? = some (.cells c' t (0, 0)) ∧ c'.size = c.size
  | [], _, _, c, h => ⟨c, h, rfl⟩
  | v :: r, o, w, c, h => by
    obtain ⟨c', h', e⟩ := cells_block r (o + 1) (w.setCell ⟨b, o, none⟩ v) _ (Go.heap_setCell_same w b o _ _ v h)
    exact ⟨c', h', by rw [e, Array.size_setIfInBounds]⟩
theorem cells_other {b c : Nat} (hc : c ≠ b) : ∀ (vs : List Value) (o : Nat) (w : World), (w.setCells b o vs).heap[c]? = w.heap[c]?
  | [], _, _ => rfl
  | v :: r, o, w => (cells_other hc r (o + 1) _).trans (heap_setCell_other w _ c v hc)
theorem GRow.range {w : World} {b : Nat} {l : Bool} {f : Nat → Nat} (h : GRow w b l f) : w.rangeAt b 1 (bv f).toList := by
  intro j v hv
  have hj : j < 260 := by
    have := (List.getElem?_eq_some_iff.1 hv).1
    simpa [bv_size] using this
  rw [h.cell hj, ← hv]
  rw [Array.getElem?_toList, bv_get hj]
theorem GRow.there {w : World} {b : Nat} {l : Bool} {f : Nat → Nat} (h : GRow w b l f) : w.there b 1 260 := by
  intro j hj
  exact ⟨by rw [h.cell hj]; rfl, h.frozen _⟩
theorem GRow.setB {w : World} {b : Nat} {l : Bool} {f : Nat → Nat} (h : GRow w b l f) (g : Nat → Nat) : GRow (w.setCells b 1 (bv g).toList) b l g := by
  obtain ⟨c, hc, hs⟩ := cells_block (bv g).toList 1 w _ h
  have hl : (bv g).toList.length = 260 := by simp [bv_size]
  unfold GRow
  rw [hc, gv_ext (l := l) (f := g) (c := c) (by rw [hs, gv_size]) ?_ ?_]
  · rw [← cell_of_row _ b 0 c _ _ hc, World.cell?_setCells_out b _ _ _ _ (fun _ _ => Or.inl (by show 0 < 1; omega))]
    exact h.less
  · intro i hi
    rw [← cell_of_row _ b (1 + i) c _ _ hc, World.cell?_setCells_in b _ _ _ (fun j hj => (h.there j (by omega)).1) i (by omega)]
    have := bv_get (f := g) hi
    rw [← Array.getElem?_toList, List.getElem?_eq_getElem (by omega)] at this
    exact this
theorem GRow.setBOther {w : World} {b c : Nat} {l : Bool} {f : Nat → Nat} (h : GRow w b l f) (hc : b ≠ c) (vs : List Value) (o : Nat) : GRow (w.setCells c o vs) b l f := (cells_other hc vs o w).trans h
theorem storeB {w : World} {b : Nat} {l : Bool} {f : Nat → Nat} (g : Nat → Nat) (h : GRow w b l f) : (storeCells ⟨b, 1, none⟩ (bv g).toList).run (Tri Try.prog) w = .ok () (w.setCells b 1 (bv g).toList) := by
  have hl : (bv g).toList.length = 260 := by simp [bv_size]
  have := run_storeCells_cells (P := (Tri Try.prog)) b 1 (bv g).toList 0 w (fun j hj => by simpa using (h.there j (by omega)).1) (fun j hj => by simpa using (h.there j (by omega)).2)
    (fun v hv => (Array.all_eq_true_iff_forall_mem.1 (bv_all g)) v (by simpa using hv))
  simpa using this
theorem wp_loadB {o : Oper} {a : Act} {w : World} {K : Act → World → Prop} {Q : Exit → Act → World → Prop} {x : Operand} {b : Nat} {l : Bool} {f : Nat → Nat} (hr : GRow w b l f) (ho : o.op = .load 199 x) (hx : a.eval x = .pointer (some ⟨b, 1, none⟩))
    (h : K (a.put o.dst (.agg (bv f))) w) : o.wp (Tri Try.prog) a w K Q :=
  wp_load_mid 199 x ho b 1 hx (bv f).toList _ hr.range (Tri.und Try.underlying199) rfl (by rw [show (bv f).toList.length = (bv f).size by simp]; exact size54 f) (by simpa using h)
def mv (f : Nat → Nat) (i k : Nat) : Nat → Nat := fun j => if i ≤ j ∧ j < i + k then f (j - i) else 0
theorem mv_zero (f : Nat → Nat) (i : Nat) : mv f i 0 = zb := by
  funext j
  unfold mv zb
  rw [if_neg (by omega)]
theorem mv_step (f : Nat → Nat) (i k : Nat) : upd (mv f i k) (k + i) (f k) = mv f i (k + 1) := by
  funext j
  unfold upd mv
  by_cases e : j = k + i
  · subst e
    rw [if_pos rfl, if_pos (by omega), show k + i - i = k by omega]
  · rw [if_neg e]
    by_cases c : i ≤ j ∧ j < i + k
    · rw [if_pos c, if_pos (by omega)]
    · rw [if_neg c, if_neg (by omega)]
theorem mv_bit {f : Nat → Nat} (hf : Bit f) (i k : Nat) : Bit (mv f i k) := by
  intro j
  unfold mv
  split
  · exact hf _
  · omega
theorem val_lo0 {f : Nat → Nat} : ∀ {i : Nat}, (∀ j, j < i → f j = 0) → val f i = 0
  | 0, _ => rfl
  | i + 1, h => by show val f i + f i * P2 i = 0; rw [val_lo0 (fun j hj => h j (by omega)), h i (by omega)]; omega
theorem val_mv (f : Nat → Nat) {i : Nat} (hi : i < 64) : val (mv f i 64) 260 = P2 i * val f 64 := by
  have h1 : val (mv f i 64) 260 = val (mv f i 64) (i + 64) := by
    have := val_top0 (f := mv f i 64) (k := i + 64) (fun j hj => by unfold mv; rw [if_neg (by omega)]) (260 - (i + 64))
    rwa [show i + 64 + (260 - (i + 64)) = 260 by omega] at this
  rw [h1, val_split, val_lo0 (fun j hj => by unfold mv; rw [if_neg (by omega)]), Nat.zero_add,
    val_congr (f := fun j => mv f i 64 (i + j)) (g := f) (n := 64) (fun j hj => by show mv f i 64 (i + j) = f j; unfold mv; rw [if_pos (by omega), Nat.add_sub_cancel_left])]
end Go.Proofs.Ytpeoabopeihadaa
namespace Go.Proofs.Ytpeoabopeihadaa
open Go.RowKit
attribute [local simp] Tri.typeInfo Tri.sizeOf Tri.underlying Tri.runUnderlying Tri.isAgg Tri.zeroValue Tri.depth Tri.stoodInHeld Tri.eqGuardType Tri.call15 Tri.call14 Tri.call16 Tri.call17 Tri.call18 Tri.call19 Tri.call20 Tri.call46 Tri.call49 Tri.call50 Tri.call51 Tri.call52 Tri.call53 Tri.call54 Tri.call55 Tri.call65 Tri.call95 Tri.call106 Tri.call107 Tri.call108 Tri.call109 Tri.call116 Tri.call117 Tri.call118 Tri.call119 Tri.call120 Tri.call122 Tri.call135 Tri.call136 Tri.call137 Tri.call143 Tri.call144 Tri.call145 Tri.call146 Tri.call147 Tri.call149 Tri.call150 Tri.call151 Tri.call152 Tri.call156 Tri.call157 Tri.call159 Tri.call160 Tri.call161 Tri.call162 Tri.call163 Tri.call164 Tri.call165 Tri.call166 Tri.call167 Tri.call175 Tri.call176 Tri.call178 Tri.call179 Tri.call180 Tri.call181 Tri.call182 Tri.call183 Tri.call186 Tri.call187 Tri.call188 Tri.call204 Tri.call205
theorem in128_of {n : Int} (h : In64 n) : In128 n := ⟨by have := h.lo; omega, by have := h.hi; omega⟩
theorem two_big (v : World) (lx : Bool) (fx : Nat → Nat) (ly : Bool) (fy : Nat → Nat) : ∃ W6 W7 : World,
    (storeCells ⟨v.heap.size, 0, none⟩ (gv lx fx).toList).run (Tri Try.prog) ((v.alloc (.cells (gv false zb) 201)).alloc (.cells (gv false zb) 201)) = .ok () W6 ∧
    (storeCells ⟨v.heap.size + 1, 0, none⟩ (gv ly fy).toList).run (Tri Try.prog) W6 = .ok () W7 ∧ GRow W7 v.heap.size lx fx ∧ GRow W7 (v.heap.size + 1) ly fy ∧ Below v.heap.size v W7 ∧ W7.heap.size = v.heap.size + 1 + 1 := by
  have g5 := (GRow.new v false zb).alloc (.cells (gv false zb) 201)
  have g6 := GRow.new (v.alloc (.cells (gv false zb) 201)) false zb
  rw [show (v.alloc (.cells (gv false zb) 201)).heap.size = v.heap.size + 1 by simp] at g6
  have b := ((Below.refl v.heap.size v).alloc (Nat.le_refl _) (.cells (gv false zb) 201)).alloc (by simp) (.cells (gv false zb) 201)
  have hs : ((v.alloc (.cells (gv false zb) 201)).alloc (.cells (gv false zb) 201)).heap.size = v.heap.size + 1 + 1 := by simp
  generalize (v.alloc (.cells (gv false zb) 201)).alloc (.cells (gv false zb) 201) = V at *
  refine ⟨_, _, store56c lx fx g5, store56c ly fy (g6.putOther (by omega) _), ?_, ?_, ?_, ?_⟩
  · exact (g5.put (m := lx) fx).putOther (by omega) _
  · exact (g6.putOther (by omega) _).put (m := ly) fy
  · exact below_put (below_put b (by omega) _) (by omega) _
  · rw [setRow_size, setRow_size, hs]
theorem gv_tl (m : Bool) : (gv false zb).toList.set 0 (.bool m) = (gv m zb).toList := by
  rw [← gv_less (l := false) (m := m) (f := zb), Array.toList_setIfInBounds]
structure TR (w : World) (n : Nat) (wr : World) (lx : Bool) (fx : Nat → Nat) (ly : Bool) (fy : Nat → Nat) (sg : Bool) (h : Nat → Nat) : Prop where
  rx : GRow wr n lx fx
  ry : GRow wr (n + 1) ly fy
  ro : GRow wr (n + 1 + 1) sg h
  rr : ∃ l u, GRow wr w.heap.size l u
  lt : w.heap.size < n
  below : Below w.heap.size w wr
theorem TR.keep {w wr w2 : World} {n : Nat} {lx ly sg : Bool} {fx fy h : Nat → Nat} (t : TR w n wr lx fx ly fy sg h) (hb : Below wr.heap.size wr w2) : TR w n w2 lx fx ly fy sg h :=
  ⟨t.rx.keep hb t.rx.lt, t.ry.keep hb t.ry.lt, t.ro.keep hb t.ro.lt, t.rr.imp fun _ e => e.imp fun _ r => r.keep hb r.lt, t.lt, below_via t.below hb⟩
theorem TR.alloc {w wr : World} {n : Nat} {lx ly sg : Bool} {fx fy h : Nat → Nat} (t : TR w n wr lx fx ly fy sg h) (o : Obj) : TR w n (wr.alloc o) lx fx ly fy sg h := t.keep ((Below.refl _ _).alloc (Nat.le_refl _) o)
theorem TR.set {w wr : World} {n : Nat} {lx ly sg : Bool} {fx fy h : Nat → Nat} (t : TR w n wr lx fx ly fy sg h) {a : Addr} (ha : n + 1 + 1 < a.block) (v : Value) : TR w n (wr.setCell a v) lx fx ly fy sg h :=
  ⟨t.rx.other (by omega) _, t.ry.other (by omega) _, t.ro.other (by omega) _, t.rr.imp fun _ e => e.imp fun _ r => r.other (by have := t.lt; omega) _, t.lt, t.below.setCell (by have := t.lt; omega) _⟩
theorem TR.setB {w wr : World} {n : Nat} {lx ly sg : Bool} {fx fy h : Nat → Nat} (t : TR w n wr lx fx ly fy sg h) (g : Nat → Nat) : TR w n (wr.setCells (n + 1 + 1) 1 (bv g).toList) lx fx ly fy sg g :=
  ⟨t.rx.setBOther (by omega) _ _, t.ry.setBOther (by omega) _ _, t.ro.setB g, t.rr.imp fun _ e => e.imp fun _ r => r.setBOther (by have := t.lt; omega) _ _, t.lt, below_cells (by have := t.lt; omega) _ _ _ t.below⟩
theorem out_start (v : World) (sg : Bool) : ∃ V : World, (storeCells ⟨v.heap.size, 0, none⟩ ((gv false zb).toList.set 0 (.bool sg))).run (Tri Try.prog) (v.alloc (.cells (gv false zb) 201)) = .ok () V ∧ GRow V v.heap.size sg zb ∧ Below v.heap.size v V := by
  have g := GRow.new v false zb
  have b := (Below.refl v.heap.size v).alloc (Nat.le_refl _) (.cells (gv false zb) 201)
  generalize v.alloc (.cells (gv false zb) 201) = V at *
  rw [gv_tl]
  exact ⟨_, store56c sg zb g, g.put (m := sg) zb, below_put b (Nat.le_refl _) _⟩
def Prod (A : Nat) (fy h : Nat → Nat) (k : Nat) : Prop := Bit h ∧ val h 260 = A * val fy k
theorem Prod.start (A : Nat) (fy : Nat → Nat) : Prod A fy zb 0 := ⟨fun _ => by simp [zb], by rw [val_zb]; show 0 = A * 0; omega⟩
theorem Prod.skip {A : Nat} {fy h : Nat → Nat} {k : Nat} (p : Prod A fy h k) (h0 : fy k = 0) : Prod A fy h (k + 1) := ⟨p.1, by rw [p.2]; show A * val fy k = A * (val fy k + fy k * P2 k); rw [h0, Nat.zero_mul, Nat.add_zero]⟩
theorem small_260 : 340282366920938463463374607431768211456 ≤ P2 260 := by
  have := P2_mono 128 132
  rwa [P2_128] at this
theorem Prod.more {A : Nat} {fx fy h h2 : Nat → Nat} {k : Nat} (hk : k < 64) (hf : Bit fy) (hA : A ≤ 9223372036854775808) (hx : val fx 64 = A) (p : Prod A fy h k) (h1 : fy k = 1) (q : Plus h (mv fx k 64) h2) : Prod A fy h2 (k + 1) := by
  obtain ⟨hb, c, hc, e⟩ := q
  have v1 := val_lt hf k
  have v2 := val_lt hf (k + 1)
  have m1 := P2_mono (k + 1) (64 - (k + 1))
  rw [show k + 1 + (64 - (k + 1)) = 64 by omega, P2_64] at m1
  have e1 : val fy (k + 1) = val fy k + 1 * P2 k := by show val fy k + fy k * P2 k = _; rw [h1]
  rw [p.2, val_mv fx hk, hx, Nat.mul_comm (P2 k) A, ← Nat.mul_add, show val fy k + P2 k = val fy (k + 1) by omega] at e
  have m2 : A * val fy (k + 1) ≤ 9223372036854775808 * 18446744073709551616 := Nat.mul_le_mul hA (by omega)
  have s := small_260
  refine ⟨hb, ?_⟩
  rcases (show c = 0 ∨ c = 1 by omega) with rfl | rfl
  · omega
  · omega
theorem big_64 {a : Int} {l : Bool} {f : Nat → Nat} (ha : In64 a) (h : Big a l f) : val f 64 = a.natAbs ∧ a.natAbs ≤ 9223372036854775808 := by
  obtain ⟨hb, _, hv⟩ := h
  have h1 := ha.lo
  have h2 := ha.hi
  have hn : a.natAbs ≤ 9223372036854775808 := by omega
  refine ⟨?_, hn⟩
  have e := val_split f 64 196
  rw [show 64 + 196 = 260 from rfl, hv, P2_64] at e
  have : val (fun j => f (64 + j)) 196 = 0 := by
    rcases Nat.eq_zero_or_pos (val (fun j => f (64 + j)) 196) with z | z
    · exact z
    · omega
  rw [this] at e
  omega
def Times (a b : Int) (l : Bool) (f : Nat → Nat) : Prop := Bit f ∧ l = (decide (a < 0) != decide (b < 0)) ∧ val f 260 = a.natAbs * b.natAbs
set_option maxRecDepth 20000 in
set_option maxHeartbeats 4000000 in
theorem times_any (a b : Int) (ha : In64 a) (hb : In64 b) (w : World) : Calls (Tri Try.prog) 167 #[.int .i64 a, .int .i64 b] w fun e w' => (∃ l f, Times a b l f ∧ e = .returned (.agg (gv l f))) ∧ Below w.heap.size w w' := by
  have hz := zero56
  have hz4 := zero54
  have HA := hide ha
  have HB := hide hb
  clear ha hb
  go_enter (Tri.at (by decide) Try.func167), Try.ntmps167
  go_wp2_with fail
  refine (rof_any a (unhide HA) _).mono ?_
  rintro e w1 ⟨rfl, hb1⟩
  have R := (GRow.new w false zb).keep hb1 (by simp)
  have B := below_via ((Below.refl _ _).alloc (Nat.le_refl _) _) hb1
  replace R := hide R
  replace B := hide B
  clear hb1
  go_wp2_with fail
  refine (big_any a (in128_of (unhide HA)) _).mono ?_
  rintro e w2 ⟨⟨lx, fx, hX, rfl⟩, hb2⟩
  replace R := hide ((unhide R).keep hb2 (unhide R).lt)
  replace B := hide (below_via (unhide B) hb2)
  replace hX := hide hX
  clear hb2
  go_wp2_with fail
  refine (rof_any b (unhide HB) _).mono ?_
  rintro e w3 ⟨rfl, hb3⟩
  replace R := hide ((unhide R).keep hb3 (unhide R).lt)
  replace B := hide (below_via (unhide B) hb3)
  clear hb3
  go_wp2_with fail
  refine (big_any b (in128_of (unhide HB)) _).mono ?_
  rintro e w4 ⟨⟨ly, fy, hY, rfl⟩, hb4⟩
  replace R := hide ((unhide R).keep hb4 (unhide R).lt)
  replace B := hide (below_via (unhide B) hb4)
  replace hY := hide hY
  clear hb4
  obtain ⟨W6, W7, s5, s6, gx, gy, bw, hs⟩ := two_big w4 lx fx ly fy
  obtain ⟨W8, s8, g8, b8⟩ := out_start W7 (!(lx == ly))
  rw [hs] at s8 g8
  have hgs := gv_size false zb
  have cx := gx.less
  have cy := gy.less
  have HT := hide (show TR w w4.heap.size W8 lx fx ly fy (!(lx == ly)) zb from ⟨gx.keep b8 gx.lt, gy.keep b8 gy.lt, g8, ⟨_, _, ((unhide R).keep bw (unhide R).lt).keep b8 (Nat.lt_of_lt_of_le (unhide R).lt bw.size)⟩, (unhide R).lt, below_via (below_via (unhide B) bw) b8⟩)
  have HP := hide (Prod.start a.natAbs fy)
  replace gx := hide gx
  replace gy := hide gy
  clear R B bw b8 g8
  go_wp2_with fail
  clear s5 s6 s8 cx cy gx gy hs
  go_loopw [8] (fun i wr => ∃ (k : Nat) (h : Nat → Nat), k ≤ 64 ∧ i = .int .i64 k ∧ Hid (Prod a.natAbs fy h k) ∧ Hid (TR w w4.heap.size wr lx fx ly fy (!(lx == ly)) h)) (fun i _ => 64 - (intOf i).toNat)
  case atStart => exact ⟨0, zb, by omega, rfl, HP, HT⟩
  case round =>
    obtain ⟨k, h, hk, rfl, HP, HT⟩ := hrel
    by_cases hlt : k < 64
    · have ck := (unhide HT).ry.cell (i := k) (by omega)
      have hyk := (unhide hY).1 k
      have HF := hide (fun (e : fy k = 0) => (unhide HP).skip e)
      have HG := hide (fun (e : fy k = 1) (h2 : Nat → Nat) (q : Plus h (mv fx k 64) h2) => (unhide HP).more hlt (unhide hY).1 (big_64 (unhide HA) (unhide hX)).2 (big_64 (unhide HA) (unhide hX)).1 e q)
      generalize fy k = y at *
      have hy : y = 0 ∨ y = 1 := by omega
      clear hyk
      rcases hy with rfl | rfl
      · go_wp2_with fail
        go_roundw
        case rel => exact ⟨k + 1, h, by omega, by go_num, hide (unhide HF rfl), HT⟩
        case measure => simp [intOf]; omega
      · obtain ⟨b9, hb9⟩ : ∃ b9, wr.heap.size = b9 := ⟨_, rfl⟩
        have h9 : w4.heap.size + 1 + 1 < b9 := by rw [← hb9]; exact (unhide HT).ro.lt
        have HT2 := hide ((unhide HT).alloc (.cells (bv zb) 199))
        have HR2 := hide (show Row (wr.alloc (.cells (bv zb) 199)) b9 (mv fx k 0) by rw [mv_zero, ← hb9]; exact Row.new wr zb)
        go_wp2_with fail
        clear ck hb9
        go_loopw [10] (fun i wr' => ∃ m : Nat, m ≤ 64 ∧ i = .int .i64 m ∧ Hid (Row wr' b9 (mv fx k m)) ∧ Hid (TR w w4.heap.size wr' lx fx ly fy (!(lx == ly)) h)) (fun i _ => 64 - (intOf i).toNat)
        case atStart => exact ⟨0, by omega, rfl, HR2, HT2⟩
        case round =>
          obtain ⟨m, hm, rfl, HR3, HT3⟩ := hrel
          by_cases hm2 : m < 64
          · have cx := (unhide HT3).rx.cell (i := m) (by omega)
            have cm := (unhide HR3).cell (i := m + k) (by omega)
            have fm := (unhide HR3).frozen (m + k)
            have hmk : m + k < 260 := by omega
            have HR4 := hide ((unhide HR3).set (m + k) (fx m))
            have HT4 := hide ((unhide HT3).set (a := ⟨b9, m + k, none⟩) h9 (.int .u8 (fx m)))
            rw [mv_step] at HR4
            go_wp2_with fail
            go_roundw
            case rel => exact ⟨m + 1, by omega, by go_num, HR4, HT4⟩
            case measure => simp [intOf]; omega
          · obtain rfl : m = 64 := by omega
            go_wp2_with fail
            refine wp_loadB (unhide HT3).ro rfl rfl ?_
            go_wp2_with fail
            refine wp_load54 (unhide HR3) rfl rfl ?_
            go_wp2_with fail
            refine (plus_any h (mv fx k 64) (unhide HP).1 (mv_bit (unhide hX).1 k 64) _).mono ?_
            rintro e w5 ⟨⟨h2, hP2, rfl⟩, hb5⟩
            have HT5 := (unhide HT3).keep hb5
            have hst := storeB h2 HT5.ro
            have HT6 := hide (HT5.setB h2)
            have HP2 := hide (unhide HG trivial h2 hP2)
            clear hb5 hP2 HT5
            generalize w5.setCells (w4.heap.size + 1 + 1) 1 (bv h2).toList = W9 at *
            go_wp2_with fail
            go_roundw
            case rel => exact ⟨k + 1, h2, by omega, by go_num, HP2, HT6⟩
            case measure => simp [intOf]; omega
    · obtain rfl : k = 64 := by omega
      obtain ⟨l, u, R⟩ := (unhide HT).rr
      have HQ := hide (show Times a b (!(lx == ly)) h from ⟨(unhide HP).1, by rw [(unhide hX).2.1, (unhide hY).2.1]; rfl, by rw [(unhide HP).2, (big_64 (unhide HB) (unhide hY)).1]⟩)
      have hst := store56c (!(lx == ly)) h R
      have Rr := hide (R.put (m := !(lx == ly)) h)
      have HB2 := hide (below_put (unhide HT).below (b := w.heap.size) (Nat.le_refl _) (gv (!(lx == ly)) h))
      clear R HP
      generalize (!(lx == ly)) = sg at *
      go_wp2_with fail
      refine wp_load56 (unhide HT).ro rfl rfl ?_
      go_wp2_with fail
      refine bodyPost_ret (v := .agg (gv sg h)) (results56 rfl _ rfl (unhide Rr)) rfl ⟨⟨sg, h, unhide HQ, rfl⟩, unhide HB2⟩
end Go.Proofs.Ytpeoabopeihadaa
