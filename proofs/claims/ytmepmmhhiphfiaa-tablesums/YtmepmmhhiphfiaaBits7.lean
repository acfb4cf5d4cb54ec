/- A number laid open as bits: big. -/
import Derived.Test.YtmepmmhhiphfiaaBits6
namespace Go.Proofs.Ytmepmmhhiphfiaa
open Go.RowKit
set_option linter.unusedSimpArgs false
theorem big_start (w : World) (x : Array Value) (t : TypeId) (l : Bool) : GRow (((w.alloc (.cells x t)).alloc (.cells (gv false zb) 84)).alloc (.cells ((gv false zb).setIfInBounds 0 (.bool l)) 84)) (w.heap.size + 1) false zb ∧
    GRow (((w.alloc (.cells x t)).alloc (.cells (gv false zb) 84)).alloc (.cells ((gv false zb).setIfInBounds 0 (.bool l)) 84)) (w.heap.size + 1 + 1) l zb ∧
    Below w.heap.size w (((w.alloc (.cells x t)).alloc (.cells (gv false zb) 84)).alloc (.cells ((gv false zb).setIfInBounds 0 (.bool l)) 84)) ∧
    (((w.alloc (.cells x t)).alloc (.cells (gv false zb) 84)).alloc (.cells ((gv false zb).setIfInBounds 0 (.bool l)) 84)).heap[w.heap.size]? = some (.cells x t (0, 0)) := by
  rw [gv_less]
  have h0 := heap_alloc_new w (.cells x t)
  have hb := (Below.refl w.heap.size w).alloc (Nat.le_refl _) (.cells x t)
  have hs : (w.alloc (.cells x t)).heap.size = w.heap.size + 1 := by simp
  generalize w.alloc (.cells x t) = W at *
  have g1 := GRow.new W false zb
  have hs1 : (W.alloc (.cells (gv false zb) 84)).heap.size = W.heap.size + 1 := by simp
  have h1 := (Below.heap_alloc W (.cells (gv false zb) 84) w.heap.size (by omega)).trans h0
  have hb1 := hb.alloc (by omega) (.cells (gv false zb) 84)
  generalize W.alloc (.cells (gv false zb) 84) = V at *
  have g2 := GRow.new V l zb
  rw [hs1, hs] at g2
  rw [hs] at g1
  exact ⟨g1.alloc _, g2, hb1.alloc (by omega) _, (Below.heap_alloc V _ w.heap.size (by omega)).trans h1⟩
theorem and_one_u (n : Int) : bits .and .u64 n 1 = n % 2 := by
  show IntKind.u64.wrap ((BitVec.ofInt 64 n &&& BitVec.ofInt 64 1).toNat : Int) = n % 2
  rw [BitVec.toNat_and, show (BitVec.ofInt 64 1).toNat = 1 from by decide, Nat.and_one_is_mod, BitVec.toNat_ofInt, IntKind.wrap_u64]
  omega
theorem and_one_i (n : Int) : bits .and .i64 n 1 = n % 2 := by
  show IntKind.i64.wrap ((BitVec.ofInt 64 n &&& BitVec.ofInt 64 1).toNat : Int) = n % 2
  rw [BitVec.toNat_and, show (BitVec.ofInt 64 1).toNat = 1 from by decide, Nat.and_one_is_mod, BitVec.toNat_ofInt, IntKind.wrap_i64]
  omega
theorem P2_pow : ∀ m, ((P2 m : Nat) : Int) = 2 ^ m
  | 0 => rfl
  | m + 1 => by rw [P2_succ, Int.natCast_mul, P2_pow m, Int.pow_succ]; rfl
theorem P2_pos (m : Nat) : 0 < P2 m := Nat.lt_of_lt_of_le (show 0 < P2 0 by show 0 < 1; omega) (by have := P2_mono 0 m; rwa [Nat.zero_add] at this)
theorem P2_add (a : Nat) : ∀ b, P2 (a + b) = P2 a * P2 b
  | 0 => by show P2 a = P2 a * 1; omega
  | b + 1 => by show P2 (a + b) * 2 = P2 a * (P2 b * 2); rw [P2_add a b, Nat.mul_assoc]
theorem P2_64 : P2 64 = 18446744073709551616 := by decide +kernel
theorem val_bits (n : Int) : ∀ m, ((val (fun j => (n / 2 ^ j % 2).toNat) m : Nat) : Int) = n % (P2 m : Int)
  | 0 => by show (0 : Int) = n % 1; omega
  | m + 1 => by
    show ((val (fun j => (n / 2 ^ j % 2).toNat) m + (n / 2 ^ m % 2).toNat * P2 m : Nat) : Int) = n % ((P2 m * 2 : Nat) : Int)
    rw [Int.natCast_add, val_bits n m, Int.natCast_mul, Int.natCast_mul, ← P2_pow m]
    have hp := P2_pos m
    generalize P2 m = p at *
    have e1 : n % (p : Int) + (p : Int) * (n / (p : Int)) = n := Int.emod_add_mul_ediv n p
    have r0 := Int.emod_nonneg n (show (p : Int) ≠ 0 by omega)
    have r1 := Int.emod_lt_of_pos n (show 0 < (p : Int) by omega)
    generalize hq : n / (p : Int) = q at *
    generalize n % (p : Int) = r at *
    have e2 : q % 2 + 2 * (q / 2) = q := Int.emod_add_mul_ediv q 2
    have b0 := Int.emod_nonneg q (show (2 : Int) ≠ 0 by omega)
    have b1 := Int.emod_lt_of_pos q (show (0 : Int) < 2 by omega)
    generalize q % 2 = b at *
    generalize q / 2 = t at *
    have hbn : (b.toNat : Int) = b := Int.toNat_of_nonneg b0
    have e3 : n = (r + b * p) + (p : Int) * 2 * t := by
      rw [← e1, ← e2, Int.mul_add, Int.mul_comm b p, Int.mul_assoc]
      omega
    rw [hbn, show ((2 : Nat) : Int) = 2 from rfl, e3, Int.add_mul_emod_self_left]
    symm
    refine Int.emod_eq_of_lt ?_ ?_
    · rcases (show b = 0 ∨ b = 1 by omega) with rfl | rfl
      · show 0 ≤ r + 0 * (p : Int); omega
      · show 0 ≤ r + 1 * (p : Int); omega
    · rcases (show b = 0 ∨ b = 1 by omega) with rfl | rfl
      · show r + 0 * (p : Int) < (p : Int) * 2; omega
      · show r + 1 * (p : Int) < (p : Int) * 2; omega
theorem val_split (f : Nat → Nat) (a : Nat) : ∀ b, val f (a + b) = val f a + P2 a * val (fun j => f (a + j)) b
  | 0 => by show val f a = val f a + P2 a * 0; omega
  | b + 1 => by
    show val f (a + b) + f (a + b) * P2 (a + b) = val f a + P2 a * (val (fun j => f (a + j)) b + f (a + b) * P2 b)
    rw [val_split f a b, P2_add, Nat.mul_add, Nat.mul_left_comm (P2 a) (f (a + b)) (P2 b)]
    omega
def ub (H L : Int) (k : Nat) : Nat := if k < 64 then (L / 2 ^ k % 2).toNat else (H / 2 ^ (k - 64) % 2).toNat
theorem ub_lo {H L : Int} {k : Nat} (h : k < 64) : bits .and .u64 (L / 2 ^ k) 1 = (ub H L k : Int) := by
  rw [and_one_u]; unfold ub; rw [if_pos h]; omega
theorem ub_hi {H L : Int} {k : Nat} (h : ¬ k < 64) : bits .and .i64 (H / 2 ^ (k - 64)) 1 = (ub H L k : Int) := by
  rw [and_one_i]; unfold ub; rw [if_neg h]; omega
theorem ub_bit (H L : Int) : Bit (ub H L) := by
  intro k
  unfold ub
  split <;> omega
theorem val_ub {H L : Int} (h0 : 0 ≤ L) (h1 : L < 18446744073709551616) : ((val (ub H L) 128 : Nat) : Int) = L + 18446744073709551616 * (H % 18446744073709551616) := by
  rw [val_split (ub H L) 64 64, Int.natCast_add, Int.natCast_mul,
    val_congr (f := ub H L) (g := fun j => (L / 2 ^ j % 2).toNat) (n := 64) (fun i hi => by unfold ub; rw [if_pos hi]),
    val_congr (f := fun j => ub H L (64 + j)) (g := fun j => (H / 2 ^ j % 2).toNat) (n := 64) (fun i hi => by show ub H L (64 + i) = _; unfold ub; rw [if_neg (by omega), Nat.add_sub_cancel_left]),
    val_bits, val_bits, P2_64]
  show L % 18446744073709551616 + 18446744073709551616 * (H % 18446744073709551616) = _
  omega
theorem val_top0 {f : Nat → Nat} {k : Nat} (h : ∀ j, k ≤ j → f j = 0) : ∀ m, val f (k + m) = val f k
  | 0 => rfl
  | m + 1 => by show val f (k + m) + f (k + m) * P2 (k + m) = val f k; rw [val_top0 h m, h _ (by omega)]; omega
theorem neg_step {u h : Nat → Nat} {k c b d : Nat} (H : val h k + val u k = c * P2 k) (e : c + b + u k = 2 * d) : val (upd h k b) (k + 1) + val u (k + 1) = d * P2 (k + 1) := by
  rw [val_upd]
  show val h k + b * P2 k + (val u k + u k * P2 k) = d * (P2 k * 2)
  have e2 : (c + b + u k) * P2 k = 2 * d * P2 k := by rw [e]
  rw [Nat.add_mul, Nat.add_mul] at e2
  rw [show d * (P2 k * 2) = 2 * d * P2 k by rw [Nat.mul_comm (P2 k) 2, ← Nat.mul_assoc, Nat.mul_comm d 2]]
  omega
theorem pos_step {u h : Nat → Nat} {k b : Nat} (H : val h k = val u k) (e : b = u k) : val (upd h k b) (k + 1) = val u (k + 1) := by
  rw [val_upd, H, e]
  rfl
theorem zero_step {h : Nat → Nat} {k b : Nat} (H : ∀ j, k ≤ j → h j = 0) : ∀ j, k + 1 ≤ j → upd h k b j = 0 := by
  intro j hj
  unfold upd
  rw [if_neg (by omega)]
  exact H j (by omega)
set_option maxRecDepth 20000 in
set_option maxHeartbeats 4000000 in
theorem big_neg (H L : Int) (hH : decide (H < 0) = true) (w : World) : Calls Try.prog 54 #[.agg #[.int .i64 H, .int .u64 L]] w fun e w' => (∃ f, (Bit f ∧ ∃ c, c ≤ 1 ∧ val f 260 + val (ub H L) 128 = c * P2 128) ∧ e = .returned (.agg (gv true f))) ∧ Below w.heap.size w w' := by
  have hz := zero56
  have g0 := gv_zero false zb
  go_enter Try.func54, Try.ntmps54
  go_wp2_with fail
  go_loopw [4, 5] (fun cr i wr => ∃ (k c : Nat) (h : Nat → Nat), k ≤ 128 ∧ i = .int .i64 k ∧ cr = .int .u8 c ∧ c ≤ 1 ∧ Hid (Bit h) ∧ Hid (∀ j, k ≤ j → h j = 0) ∧ Hid (val h k + val (ub H L) k = c * P2 k) ∧ Hid (wr.heap[w.heap.size]? = some (.cells #[.int .i64 H, .int .u64 L] 90 (0, 0))) ∧ Hid (∃ l u, GRow wr (w.heap.size + 1) l u) ∧ Hid (GRow wr (w.heap.size + 1 + 1) true h) ∧ Hid (Below w.heap.size w wr)) (fun _ i _ => 128 - (intOf i).toNat)
  case atStart =>
    obtain ⟨a, b, c, d⟩ := big_start w #[.int .i64 H, .int .u64 L] 90 true
    exact ⟨0, 0, zb, by omega, rfl, rfl, by omega, hide (fun _ => by simp [zb]), hide (fun _ _ => rfl), hide rfl, hide d, hide ⟨_, _, a⟩, hide b, hide c⟩
  case round =>
    obtain ⟨k, c, h, hk, rfl, rfl, hc, HH, HZ, HV, R0, R1, R2, HB⟩ := hrel
    have cH : wr.cell? ⟨w.heap.size, 0, none⟩ = some (.int .i64 H) := cell_of_row wr _ 0 _ _ _ (unhide R0)
    have cL : wr.cell? ⟨w.heap.size, 1, none⟩ = some (.int .u64 L) := cell_of_row wr _ 1 _ _ _ (unhide R0)
    have cs := (unhide R2).less
    by_cases hlt : k < 128
    · have ck := (unhide R2).cell (i := k) (by omega)
      have fk := (unhide R2).frozen (1 + k)
      have HS := hide (fun (b d : Nat) => neg_step (u := ub H L) (h := h) (k := k) (c := c) (b := b) (d := d) (unhide HV))
      have hub := ub_bit H L k
      generalize h k = z at *
      by_cases h64 : k < 64
      · have hbit := ub_lo (H := H) (L := L) h64
        generalize ub H L k = y at *
        have hy : y = 0 ∨ y = 1 := by omega
        have hc' : c = 0 ∨ c = 1 := by omega
        clear hub hc HV
        rcases hy with rfl | rfl <;> rcases hc' with rfl | rfl
        · go_wp2_with fail
          go_roundw
          case rel => exact ⟨k + 1, 0, upd h k 0, by omega, by go_num, rfl, by omega, hide (bit_upd (unhide HH) (by omega)), hide (zero_step (unhide HZ)), hide (unhide HS 0 0 (by omega)), hide ((heap_setCell_other wr _ w.heap.size _ (by show w.heap.size ≠ w.heap.size + 1 + 1; omega)).trans (unhide R0)), hide ((unhide R1).imp fun _ e => e.imp fun _ r => r.other (by show w.heap.size + 1 ≠ w.heap.size + 1 + 1; omega) _), hide ((unhide R2).set k 0), hide ((unhide HB).setCell (by show w.heap.size ≤ w.heap.size + 1 + 1; omega) _)⟩
          case measure => simp [intOf]; omega
        · go_wp2_with fail
          go_roundw
          case rel => exact ⟨k + 1, 1, upd h k 1, by omega, by go_num, rfl, by omega, hide (bit_upd (unhide HH) (by omega)), hide (zero_step (unhide HZ)), hide (unhide HS 1 1 (by omega)), hide ((heap_setCell_other wr _ w.heap.size _ (by show w.heap.size ≠ w.heap.size + 1 + 1; omega)).trans (unhide R0)), hide ((unhide R1).imp fun _ e => e.imp fun _ r => r.other (by show w.heap.size + 1 ≠ w.heap.size + 1 + 1; omega) _), hide ((unhide R2).set k 1), hide ((unhide HB).setCell (by show w.heap.size ≤ w.heap.size + 1 + 1; omega) _)⟩
          case measure => simp [intOf]; omega
        · go_wp2_with fail
          go_roundw
          case rel => exact ⟨k + 1, 1, upd h k 1, by omega, by go_num, rfl, by omega, hide (bit_upd (unhide HH) (by omega)), hide (zero_step (unhide HZ)), hide (unhide HS 1 1 (by omega)), hide ((heap_setCell_other wr _ w.heap.size _ (by show w.heap.size ≠ w.heap.size + 1 + 1; omega)).trans (unhide R0)), hide ((unhide R1).imp fun _ e => e.imp fun _ r => r.other (by show w.heap.size + 1 ≠ w.heap.size + 1 + 1; omega) _), hide ((unhide R2).set k 1), hide ((unhide HB).setCell (by show w.heap.size ≤ w.heap.size + 1 + 1; omega) _)⟩
          case measure => simp [intOf]; omega
        · go_wp2_with fail
          go_roundw
          case rel => exact ⟨k + 1, 1, upd h k 0, by omega, by go_num, rfl, by omega, hide (bit_upd (unhide HH) (by omega)), hide (zero_step (unhide HZ)), hide (unhide HS 0 1 (by omega)), hide ((heap_setCell_other wr _ w.heap.size _ (by show w.heap.size ≠ w.heap.size + 1 + 1; omega)).trans (unhide R0)), hide ((unhide R1).imp fun _ e => e.imp fun _ r => r.other (by show w.heap.size + 1 ≠ w.heap.size + 1 + 1; omega) _), hide ((unhide R2).set k 0), hide ((unhide HB).setCell (by show w.heap.size ≤ w.heap.size + 1 + 1; omega) _)⟩
          case measure => simp [intOf]; omega
      · have hbit := ub_hi (H := H) (L := L) h64
        generalize ub H L k = y at *
        have hy : y = 0 ∨ y = 1 := by omega
        have hc' : c = 0 ∨ c = 1 := by omega
        clear hub hc HV
        rcases hy with rfl | rfl <;> rcases hc' with rfl | rfl
        · go_wp2_with fail
          go_roundw
          case rel => exact ⟨k + 1, 0, upd h k 0, by omega, by go_num, rfl, by omega, hide (bit_upd (unhide HH) (by omega)), hide (zero_step (unhide HZ)), hide (unhide HS 0 0 (by omega)), hide ((heap_setCell_other wr _ w.heap.size _ (by show w.heap.size ≠ w.heap.size + 1 + 1; omega)).trans (unhide R0)), hide ((unhide R1).imp fun _ e => e.imp fun _ r => r.other (by show w.heap.size + 1 ≠ w.heap.size + 1 + 1; omega) _), hide ((unhide R2).set k 0), hide ((unhide HB).setCell (by show w.heap.size ≤ w.heap.size + 1 + 1; omega) _)⟩
          case measure => simp [intOf]; omega
        · go_wp2_with fail
          go_roundw
          case rel => exact ⟨k + 1, 1, upd h k 1, by omega, by go_num, rfl, by omega, hide (bit_upd (unhide HH) (by omega)), hide (zero_step (unhide HZ)), hide (unhide HS 1 1 (by omega)), hide ((heap_setCell_other wr _ w.heap.size _ (by show w.heap.size ≠ w.heap.size + 1 + 1; omega)).trans (unhide R0)), hide ((unhide R1).imp fun _ e => e.imp fun _ r => r.other (by show w.heap.size + 1 ≠ w.heap.size + 1 + 1; omega) _), hide ((unhide R2).set k 1), hide ((unhide HB).setCell (by show w.heap.size ≤ w.heap.size + 1 + 1; omega) _)⟩
          case measure => simp [intOf]; omega
        · go_wp2_with fail
          go_roundw
          case rel => exact ⟨k + 1, 1, upd h k 1, by omega, by go_num, rfl, by omega, hide (bit_upd (unhide HH) (by omega)), hide (zero_step (unhide HZ)), hide (unhide HS 1 1 (by omega)), hide ((heap_setCell_other wr _ w.heap.size _ (by show w.heap.size ≠ w.heap.size + 1 + 1; omega)).trans (unhide R0)), hide ((unhide R1).imp fun _ e => e.imp fun _ r => r.other (by show w.heap.size + 1 ≠ w.heap.size + 1 + 1; omega) _), hide ((unhide R2).set k 1), hide ((unhide HB).setCell (by show w.heap.size ≤ w.heap.size + 1 + 1; omega) _)⟩
          case measure => simp [intOf]; omega
        · go_wp2_with fail
          go_roundw
          case rel => exact ⟨k + 1, 1, upd h k 0, by omega, by go_num, rfl, by omega, hide (bit_upd (unhide HH) (by omega)), hide (zero_step (unhide HZ)), hide (unhide HS 0 1 (by omega)), hide ((heap_setCell_other wr _ w.heap.size _ (by show w.heap.size ≠ w.heap.size + 1 + 1; omega)).trans (unhide R0)), hide ((unhide R1).imp fun _ e => e.imp fun _ r => r.other (by show w.heap.size + 1 ≠ w.heap.size + 1 + 1; omega) _), hide ((unhide R2).set k 0), hide ((unhide HB).setCell (by show w.heap.size ≤ w.heap.size + 1 + 1; omega) _)⟩
          case measure => simp [intOf]; omega
    · obtain rfl : k = 128 := by omega
      obtain ⟨m, v, R1'⟩ := unhide R1
      have HP := hide (show Bit h ∧ ∃ c, c ≤ 1 ∧ val h 260 + val (ub H L) 128 = c * P2 128 from ⟨unhide HH, c, hc, by rw [show (260 : Nat) = 128 + 132 from rfl, val_top0 (unhide HZ)]; exact unhide HV⟩)
      have hst := store56c true h R1'
      have Rr := hide (R1'.put (m := true) h)
      have HB2 := hide (below_put (unhide HB) (b := w.heap.size + 1) (by omega) (gv true h))
      clear HV R1 R1' cH cL cs
      go_wp2_with fail
      refine wp_load56 (unhide R2) rfl rfl ?_
      go_wp2_with fail
      refine bodyPost_ret (v := .agg (gv true h)) (results56 rfl _ rfl (unhide Rr)) rfl ⟨⟨h, unhide HP, rfl⟩, unhide HB2⟩
set_option maxRecDepth 20000 in
set_option maxHeartbeats 4000000 in
theorem big_pos (H L : Int) (hH : decide (H < 0) = false) (w : World) : Calls Try.prog 54 #[.agg #[.int .i64 H, .int .u64 L]] w fun e w' => (∃ f, (Bit f ∧ ∃ c, c ≤ 1 ∧ val f 260 = val (ub H L) 128) ∧ e = .returned (.agg (gv false f))) ∧ Below w.heap.size w w' := by
  have hz := zero56
  have g0 := gv_zero false zb
  go_enter Try.func54, Try.ntmps54
  go_wp2_with fail
  go_loopw [4, 5] (fun cr i wr => ∃ (k c : Nat) (h : Nat → Nat), k ≤ 128 ∧ i = .int .i64 k ∧ cr = .int .u8 c ∧ c ≤ 0 ∧ Hid (Bit h) ∧ Hid (∀ j, k ≤ j → h j = 0) ∧ Hid (val h k = val (ub H L) k) ∧ Hid (wr.heap[w.heap.size]? = some (.cells #[.int .i64 H, .int .u64 L] 90 (0, 0))) ∧ Hid (∃ l u, GRow wr (w.heap.size + 1) l u) ∧ Hid (GRow wr (w.heap.size + 1 + 1) false h) ∧ Hid (Below w.heap.size w wr)) (fun _ i _ => 128 - (intOf i).toNat)
  case atStart =>
    obtain ⟨a, b, c, d⟩ := big_start w #[.int .i64 H, .int .u64 L] 90 false
    exact ⟨0, 0, zb, by omega, rfl, rfl, by omega, hide (fun _ => by simp [zb]), hide (fun _ _ => rfl), hide rfl, hide d, hide ⟨_, _, a⟩, hide b, hide c⟩
  case round =>
    obtain ⟨k, c, h, hk, rfl, rfl, hc, HH, HZ, HV, R0, R1, R2, HB⟩ := hrel
    have cH : wr.cell? ⟨w.heap.size, 0, none⟩ = some (.int .i64 H) := cell_of_row wr _ 0 _ _ _ (unhide R0)
    have cL : wr.cell? ⟨w.heap.size, 1, none⟩ = some (.int .u64 L) := cell_of_row wr _ 1 _ _ _ (unhide R0)
    have cs := (unhide R2).less
    by_cases hlt : k < 128
    · have ck := (unhide R2).cell (i := k) (by omega)
      have fk := (unhide R2).frozen (1 + k)
      have HS := hide (fun (b : Nat) => pos_step (u := ub H L) (h := h) (k := k) (b := b) (unhide HV))
      have hub := ub_bit H L k
      generalize h k = z at *
      by_cases h64 : k < 64
      · have hbit := ub_lo (H := H) (L := L) h64
        generalize ub H L k = y at *
        have hy : y = 0 ∨ y = 1 := by omega
        have hc' : c = 0 := by omega
        clear hub hc HV
        rcases hy with rfl | rfl <;> rcases hc' with rfl
        · go_wp2_with fail
          go_roundw
          case rel => exact ⟨k + 1, 0, upd h k 0, by omega, by go_num, rfl, by omega, hide (bit_upd (unhide HH) (by omega)), hide (zero_step (unhide HZ)), hide (unhide HS 0 rfl), hide ((heap_setCell_other wr _ w.heap.size _ (by show w.heap.size ≠ w.heap.size + 1 + 1; omega)).trans (unhide R0)), hide ((unhide R1).imp fun _ e => e.imp fun _ r => r.other (by show w.heap.size + 1 ≠ w.heap.size + 1 + 1; omega) _), hide ((unhide R2).set k 0), hide ((unhide HB).setCell (by show w.heap.size ≤ w.heap.size + 1 + 1; omega) _)⟩
          case measure => simp [intOf]; omega
        · go_wp2_with fail
          go_roundw
          case rel => exact ⟨k + 1, 0, upd h k 1, by omega, by go_num, rfl, by omega, hide (bit_upd (unhide HH) (by omega)), hide (zero_step (unhide HZ)), hide (unhide HS 1 rfl), hide ((heap_setCell_other wr _ w.heap.size _ (by show w.heap.size ≠ w.heap.size + 1 + 1; omega)).trans (unhide R0)), hide ((unhide R1).imp fun _ e => e.imp fun _ r => r.other (by show w.heap.size + 1 ≠ w.heap.size + 1 + 1; omega) _), hide ((unhide R2).set k 1), hide ((unhide HB).setCell (by show w.heap.size ≤ w.heap.size + 1 + 1; omega) _)⟩
          case measure => simp [intOf]; omega
      · have hbit := ub_hi (H := H) (L := L) h64
        generalize ub H L k = y at *
        have hy : y = 0 ∨ y = 1 := by omega
        have hc' : c = 0 := by omega
        clear hub hc HV
        rcases hy with rfl | rfl <;> rcases hc' with rfl
        · go_wp2_with fail
          go_roundw
          case rel => exact ⟨k + 1, 0, upd h k 0, by omega, by go_num, rfl, by omega, hide (bit_upd (unhide HH) (by omega)), hide (zero_step (unhide HZ)), hide (unhide HS 0 rfl), hide ((heap_setCell_other wr _ w.heap.size _ (by show w.heap.size ≠ w.heap.size + 1 + 1; omega)).trans (unhide R0)), hide ((unhide R1).imp fun _ e => e.imp fun _ r => r.other (by show w.heap.size + 1 ≠ w.heap.size + 1 + 1; omega) _), hide ((unhide R2).set k 0), hide ((unhide HB).setCell (by show w.heap.size ≤ w.heap.size + 1 + 1; omega) _)⟩
          case measure => simp [intOf]; omega
        · go_wp2_with fail
          go_roundw
          case rel => exact ⟨k + 1, 0, upd h k 1, by omega, by go_num, rfl, by omega, hide (bit_upd (unhide HH) (by omega)), hide (zero_step (unhide HZ)), hide (unhide HS 1 rfl), hide ((heap_setCell_other wr _ w.heap.size _ (by show w.heap.size ≠ w.heap.size + 1 + 1; omega)).trans (unhide R0)), hide ((unhide R1).imp fun _ e => e.imp fun _ r => r.other (by show w.heap.size + 1 ≠ w.heap.size + 1 + 1; omega) _), hide ((unhide R2).set k 1), hide ((unhide HB).setCell (by show w.heap.size ≤ w.heap.size + 1 + 1; omega) _)⟩
          case measure => simp [intOf]; omega
    · obtain rfl : k = 128 := by omega
      obtain ⟨m, v, R1'⟩ := unhide R1
      have HP := hide (show Bit h ∧ ∃ c, c ≤ 1 ∧ val h 260 = val (ub H L) 128 from ⟨unhide HH, 0, by omega, by rw [show (260 : Nat) = 128 + 132 from rfl, val_top0 (unhide HZ)]; exact unhide HV⟩)
      have hst := store56c false h R1'
      have Rr := hide (R1'.put (m := false) h)
      have HB2 := hide (below_put (unhide HB) (b := w.heap.size + 1) (by omega) (gv false h))
      clear HV R1 R1' cH cL cs
      go_wp2_with fail
      refine wp_load56 (unhide R2) rfl rfl ?_
      go_wp2_with fail
      refine bodyPost_ret (v := .agg (gv false h)) (results56 rfl _ rfl (unhide Rr)) rfl ⟨⟨h, unhide HP, rfl⟩, unhide HB2⟩
/-- A sign and bits that are a number. -/
def Big (X : Int) (l : Bool) (f : Nat → Nat) : Prop := Bit f ∧ l = decide (X < 0) ∧ val f 260 = X.natAbs
theorem P2_128 : P2 128 = 340282366920938463463374607431768211456 := by decide +kernel
theorem big_any (X : Int) (hX : In128 X) (w : World) : Calls Try.prog 54 #[.agg #[.int .i64 (hi X), .int .u64 (lo X)]] w fun e w' => (∃ l f, Big X l f ∧ e = .returned (.agg (gv l f))) ∧ Below w.heap.size w w' := by
  have hv := val_ub (H := hi X) (L := lo X) (by unfold lo; omega) (by unfold lo; omega)
  have hb := hi_bd X
  have e := hilo hX
  have l0 : 0 ≤ lo X := by unfold lo; omega
  have l1 : lo X < 18446744073709551616 := by unfold lo; omega
  generalize hi X = H at *
  generalize lo X = L at *
  by_cases hH : H < 0
  · refine (big_neg H L (decide_eq_true hH) w).mono ?_
    rintro z w' ⟨⟨f, ⟨hf, c, hc, hs⟩, rfl⟩, hB⟩
    refine ⟨⟨true, f, ⟨hf, (decide_eq_true (by omega)).symm, ?_⟩, rfl⟩, hB⟩
    rw [P2_128] at hs
    rcases (show c = 0 ∨ c = 1 by omega) with rfl | rfl
    · omega
    · omega
  · refine (big_pos H L (decide_eq_false hH) w).mono ?_
    rintro z w' ⟨⟨f, ⟨hf, c, hc, hs⟩, rfl⟩, hB⟩
    refine ⟨⟨false, f, ⟨hf, (decide_eq_false (by omega)).symm, ?_⟩, rfl⟩, hB⟩
    omega
end Go.Proofs.Ytmepmmhhiphfiaa
