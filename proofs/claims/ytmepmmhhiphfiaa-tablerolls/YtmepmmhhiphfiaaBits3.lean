/- Rows of 260 bits: minus. -/
import Derived.Test.YtmepmmhhiphfiaaBits2
namespace Go.Proofs.Ytmepmmhhiphfiaa
open Go.RowKit
set_option linter.unusedSimpArgs false
theorem minus_step {f g h : Nat → Nat} {k c b d : Nat} (H : val f k + c * P2 k = val g k + val h k) (e : f k + 2 * d = g k + b + c) : val f (k + 1) + d * P2 (k + 1) = val g (k + 1) + val (upd h k b) (k + 1) := by
  rw [val_upd]
  show val f k + f k * P2 k + d * P2 (k + 1) = val g k + g k * P2 k + (val h k + b * P2 k)
  have e2 : (f k + 2 * d) * P2 k = (g k + b + c) * P2 k := by rw [e]
  rw [Nat.add_mul, Nat.add_mul, Nat.add_mul] at e2
  rw [P2_succ]
  have : d * (P2 k * 2) = 2 * d * P2 k := by rw [Nat.mul_comm (P2 k) 2, ← Nat.mul_assoc, Nat.mul_comm d 2]
  omega
def Minus (f g h : Nat → Nat) : Prop := Bit h ∧ ∃ c, c ≤ 1 ∧ val f 260 + c * P2 260 = val g 260 + val h 260
set_option maxRecDepth 20000 in
set_option maxHeartbeats 4000000 in
theorem minus_any (f g : Nat → Nat) (hf : Bit f) (hg : Bit g) (w : World) : Calls Try.prog 62 #[.agg (bv f), .agg (bv g)] w fun e w' => (∃ h, Minus f g h ∧ e = .returned (.agg (bv h))) ∧ Below w.heap.size w w' := by
  have Hf := hide hf
  have Hg := hide hg
  have hz := zero54
  clear hf hg
  go_enter Try.func62, Try.ntmps62
  go_wp2_with fail
  go_loopw [6, 7] (fun cr i wr => ∃ (k c : Nat) (h : Nat → Nat), k ≤ 260 ∧ i = .int .i64 k ∧ cr = .int .u8 c ∧ c ≤ 1 ∧ Hid (Bit h) ∧ Hid (val f k + c * P2 k = val g k + val h k) ∧ Hid (Row wr w.heap.size f) ∧ Hid (Row wr (w.heap.size + 1) g) ∧ Hid (∃ u, Row wr (w.heap.size + 1 + 1) u) ∧ Hid (Row wr (w.heap.size + 1 + 1 + 1) h) ∧ Hid (Below w.heap.size w wr)) (fun _ i _ => 260 - (intOf i).toNat)
  case atStart =>
    obtain ⟨a, b, c, d, e⟩ := rows4 w f g zb zb
    exact ⟨0, 0, zb, by omega, rfl, rfl, by omega, hide (fun _ => by simp [zb]), hide rfl, hide a, hide b, hide ⟨_, c⟩, hide d, hide e⟩
  case round =>
    obtain ⟨k, c, h, hk, rfl, rfl, hc, HH, HV, R1, R2, R3, R4, HB⟩ := hrel
    by_cases hlt : k < 260
    · have c1 := (unhide R1).cell (i := k) hlt
      have c2 := (unhide R2).cell (i := k) hlt
      have c4 := (unhide R4).cell (i := k) hlt
      have f4 := (unhide R4).frozen k
      have hfk := unhide Hf k
      have hgk := unhide Hg k
      have HS := hide (fun (b d : Nat) => minus_step (f := f) (g := g) (h := h) (k := k) (c := c) (b := b) (d := d) (unhide HV))
      generalize f k = x at *
      generalize g k = y at *
      generalize h k = z at *
      have hx : x = 0 ∨ x = 1 := by omega
      have hy : y = 0 ∨ y = 1 := by omega
      have hc' : c = 0 ∨ c = 1 := by omega
      clear hfk hgk HV hc
      rcases hx with rfl | rfl <;> rcases hy with rfl | rfl <;> rcases hc' with rfl | rfl
      · go_wp2_with fail
        go_region
        go_wp2_with fail
        go_roundw
        case rel => exact ⟨k + 1, 0, upd h k 0, by omega, by go_num, rfl, by omega, hide (bit_upd (unhide HH) (by omega)), hide (unhide HS 0 0 (by omega)), hide ((unhide R1).drew.other (by show w.heap.size ≠ w.heap.size + 1 + 1 + 1; omega) _), hide ((unhide R2).drew.other (by show w.heap.size + 1 ≠ w.heap.size + 1 + 1 + 1; omega) _), hide ((unhide R3).imp fun u r => r.drew.other (by show w.heap.size + 1 + 1 ≠ w.heap.size + 1 + 1 + 1; omega) _), hide ((unhide R4).drew.set k 0), hide ((below_drew (unhide HB)).setCell (by show w.heap.size ≤ w.heap.size + 1 + 1 + 1; omega) _)⟩
        case measure => simp [intOf]; omega
      · go_wp2_with fail
        go_region
        go_wp2_with fail
        go_roundw
        case rel => exact ⟨k + 1, 1, upd h k 1, by omega, by go_num, rfl, by omega, hide (bit_upd (unhide HH) (by omega)), hide (unhide HS 1 1 (by omega)), hide ((unhide R1).drew.other (by show w.heap.size ≠ w.heap.size + 1 + 1 + 1; omega) _), hide ((unhide R2).drew.other (by show w.heap.size + 1 ≠ w.heap.size + 1 + 1 + 1; omega) _), hide ((unhide R3).imp fun u r => r.drew.other (by show w.heap.size + 1 + 1 ≠ w.heap.size + 1 + 1 + 1; omega) _), hide ((unhide R4).drew.set k 1), hide ((below_drew (unhide HB)).setCell (by show w.heap.size ≤ w.heap.size + 1 + 1 + 1; omega) _)⟩
        case measure => simp [intOf]; omega
      · go_wp2_with fail
        go_region
        go_wp2_with fail
        go_roundw
        case rel => exact ⟨k + 1, 1, upd h k 1, by omega, by go_num, rfl, by omega, hide (bit_upd (unhide HH) (by omega)), hide (unhide HS 1 1 (by omega)), hide ((unhide R1).drew.other (by show w.heap.size ≠ w.heap.size + 1 + 1 + 1; omega) _), hide ((unhide R2).drew.other (by show w.heap.size + 1 ≠ w.heap.size + 1 + 1 + 1; omega) _), hide ((unhide R3).imp fun u r => r.drew.other (by show w.heap.size + 1 + 1 ≠ w.heap.size + 1 + 1 + 1; omega) _), hide ((unhide R4).drew.set k 1), hide ((below_drew (unhide HB)).setCell (by show w.heap.size ≤ w.heap.size + 1 + 1 + 1; omega) _)⟩
        case measure => simp [intOf]; omega
      · go_wp2_with fail
        go_region
        go_wp2_with fail
        go_roundw
        case rel => exact ⟨k + 1, 1, upd h k 0, by omega, by go_num, rfl, by omega, hide (bit_upd (unhide HH) (by omega)), hide (unhide HS 0 1 (by omega)), hide ((unhide R1).drew.other (by show w.heap.size ≠ w.heap.size + 1 + 1 + 1; omega) _), hide ((unhide R2).drew.other (by show w.heap.size + 1 ≠ w.heap.size + 1 + 1 + 1; omega) _), hide ((unhide R3).imp fun u r => r.drew.other (by show w.heap.size + 1 + 1 ≠ w.heap.size + 1 + 1 + 1; omega) _), hide ((unhide R4).drew.set k 0), hide ((below_drew (unhide HB)).setCell (by show w.heap.size ≤ w.heap.size + 1 + 1 + 1; omega) _)⟩
        case measure => simp [intOf]; omega
      · go_wp2_with fail
        go_region
        go_wp2_with fail
        go_roundw
        case rel => exact ⟨k + 1, 0, upd h k 1, by omega, by go_num, rfl, by omega, hide (bit_upd (unhide HH) (by omega)), hide (unhide HS 1 0 (by omega)), hide ((unhide R1).drew.other (by show w.heap.size ≠ w.heap.size + 1 + 1 + 1; omega) _), hide ((unhide R2).drew.other (by show w.heap.size + 1 ≠ w.heap.size + 1 + 1 + 1; omega) _), hide ((unhide R3).imp fun u r => r.drew.other (by show w.heap.size + 1 + 1 ≠ w.heap.size + 1 + 1 + 1; omega) _), hide ((unhide R4).drew.set k 1), hide ((below_drew (unhide HB)).setCell (by show w.heap.size ≤ w.heap.size + 1 + 1 + 1; omega) _)⟩
        case measure => simp [intOf]; omega
      · go_wp2_with fail
        go_region
        go_wp2_with fail
        go_roundw
        case rel => exact ⟨k + 1, 0, upd h k 0, by omega, by go_num, rfl, by omega, hide (bit_upd (unhide HH) (by omega)), hide (unhide HS 0 0 (by omega)), hide ((unhide R1).drew.other (by show w.heap.size ≠ w.heap.size + 1 + 1 + 1; omega) _), hide ((unhide R2).drew.other (by show w.heap.size + 1 ≠ w.heap.size + 1 + 1 + 1; omega) _), hide ((unhide R3).imp fun u r => r.drew.other (by show w.heap.size + 1 + 1 ≠ w.heap.size + 1 + 1 + 1; omega) _), hide ((unhide R4).drew.set k 0), hide ((below_drew (unhide HB)).setCell (by show w.heap.size ≤ w.heap.size + 1 + 1 + 1; omega) _)⟩
        case measure => simp [intOf]; omega
      · go_wp2_with fail
        go_region
        go_wp2_with fail
        go_roundw
        case rel => exact ⟨k + 1, 0, upd h k 0, by omega, by go_num, rfl, by omega, hide (bit_upd (unhide HH) (by omega)), hide (unhide HS 0 0 (by omega)), hide ((unhide R1).drew.other (by show w.heap.size ≠ w.heap.size + 1 + 1 + 1; omega) _), hide ((unhide R2).drew.other (by show w.heap.size + 1 ≠ w.heap.size + 1 + 1 + 1; omega) _), hide ((unhide R3).imp fun u r => r.drew.other (by show w.heap.size + 1 + 1 ≠ w.heap.size + 1 + 1 + 1; omega) _), hide ((unhide R4).drew.set k 0), hide ((below_drew (unhide HB)).setCell (by show w.heap.size ≤ w.heap.size + 1 + 1 + 1; omega) _)⟩
        case measure => simp [intOf]; omega
      · go_wp2_with fail
        go_region
        go_wp2_with fail
        go_roundw
        case rel => exact ⟨k + 1, 1, upd h k 1, by omega, by go_num, rfl, by omega, hide (bit_upd (unhide HH) (by omega)), hide (unhide HS 1 1 (by omega)), hide ((unhide R1).drew.other (by show w.heap.size ≠ w.heap.size + 1 + 1 + 1; omega) _), hide ((unhide R2).drew.other (by show w.heap.size + 1 ≠ w.heap.size + 1 + 1 + 1; omega) _), hide ((unhide R3).imp fun u r => r.drew.other (by show w.heap.size + 1 + 1 ≠ w.heap.size + 1 + 1 + 1; omega) _), hide ((unhide R4).drew.set k 1), hide ((below_drew (unhide HB)).setCell (by show w.heap.size ≤ w.heap.size + 1 + 1 + 1; omega) _)⟩
        case measure => simp [intOf]; omega
    · obtain rfl : k = 260 := by omega
      obtain ⟨u, R3'⟩ := unhide R3
      replace R3' := hide R3'
      have HP := hide (show Minus f g h from ⟨unhide HH, c, hc, unhide HV⟩)
      clear HV R3
      have hst := store54c h (unhide R3')
      have Rr := hide ((unhide R3').put h)
      have HB2 := hide (below_put (unhide HB) (b := w.heap.size + 1 + 1) (by omega) (bv h))
      go_wp2_with fail
      refine wp_load54 (unhide R4) rfl rfl ?_
      go_wp2_with fail
      refine bodyPost_ret (v := .agg (bv h)) (results54 rfl _ rfl (unhide Rr)) rfl ⟨⟨h, unhide HP, rfl⟩, unhide HB2⟩
end Go.Proofs.Ytmepmmhhiphfiaa
