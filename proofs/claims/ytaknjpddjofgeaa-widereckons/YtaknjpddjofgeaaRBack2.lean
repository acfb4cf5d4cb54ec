/- The reference's back, of what is below 0. -/
import Derived.Test.YtaknjpddjofgeaaRBack
namespace Go.Proofs.Ytaknjpddjofgeaa
open Go.RowKit
set_option linter.unusedSimpArgs false
theorem val_upd_low {t : Nat → Nat} {k b : Nat} : ∀ n, n ≤ k → val (upd t k b) n = val t n
  | 0, _ => rfl
  | n + 1, h => by
    show val (upd t k b) n + upd t k b n * P2 n = val t n + t n * P2 n
    rw [val_upd_low n (by omega), show upd t k b n = t n from if_neg (by omega)]
theorem val_upd_top (t : Nat → Nat) (k b : Nat) : val (upd t k b) (k + 1) = val t k + b * P2 k := by
  show val (upd t k b) k + upd t k b k * P2 k = _
  rw [val_upd_low k (Nat.le_refl _), show upd t k b k = b from if_pos rfl]
theorem neg_bit {f t : Nat → Nat} {k c x b d : Nat} (h : val t k + c * P2 k + val f k = P2 k) (hx : f k = x) (e : 1 + c = x + b + 2 * d) : val (upd t k b) (k + 1) + d * P2 (k + 1) + val f (k + 1) = P2 (k + 1) := by
  rw [val_upd_top, P2_succ]
  show _ + _ + (val f k + f k * P2 k) = _
  rw [hx]
  generalize P2 k = P at *
  have e2 : (1 + c) * P = (x + b + 2 * d) * P := by rw [e]
  rw [Nat.add_mul, Nat.add_mul, Nat.add_mul, Nat.one_mul, Nat.mul_assoc] at e2
  rw [← Nat.mul_assoc, Nat.mul_comm (d * P) 2]
  omega
theorem or_upd {t : Nat → Nat} (ht : Bit t) {k b : Nat} (hk : k < 64) (hb : b ≤ 1) : bits .or .u64 ((val t k : Nat) : Int) (IntKind.u64.wrap ((b : Int) * 2 ^ k)) = ((val (upd t k b) (k + 1) : Nat) : Int) := by
  have h := or_bit (f := upd t k b) (bit_upd ht hb) hk
  rwa [val_upd_low k (Nat.le_refl _), show upd t k b k = b from if_pos rfl] at h
theorem or_updi {t : Nat → Nat} (ht : Bit t) {k b : Nat} (h1 : 64 ≤ k) (hk : k < 128) (hb : b ≤ 1) : bits .or .i64 (wrap64 ((val (sh t) (k - 64) : Nat) : Int)) (wrap64 ((b : Int) * 2 ^ (k - 64))) = wrap64 ((val (sh (upd t k b)) (k - 64 + 1) : Nat) : Int) ∧ val (upd t k b) 64 = val t 64 := by
  have e : sh (upd t k b) = upd (sh t) (k - 64) b := by
    funext j
    unfold sh upd
    by_cases c : j = k - 64
    · rw [if_pos c, if_pos (by omega)]
    · rw [if_neg c, if_neg (by omega)]
  refine ⟨?_, val_upd_low 64 h1⟩
  have h := or_biti (t := upd (sh t) (k - 64) b) (bit_upd (sh_bit ht) hb) (m := k - 64) (by omega)
  rw [val_upd_low (k - 64) (Nat.le_refl _), show upd (sh t) (k - 64) b (k - 64) = b from if_pos rfl] at h
  rw [e]
  exact h
set_option maxRecDepth 20000 in
set_option maxHeartbeats 8000000 in
theorem back_neg (f : Nat → Nat) (hf : Bit f) (hv : val f 260 < 170141183460469231731687303715884105728) (w : World) : Calls Try.prog 26 #[.agg (gv true f)] w fun e w' => e = .returned (.tuple #[.agg #[.int .i64 (hi (-(val f 260 : Int))), .int .u64 (lo (-(val f 260 : Int)))], .bool true]) ∧ Below w.heap.size w w' := by
  have HV := hide hv
  have HO := hide (show ord (val f 260 : Int) ((P2 127 : Nat) : Int) = (-1) by rw [P2_127]; exact ord_lt (by omega))
  clear hv
  have hz4 := zero54
  have HF := hide hf
  clear hf
  obtain ⟨V, s1, r1, b1, hs1⟩ := bits_start ((w.alloc (.cells (gv true f) 60)).alloc (.cells #[.int .i64 0, .int .u64 0] 28)) (upd zb 127 1)
  rw [← bv_tl1] at s1
  have hg := GRow.new w true f
  replace hg := hide ((hg.alloc (.cells #[.int .i64 0, .int .u64 0] 28)).keep b1 (by simp <;> omega))
  have ro := R28.new (w.alloc (.cells (gv true f) 60)) 0 0
  have hsz : (w.alloc (.cells (gv true f) 60)).heap.size = w.heap.size + 1 := by simp
  rw [hsz] at ro
  replace ro := hide (ro.keep b1 (by simp <;> omega))
  replace b1 := hide (below_via (((Below.refl w.heap.size w).alloc (Nat.le_refl _) _).alloc (by simp) _) b1)
  replace r1 := hide r1
  have hsz2 : ((w.alloc (.cells (gv true f) 60)).alloc (.cells #[.int .i64 0, .int .u64 0] 28)).heap.size = w.heap.size + 1 + 1 := by simp
  rw [hsz2] at s1 r1
  clear hs1 hsz hsz2
  have gs := bv_size zb
  go_enter Try.func26, Try.ntmps26
  go_wp2_with fail
  clear s1
  refine wp_loadB (unhide hg) rfl rfl ?_
  go_wp2_with fail
  refine wp_load54 (unhide r1) rfl rfl ?_
  go_wp2_with fail
  refine (size_any f (upd zb 127 1) (unhide HF) (lim_bit 127) _).mono ?_
  rintro e w2 ⟨rfl, hb2⟩
  replace hg := hide ((unhide hg).keep hb2 (unhide hg).lt)
  replace ro := hide ((unhide ro).keep hb2 (unhide ro).lt)
  replace b1 := hide (below_via (unhide b1) hb2)
  clear hb2 r1 gs hz4
  rw [val_lim (by omega), unhide HO]
  clear HO
  have cl := (unhide hg).less
  go_wp2_with fail
  clear cl
  have l1 := (unhide ro).lt
  replace hg := hide ((unhide hg).alloc (.cells #[.int .i64 0, .int .u64 0] 28))
  replace ro := hide ((unhide ro).alloc (.cells #[.int .i64 0, .int .u64 0] 28))
  have rn := hide (R28.new w2 0 0)
  replace b1 := hide (below_via (unhide b1) ((Below.refl w2.heap.size w2).alloc (Nat.le_refl _) (.cells #[.int .i64 0, .int .u64 0] 28)))
  generalize w2.alloc (.cells #[.int .i64 0, .int .u64 0] 28) = W3 at hg ro rn b1 ⊢
  obtain ⟨o, ho⟩ : ∃ o, o = w2.heap.size := ⟨_, rfl⟩
  rw [← ho] at rn l1 ⊢
  clear ho
  go_loopw [7, 8] (fun cr i wr => ∃ (k c : Nat) (t : Nat → Nat), k ≤ 128 ∧ i = .int .i64 k ∧ cr = .int .u8 c ∧ c ≤ 1 ∧ Hid (Bit t) ∧ Hid (val t k + c * P2 k + val f k = P2 k) ∧ Hid (GRow wr w.heap.size true f) ∧ Hid (R28 wr (w.heap.size + 1) 0 0) ∧ Hid (R28 wr o (wrap64 (val (sh t) (k - 64) : Nat)) (val t (min k 64) : Nat)) ∧ Hid (Below w.heap.size w wr)) (fun _ i _ => 128 - (intOf i).toNat)
  case atStart => exact ⟨0, 1, zb, by omega, rfl, rfl, by omega, hide (fun _ => by simp [zb]), hide rfl, hg, ro, hide (by show R28 W3 o (wrap64 ((0 : Nat) : Int)) ((0 : Nat) : Int); rw [wrap_0]; exact unhide rn), b1⟩
  case round =>
    clear hg ro rn b1
    obtain ⟨k, c, t, hk, rfl, rfl, hc, ht, hi1, hg, ro, rn, b1⟩ := hrel
    by_cases hlt : k < 128
    · have ck := (unhide hg).cell (i := k) (by omega)
      have cl := (unhide hg).less
      have hfk := unhide HF k
      have H4 := hide (fun (x b d : Nat) (hx : f k = x) (e : 1 + c = x + b + 2 * d) => neg_bit (t := t) (x := x) (b := b) (d := d) (unhide hi1) hx e)
      generalize hx : f k = x at *
      replace hx := hide hx
      have hx' : x = 0 ∨ x = 1 := by omega
      have hc' : c = 0 ∨ c = 1 := by omega
      clear hfk hc
      by_cases h64 : k < 64
      · have x1 := (unhide rn).c1
        have y1 := (unhide rn).fr 1
        rw [show min k 64 = k by omega] at x1 rn
        rw [show k - 64 = 0 by omega] at rn
        have hm : min (k + 1) 64 = k + 1 := by omega
        have hm2 : k + 1 - 64 = 0 := by omega
        have HS := hide (fun (b : Nat) (hb : b ≤ 1) => or_upd (unhide ht) h64 hb)
        rcases hx' with rfl | rfl <;> rcases hc' with rfl | rfl
        · have hs := hide (unhide HS 1 (by omega))
          have h4 := hide (unhide H4 0 1 0 rfl (by omega))
          go_wp2_with fail
          go_roundw
          case rel => exact ⟨k + 1, 0, upd t k 1, by omega, by go_num, rfl, by omega, hide (bit_upd (unhide ht) (by omega)), h4, hide ((unhide hg).other (by show w.heap.size ≠ o; omega) _), hide ((unhide ro).other (by show w.heap.size + 1 ≠ o; omega) _), hide (by rw [hm, hm2, ← unhide hs]; exact (unhide rn).s1 _), hide ((unhide b1).setCell (by show w.heap.size ≤ o; omega) _)⟩
          case measure => simp [intOf]; omega
        · have hs := hide (unhide HS 0 (by omega))
          have h4 := hide (unhide H4 0 0 1 rfl (by omega))
          go_wp2_with fail
          go_roundw
          case rel => exact ⟨k + 1, 1, upd t k 0, by omega, by go_num, rfl, by omega, hide (bit_upd (unhide ht) (by omega)), h4, hide ((unhide hg).other (by show w.heap.size ≠ o; omega) _), hide ((unhide ro).other (by show w.heap.size + 1 ≠ o; omega) _), hide (by rw [hm, hm2, ← unhide hs]; exact (unhide rn).s1 _), hide ((unhide b1).setCell (by show w.heap.size ≤ o; omega) _)⟩
          case measure => simp [intOf]; omega
        · have hs := hide (unhide HS 0 (by omega))
          have h4 := hide (unhide H4 1 0 0 rfl (by omega))
          go_wp2_with fail
          go_roundw
          case rel => exact ⟨k + 1, 0, upd t k 0, by omega, by go_num, rfl, by omega, hide (bit_upd (unhide ht) (by omega)), h4, hide ((unhide hg).other (by show w.heap.size ≠ o; omega) _), hide ((unhide ro).other (by show w.heap.size + 1 ≠ o; omega) _), hide (by rw [hm, hm2, ← unhide hs]; exact (unhide rn).s1 _), hide ((unhide b1).setCell (by show w.heap.size ≤ o; omega) _)⟩
          case measure => simp [intOf]; omega
        · have hs := hide (unhide HS 1 (by omega))
          have h4 := hide (unhide H4 1 1 0 rfl (by omega))
          go_wp2_with fail
          go_roundw
          case rel => exact ⟨k + 1, 0, upd t k 1, by omega, by go_num, rfl, by omega, hide (bit_upd (unhide ht) (by omega)), h4, hide ((unhide hg).other (by show w.heap.size ≠ o; omega) _), hide ((unhide ro).other (by show w.heap.size + 1 ≠ o; omega) _), hide (by rw [hm, hm2, ← unhide hs]; exact (unhide rn).s1 _), hide ((unhide b1).setCell (by show w.heap.size ≤ o; omega) _)⟩
          case measure => simp [intOf]; omega
      · have x0 := (unhide rn).c0
        have y0 := (unhide rn).fr 0
        have hm : min k 64 = 64 := by omega
        have hm1 : min (k + 1) 64 = 64 := by omega
        have hm2 : k + 1 - 64 = k - 64 + 1 := by omega
        rw [hm] at rn
        have HS := hide (fun (b : Nat) (hb : b ≤ 1) => or_updi (t := t) (k := k) (unhide ht) (by omega) (by omega) hb)
        rcases hx' with rfl | rfl <;> rcases hc' with rfl | rfl
        · have hs := hide (unhide HS 1 (by omega))
          have h4 := hide (unhide H4 0 1 0 rfl (by omega))
          have hb : wrap64 (bits BinOp.and IntKind.u8 1 1) = 1 := by decide +kernel
          replace hb := hide hb
          go_wp2_with fail
          go_roundw
          case rel => exact ⟨k + 1, 0, upd t k 1, by omega, by go_num, rfl, by omega, hide (bit_upd (unhide ht) (by omega)), h4, hide ((unhide hg).other (by show w.heap.size ≠ o; omega) _), hide ((unhide ro).other (by show w.heap.size + 1 ≠ o; omega) _), hide (by rw [hm1, hm2, ← (unhide hs).1, (unhide hs).2]; first | exact (unhide rn).s0 _ | (rw [unhide hb]; exact (unhide rn).s0 _)), hide ((unhide b1).setCell (by show w.heap.size ≤ o; omega) _)⟩
          case measure => simp [intOf]; omega
        · have hs := hide (unhide HS 0 (by omega))
          have h4 := hide (unhide H4 0 0 1 rfl (by omega))
          have hb : wrap64 (bits BinOp.and IntKind.u8 2 1) = 0 := by decide +kernel
          replace hb := hide hb
          go_wp2_with fail
          go_roundw
          case rel => exact ⟨k + 1, 1, upd t k 0, by omega, by go_num, rfl, by omega, hide (bit_upd (unhide ht) (by omega)), h4, hide ((unhide hg).other (by show w.heap.size ≠ o; omega) _), hide ((unhide ro).other (by show w.heap.size + 1 ≠ o; omega) _), hide (by rw [hm1, hm2, ← (unhide hs).1, (unhide hs).2]; first | exact (unhide rn).s0 _ | (rw [unhide hb]; exact (unhide rn).s0 _)), hide ((unhide b1).setCell (by show w.heap.size ≤ o; omega) _)⟩
          case measure => simp [intOf]; omega
        · have hs := hide (unhide HS 0 (by omega))
          have h4 := hide (unhide H4 1 0 0 rfl (by omega))
          have hb : wrap64 (bits BinOp.and IntKind.u8 0 1) = 0 := by decide +kernel
          replace hb := hide hb
          go_wp2_with fail
          go_roundw
          case rel => exact ⟨k + 1, 0, upd t k 0, by omega, by go_num, rfl, by omega, hide (bit_upd (unhide ht) (by omega)), h4, hide ((unhide hg).other (by show w.heap.size ≠ o; omega) _), hide ((unhide ro).other (by show w.heap.size + 1 ≠ o; omega) _), hide (by rw [hm1, hm2, ← (unhide hs).1, (unhide hs).2]; first | exact (unhide rn).s0 _ | (rw [unhide hb]; exact (unhide rn).s0 _)), hide ((unhide b1).setCell (by show w.heap.size ≤ o; omega) _)⟩
          case measure => simp [intOf]; omega
        · have hs := hide (unhide HS 1 (by omega))
          have h4 := hide (unhide H4 1 1 0 rfl (by omega))
          have hb : wrap64 (bits BinOp.and IntKind.u8 1 1) = 1 := by decide +kernel
          replace hb := hide hb
          go_wp2_with fail
          go_roundw
          case rel => exact ⟨k + 1, 0, upd t k 1, by omega, by go_num, rfl, by omega, hide (bit_upd (unhide ht) (by omega)), h4, hide ((unhide hg).other (by show w.heap.size ≠ o; omega) _), hide ((unhide ro).other (by show w.heap.size + 1 ≠ o; omega) _), hide (by rw [hm1, hm2, ← (unhide hs).1, (unhide hs).2]; first | exact (unhide rn).s0 _ | (rw [unhide hb]; exact (unhide rn).s0 _)), hide ((unhide b1).setCell (by show w.heap.size ≤ o; omega) _)⟩
          case measure => simp [intOf]; omega
    · obtain rfl : k = 128 := by omega
      have hn := back_num (T := val t 128) (Z := -(val f 260 : Int)) (a := val t 64) (c := val (sh t) 64) (1 - (c : Int)) (by have h1 := val_128 (unhide HF) (by have := unhide HV; omega); have h2 := unhide hi1; rw [P2_128] at h2; omega) (val_half t) (by have := val_lt (unhide ht) 64; rw [P2_64] at this; exact this)
      have rn2 : R28 wr o (hi (-(val f 260 : Int))) (lo (-(val f 260 : Int))) := by
        have h := unhide rn
        rw [show min 128 64 = 64 from rfl, show 128 - 64 = 64 from rfl, hn.1, hn.2] at h
        exact h
      clear hn rn
      have x0 := rn2.c0
      have x1 := rn2.c1
      have y0 := (unhide ro).c0
      have y1 := (unhide ro).c1
      have f0 := (unhide ro).fr 0
      have f1 := (unhide ro).fr 1
      have R := hide (((unhide ro).s0 (hi (-(val f 260 : Int)))).s1 (lo (-(val f 260 : Int))))
      have BB := hide (((unhide b1).setCell (p := ⟨w.heap.size + 1, 0, none⟩) (by show w.heap.size ≤ w.heap.size + 1; omega) (.int .i64 (hi (-(val f 260 : Int))))).setCell (p := ⟨w.heap.size + 1, 1, none⟩) (by show w.heap.size ≤ w.heap.size + 1; omega) (.int .u64 (lo (-(val f 260 : Int)))))
      replace rn2 := hide rn2
      go_wp2_with fail
      exact bodyPost_ret (results28 rfl _ rfl rfl (unhide R)) rfl ⟨rfl, unhide BB⟩
end Go.Proofs.Ytaknjpddjofgeaa
