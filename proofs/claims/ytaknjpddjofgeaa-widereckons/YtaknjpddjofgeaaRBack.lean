/- The reference's back: a sign and bits as an Int, where 128 bits hold it. -/
import Derived.Test.YtaknjpddjofgeaaBits10
namespace Go.Proofs.Ytaknjpddjofgeaa
open Go.RowKit
set_option linter.unusedSimpArgs false
theorem ofInt_wrap (n : Int) : BitVec.ofInt 64 (wrap64 n) = BitVec.ofInt 64 n := by
  apply BitVec.eq_of_toNat_eq
  rw [BitVec.toNat_ofInt, BitVec.toNat_ofInt]
  congr 1
  unfold wrap64
  omega
theorem i64_wrap (n : Int) : IntKind.i64.wrap n = wrap64 n := by rw [IntKind.wrap_i64]; unfold wrap64; omega
theorem or_biti {t : Nat → Nat} (ht : Bit t) {m : Nat} (hm : m < 64) : bits .or .i64 (wrap64 ((val t m : Nat) : Int)) (wrap64 ((t m : Int) * 2 ^ m)) = wrap64 ((val t (m + 1) : Nat) : Int) := by
  show IntKind.i64.wrap ((BitVec.ofInt 64 (wrap64 ((val t m : Nat) : Int)) ||| BitVec.ofInt 64 (wrap64 ((t m : Int) * 2 ^ m))).toNat : Int) = wrap64 ((val t m + t m * P2 m : Nat) : Int)
  rw [ofInt_wrap, ofInt_wrap, i64_wrap]
  have hv := val_lt ht m
  have h1 := ht m
  have hm1 := P2_mono m (64 - m)
  have hm2 := P2_mono (m + 1) (64 - (m + 1))
  rw [show m + (64 - m) = 64 by omega, P2_64] at hm1
  rw [show m + 1 + (64 - (m + 1)) = 64 by omega, P2_64, P2_succ] at hm2
  rw [← P2_pow m, ← Int.natCast_mul, BitVec.ofInt_natCast, BitVec.ofInt_natCast, BitVec.toNat_or, BitVec.toNat_ofNat, BitVec.toNat_ofNat, Nat.mod_eq_of_lt (a := val t m) (by omega)]
  generalize t m = b at *
  rcases (show b = 0 ∨ b = 1 by omega) with rfl | rfl
  · rw [Nat.zero_mul, Nat.zero_mod, Nat.or_zero, Nat.add_zero]
  · rw [Nat.one_mul, Nat.mod_eq_of_lt (by omega), P2_npow m, Nat.or_comm]
    have := Nat.two_pow_add_eq_or_of_lt (i := m) (b := val t m) (by rw [← P2_npow]; exact hv) 1
    rw [Nat.mul_one] at this
    rw [← this, ← P2_npow, Nat.add_comm]
theorem back_num {T : Nat} {Z : Int} {a c : Nat} (m : Int) (hT : (T : Int) = Z + 340282366920938463463374607431768211456 * m) (h1 : T = a + 18446744073709551616 * c) (ha : a < 18446744073709551616) : (a : Int) = Z % 18446744073709551616 ∧ wrap64 (c : Int) = wrap64 (Z / 18446744073709551616) := by
  have e1 : (a : Int) = Z % 18446744073709551616 := by omega
  refine ⟨e1, ?_⟩
  have e2 : (c : Int) = Z / 18446744073709551616 + 18446744073709551616 * m := by omega
  rw [e2]
  generalize Z / 18446744073709551616 = q
  unfold wrap64
  omega
/-- Block b holds these two halves, of the reference's Int. -/
def R28 (w : World) (b : Nat) (x y : Int) : Prop := w.heap[b]? = some (.cells #[.int .i64 x, .int .u64 y] 28 (0, 0))
theorem R28.c0 {w : World} {b : Nat} {x y : Int} (h : R28 w b x y) : w.cell? ⟨b, 0, none⟩ = some (.int .i64 x) := by rw [cell_of_row w b 0 _ _ _ h]; rfl
theorem R28.c1 {w : World} {b : Nat} {x y : Int} (h : R28 w b x y) : w.cell? ⟨b, 1, none⟩ = some (.int .u64 y) := by rw [cell_of_row w b 1 _ _ _ h]; rfl
theorem R28.fr {w : World} {b : Nat} {x y : Int} (h : R28 w b x y) (i : Nat) : w.frozen? ⟨b, i, none⟩ = false := frozen_of_row w b i _ _ h
theorem R28.lt {w : World} {b : Nat} {x y : Int} (h : R28 w b x y) : b < w.heap.size := (Array.getElem?_eq_some_iff.1 h).1
theorem R28.s0 {w : World} {b : Nat} {x y : Int} (h : R28 w b x y) (u : Int) : R28 (w.setCell ⟨b, 0, none⟩ (.int .i64 u)) b u y := by unfold R28; rw [Go.heap_setCell_same w b 0 _ _ _ h]; rfl
theorem R28.s1 {w : World} {b : Nat} {x y : Int} (h : R28 w b x y) (u : Int) : R28 (w.setCell ⟨b, 1, none⟩ (.int .u64 u)) b x u := by unfold R28; rw [Go.heap_setCell_same w b 1 _ _ _ h]; rfl
theorem R28.other {w : World} {b : Nat} {x y : Int} (h : R28 w b x y) {a : Addr} (ha : b ≠ a.block) (v : Value) : R28 (w.setCell a v) b x y := (heap_setCell_other w a b v ha).trans h
theorem R28.alloc {w : World} {b : Nat} {x y : Int} (h : R28 w b x y) (o : Obj) : R28 (w.alloc o) b x y := (Below.heap_alloc w o b h.lt).trans h
theorem R28.keep {w w' : World} {B b : Nat} {x y : Int} (h : R28 w b x y) (hb : Below B w w') (hB : b < B) : R28 w' b x y := (hb.block b hB).trans h
theorem R28.new (w : World) (x y : Int) : R28 (w.alloc (.cells #[.int .i64 x, .int .u64 y] 28)) w.heap.size x y := heap_alloc_new w _
theorem results28 {fn : Func} {p q : Tmp} (h : fn.results = #[.cell p 28, .tmp q]) (tmps : Array Value) {w : World} {b : Nat} {x y : Int} {v : Value} (hp : tmps.getD p undef = .pointer (some ⟨b, 0, none⟩)) (hq : tmps.getD q undef = v) (hr : R28 w b x y) :
    (results fn tmps).run Try.prog w = .ok (.tuple #[.agg #[.int .i64 x, .int .u64 y], v]) w := by
  have e1 : tmps[p]?.getD undef = .pointer (some ⟨b, 0, none⟩) := by simpa using hp
  have e2 : tmps[q]?.getD undef = v := by simpa using hq
  have c0 := hr.c0
  have c1 := hr.c1
  simp [results, h, e1, e2, go_sem, c0, c1]
theorem val_half (f : Nat → Nat) : val f 128 = val f 64 + 18446744073709551616 * val (fun j => f (64 + j)) 64 := by
  have h := val_split f 64 64
  rw [P2_64] at h
  exact h
theorem val_128 {f : Nat → Nat} (_hf : Bit f) (h : val f 260 < 340282366920938463463374607431768211456) : val f 128 = val f 260 := by
  have e := val_split f 128 132
  rw [P2_128] at e
  have e' : val f 260 = val f 128 + 340282366920938463463374607431768211456 * val (fun j => f (128 + j)) 132 := e
  rw [e'] at h ⊢
  have : val (fun j => f (128 + j)) 132 = 0 := by omega
  rw [this, Nat.mul_zero, Nat.add_zero]
theorem wrap_0 : wrap64 ((0 : Nat) : Int) = 0 := by unfold wrap64; omega
theorem P2_127 : P2 127 = 170141183460469231731687303715884105728 := by decide +kernel
/-- The upper bits. -/
def sh (f : Nat → Nat) : Nat → Nat := fun j => f (64 + j)
theorem sh_bit {f : Nat → Nat} (h : Bit f) : Bit (sh f) := fun j => h (64 + j)
set_option maxRecDepth 20000 in
set_option maxHeartbeats 4000000 in
theorem back_pos (f : Nat → Nat) (hf : Bit f) (hv : val f 260 < 170141183460469231731687303715884105728) (w : World) : Calls Try.prog 26 #[.agg (gv false f)] w fun e w' => e = .returned (.tuple #[.agg #[.int .i64 (hi (val f 260)), .int .u64 (lo (val f 260))], .bool true]) ∧ Below w.heap.size w w' := by
  have HV := hide hv
  have HO := hide (show ord (val f 260 : Int) ((P2 127 : Nat) : Int) = (-1) by rw [P2_127]; exact ord_lt (by omega))
  clear hv
  have hz4 := zero54
  have HF := hide hf
  clear hf
  obtain ⟨V, s1, r1, b1, hs1⟩ := bits_start ((w.alloc (.cells (gv false f) 60)).alloc (.cells #[.int .i64 0, .int .u64 0] 28)) (upd zb 127 1)
  rw [← bv_tl1] at s1
  have hg := GRow.new w false f
  replace hg := hide ((hg.alloc (.cells #[.int .i64 0, .int .u64 0] 28)).keep b1 (by simp <;> omega))
  have ro := R28.new (w.alloc (.cells (gv false f) 60)) 0 0
  have hsz : (w.alloc (.cells (gv false f) 60)).heap.size = w.heap.size + 1 := by simp
  rw [hsz] at ro
  replace ro := hide (ro.keep b1 (by simp <;> omega))
  replace b1 := hide (below_via (((Below.refl w.heap.size w).alloc (Nat.le_refl _) _).alloc (by simp) _) b1)
  replace r1 := hide r1
  have hsz2 : ((w.alloc (.cells (gv false f) 60)).alloc (.cells #[.int .i64 0, .int .u64 0] 28)).heap.size = w.heap.size + 1 + 1 := by simp
  rw [hsz2] at s1 r1
  clear hs1 hsz hsz2
  have gs := bv_size zb
  go_enter Try.func26, Try.ntmps26
  go_wp2_with fail
  clear s1
  refine wp_loadB (unhide hg) rfl rfl ?_
  go_wp2_with fail
  refine wp_load54 (unhide r1) rfl rfl ?_
  go_wp2_with fail
  refine (size_any f (upd zb 127 1) (unhide HF) (lim_bit 127) _).mono ?_
  rintro e w2 ⟨rfl, hb2⟩
  replace hg := hide ((unhide hg).keep hb2 (unhide hg).lt)
  replace ro := hide ((unhide ro).keep hb2 (unhide ro).lt)
  replace b1 := hide (below_via (unhide b1) hb2)
  clear hb2 r1 gs hz4
  rw [val_lim (by omega), unhide HO]
  clear HO
  have cl := (unhide hg).less
  go_wp2_with fail
  clear cl
  have l1 := (unhide ro).lt
  replace hg := hide ((unhide hg).alloc (.cells #[.int .i64 0, .int .u64 0] 28))
  replace ro := hide ((unhide ro).alloc (.cells #[.int .i64 0, .int .u64 0] 28))
  have rn := hide (R28.new w2 0 0)
  replace b1 := hide (below_via (unhide b1) ((Below.refl w2.heap.size w2).alloc (Nat.le_refl _) (.cells #[.int .i64 0, .int .u64 0] 28)))
  generalize w2.alloc (.cells #[.int .i64 0, .int .u64 0] 28) = W3 at hg ro rn b1 ⊢
  obtain ⟨o, ho⟩ : ∃ o, o = w2.heap.size := ⟨_, rfl⟩
  rw [← ho] at rn l1 ⊢
  clear ho
  go_loopw [7, 8] (fun cr i wr => ∃ k : Nat, k ≤ 128 ∧ i = .int .i64 k ∧ cr = .int .u8 1 ∧ Hid (GRow wr w.heap.size false f) ∧ Hid (R28 wr (w.heap.size + 1) 0 0) ∧ Hid (R28 wr o (wrap64 (val (sh f) (k - 64) : Nat)) (val f (min k 64) : Nat)) ∧ Hid (Below w.heap.size w wr)) (fun _ i _ => 128 - (intOf i).toNat)
  case atStart => exact ⟨0, by omega, rfl, rfl, hg, ro, hide (by show R28 W3 o (wrap64 ((0 : Nat) : Int)) ((0 : Nat) : Int); rw [wrap_0]; exact unhide rn), b1⟩
  case round =>
    clear hg ro rn b1
    obtain ⟨k, hk, rfl, rfl, hg, ro, rn, b1⟩ := hrel
    by_cases hlt : k < 128
    · have ck := (unhide hg).cell (i := k) (by omega)
      have cl := (unhide hg).less
      have hfk := unhide HF k
      by_cases h64 : k < 64
      · have x1 := (unhide rn).c1
        have y1 := (unhide rn).fr 1
        rw [show min k 64 = k by omega] at x1 rn
        rw [show k - 64 = 0 by omega] at rn
        have hs := or_bit (unhide HF) h64
        have hm : min (k + 1) 64 = k + 1 := by omega
        have hm2 : k + 1 - 64 = 0 := by omega
        replace hs := hide hs
        go_wp2_with fail
        rw [unhide hs]
        go_roundw
        case rel => exact ⟨k + 1, by omega, by go_num, rfl, hide ((unhide hg).other (by show w.heap.size ≠ o; omega) _), hide ((unhide ro).other (by show w.heap.size + 1 ≠ o; omega) _), hide (by rw [hm, hm2]; exact (unhide rn).s1 _), hide ((unhide b1).setCell (by show w.heap.size ≤ o; omega) _)⟩
        case measure => simp [intOf]; omega
      · have x0 := (unhide rn).c0
        have y0 := (unhide rn).fr 0
        have hm : min k 64 = 64 := by omega
        have hm1 : min (k + 1) 64 = 64 := by omega
        have hm2 : k + 1 - 64 = k - 64 + 1 := by omega
        have hs := or_biti (sh_bit (unhide HF)) (m := k - 64) (by omega)
        rw [show sh f (k - 64) = f k from by unfold sh; rw [show 64 + (k - 64) = k by omega]] at hs
        rw [hm] at rn
        replace hs := hide hs
        go_wp2_with fail
        rw [unhide hs]
        go_roundw
        case rel => exact ⟨k + 1, by omega, by go_num, rfl, hide ((unhide hg).other (by show w.heap.size ≠ o; omega) _), hide ((unhide ro).other (by show w.heap.size + 1 ≠ o; omega) _), hide (by rw [hm1, hm2]; exact (unhide rn).s0 _), hide ((unhide b1).setCell (by show w.heap.size ≤ o; omega) _)⟩
        case measure => simp [intOf]; omega
    · obtain rfl : k = 128 := by omega
      have hn := back_num (T := val f 128) (Z := (val f 260 : Int)) (a := val f 64) (c := val (sh f) 64) 0 (by have := val_128 (unhide HF) (by have := unhide HV; omega); omega) (val_half f) (by have := val_lt (unhide HF) 64; rw [P2_64] at this; exact this)
      have rn2 : R28 wr o (hi (val f 260)) (lo (val f 260)) := by
        have h := unhide rn
        rw [show min 128 64 = 64 from rfl, show 128 - 64 = 64 from rfl, hn.1, hn.2] at h
        exact h
      clear hn rn
      have x0 := rn2.c0
      have x1 := rn2.c1
      have y0 := (unhide ro).c0
      have y1 := (unhide ro).c1
      have f0 := (unhide ro).fr 0
      have f1 := (unhide ro).fr 1
      have R := hide (((unhide ro).s0 (hi (val f 260))).s1 (lo (val f 260)))
      have BB := hide (((unhide b1).setCell (p := ⟨w.heap.size + 1, 0, none⟩) (by show w.heap.size ≤ w.heap.size + 1; omega) (.int .i64 (hi (val f 260)))).setCell (p := ⟨w.heap.size + 1, 1, none⟩) (by show w.heap.size ≤ w.heap.size + 1; omega) (.int .u64 (lo (val f 260))))
      replace rn2 := hide rn2
      go_wp2_with fail
      exact bodyPost_ret (results28 rfl _ rfl rfl (unhide R)) rfl ⟨rfl, unhide BB⟩
end Go.Proofs.Ytaknjpddjofgeaa
