/- The reference's times. -/
import Derived.Test.YtmepmmhhiphfiaaBits8
namespace Go.Proofs.Ytmepmmhhiphfiaa
open Go.RowKit
set_option linter.unusedSimpArgs false
theorem in128_of {n : Int} (h : In64 n) : In128 n := ⟨by have := h.lo; omega, by have := h.hi; omega⟩
theorem two_big (v : World) (lx : Bool) (fx : Nat → Nat) (ly : Bool) (fy : Nat → Nat) : ∃ W6 W7 : World,
    (storeCells ⟨v.heap.size, 0, none⟩ (gv lx fx).toList).run Try.prog ((v.alloc (.cells (gv false zb) 84)).alloc (.cells (gv false zb) 84)) = .ok () W6 ∧
    (storeCells ⟨v.heap.size + 1, 0, none⟩ (gv ly fy).toList).run Try.prog W6 = .ok () W7 ∧ GRow W7 v.heap.size lx fx ∧ GRow W7 (v.heap.size + 1) ly fy ∧ Below v.heap.size v W7 ∧ W7.heap.size = v.heap.size + 1 + 1 := by
  have g5 := (GRow.new v false zb).alloc (.cells (gv false zb) 84)
  have g6 := GRow.new (v.alloc (.cells (gv false zb) 84)) false zb
  rw [show (v.alloc (.cells (gv false zb) 84)).heap.size = v.heap.size + 1 by simp] at g6
  have b := ((Below.refl v.heap.size v).alloc (Nat.le_refl _) (.cells (gv false zb) 84)).alloc (by simp) (.cells (gv false zb) 84)
  have hs : ((v.alloc (.cells (gv false zb) 84)).alloc (.cells (gv false zb) 84)).heap.size = v.heap.size + 1 + 1 := by simp
  generalize (v.alloc (.cells (gv false zb) 84)).alloc (.cells (gv false zb) 84) = V at *
  refine ⟨_, _, store56c lx fx g5, store56c ly fy (g6.putOther (by omega) _), ?_, ?_, ?_, ?_⟩
  · exact (g5.put (m := lx) fx).putOther (by omega) _
  · exact (g6.putOther (by omega) _).put (m := ly) fy
  · exact below_put (below_put b (by omega) _) (by omega) _
  · rw [setRow_size, setRow_size, hs]
theorem gv_tl (m : Bool) : (gv false zb).toList.set 0 (.bool m) = (gv m zb).toList := by
  rw [← gv_less (l := false) (m := m) (f := zb), Array.toList_setIfInBounds]
structure TR (w : World) (n : Nat) (wr : World) (lx : Bool) (fx : Nat → Nat) (ly : Bool) (fy : Nat → Nat) (sg : Bool) (h : Nat → Nat) : Prop where
  rx : GRow wr n lx fx
  ry : GRow wr (n + 1) ly fy
  ro : GRow wr (n + 1 + 1) sg h
  rr : ∃ l u, GRow wr w.heap.size l u
  lt : w.heap.size < n
  below : Below w.heap.size w wr
theorem TR.keep {w wr w2 : World} {n : Nat} {lx ly sg : Bool} {fx fy h : Nat → Nat} (t : TR w n wr lx fx ly fy sg h) (hb : Below wr.heap.size wr w2) : TR w n w2 lx fx ly fy sg h :=
  ⟨t.rx.keep hb t.rx.lt, t.ry.keep hb t.ry.lt, t.ro.keep hb t.ro.lt, t.rr.imp fun _ e => e.imp fun _ r => r.keep hb r.lt, t.lt, below_via t.below hb⟩
theorem TR.alloc {w wr : World} {n : Nat} {lx ly sg : Bool} {fx fy h : Nat → Nat} (t : TR w n wr lx fx ly fy sg h) (o : Obj) : TR w n (wr.alloc o) lx fx ly fy sg h := t.keep ((Below.refl _ _).alloc (Nat.le_refl _) o)
theorem TR.set {w wr : World} {n : Nat} {lx ly sg : Bool} {fx fy h : Nat → Nat} (t : TR w n wr lx fx ly fy sg h) {a : Addr} (ha : n + 1 + 1 < a.block) (v : Value) : TR w n (wr.setCell a v) lx fx ly fy sg h :=
  ⟨t.rx.other (by omega) _, t.ry.other (by omega) _, t.ro.other (by omega) _, t.rr.imp fun _ e => e.imp fun _ r => r.other (by have := t.lt; omega) _, t.lt, t.below.setCell (by have := t.lt; omega) _⟩
theorem TR.setB {w wr : World} {n : Nat} {lx ly sg : Bool} {fx fy h : Nat → Nat} (t : TR w n wr lx fx ly fy sg h) (g : Nat → Nat) : TR w n (wr.setCells (n + 1 + 1) 1 (bv g).toList) lx fx ly fy sg g :=
  ⟨t.rx.setBOther (by omega) _ _, t.ry.setBOther (by omega) _ _, t.ro.setB g, t.rr.imp fun _ e => e.imp fun _ r => r.setBOther (by have := t.lt; omega) _ _, t.lt, below_cells (by have := t.lt; omega) _ _ _ t.below⟩
theorem out_start (v : World) (sg : Bool) : ∃ V : World, (storeCells ⟨v.heap.size, 0, none⟩ ((gv false zb).toList.set 0 (.bool sg))).run Try.prog (v.alloc (.cells (gv false zb) 84)) = .ok () V ∧ GRow V v.heap.size sg zb ∧ Below v.heap.size v V := by
  have g := GRow.new v false zb
  have b := (Below.refl v.heap.size v).alloc (Nat.le_refl _) (.cells (gv false zb) 84)
  generalize v.alloc (.cells (gv false zb) 84) = V at *
  rw [gv_tl]
  exact ⟨_, store56c sg zb g, g.put (m := sg) zb, below_put b (Nat.le_refl _) _⟩
/-- What is reckoned of the product, k bits of y being through. -/
def Prod (A : Nat) (fy h : Nat → Nat) (k : Nat) : Prop := Bit h ∧ val h 260 = A * val fy k
theorem Prod.start (A : Nat) (fy : Nat → Nat) : Prod A fy zb 0 := ⟨fun _ => by simp [zb], by rw [val_zb]; show 0 = A * 0; omega⟩
theorem Prod.skip {A : Nat} {fy h : Nat → Nat} {k : Nat} (p : Prod A fy h k) (h0 : fy k = 0) : Prod A fy h (k + 1) := ⟨p.1, by rw [p.2]; show A * val fy k = A * (val fy k + fy k * P2 k); rw [h0, Nat.zero_mul, Nat.add_zero]⟩
theorem small_260 : 340282366920938463463374607431768211456 ≤ P2 260 := by
  have := P2_mono 128 132
  rwa [P2_128] at this
theorem Prod.more {A : Nat} {fx fy h h2 : Nat → Nat} {k : Nat} (hk : k < 64) (hf : Bit fy) (hA : A ≤ 9223372036854775808) (hx : val fx 64 = A) (p : Prod A fy h k) (h1 : fy k = 1) (q : Plus h (mv fx k 64) h2) : Prod A fy h2 (k + 1) := by
  obtain ⟨hb, c, hc, e⟩ := q
  have v1 := val_lt hf k
  have v2 := val_lt hf (k + 1)
  have m1 := P2_mono (k + 1) (64 - (k + 1))
  rw [show k + 1 + (64 - (k + 1)) = 64 by omega, P2_64] at m1
  have e1 : val fy (k + 1) = val fy k + 1 * P2 k := by show val fy k + fy k * P2 k = _; rw [h1]
  rw [p.2, val_mv fx hk, hx, Nat.mul_comm (P2 k) A, ← Nat.mul_add, show val fy k + P2 k = val fy (k + 1) by omega] at e
  have m2 : A * val fy (k + 1) ≤ 9223372036854775808 * 18446744073709551616 := Nat.mul_le_mul hA (by omega)
  have s := small_260
  refine ⟨hb, ?_⟩
  rcases (show c = 0 ∨ c = 1 by omega) with rfl | rfl
  · omega
  · omega
theorem big_64 {a : Int} {l : Bool} {f : Nat → Nat} (ha : In64 a) (h : Big a l f) : val f 64 = a.natAbs ∧ a.natAbs ≤ 9223372036854775808 := by
  obtain ⟨hb, _, hv⟩ := h
  have h1 := ha.lo
  have h2 := ha.hi
  have hn : a.natAbs ≤ 9223372036854775808 := by omega
  refine ⟨?_, hn⟩
  have e := val_split f 64 196
  rw [show 64 + 196 = 260 from rfl, hv, P2_64] at e
  have : val (fun j => f (64 + j)) 196 = 0 := by
    rcases Nat.eq_zero_or_pos (val (fun j => f (64 + j)) 196) with z | z
    · exact z
    · omega
  rw [this] at e
  omega
def Times (a b : Int) (l : Bool) (f : Nat → Nat) : Prop := Bit f ∧ l = (decide (a < 0) != decide (b < 0)) ∧ val f 260 = a.natAbs * b.natAbs
set_option maxRecDepth 20000 in
set_option maxHeartbeats 4000000 in
theorem times_any (a b : Int) (ha : In64 a) (hb : In64 b) (w : World) : Calls Try.prog 50 #[.int .i64 a, .int .i64 b] w fun e w' => (∃ l f, Times a b l f ∧ e = .returned (.agg (gv l f))) ∧ Below w.heap.size w w' := by
  have hz := zero56
  have hz4 := zero54
  have HA := hide ha
  have HB := hide hb
  clear ha hb
  go_enter Try.func50, Try.ntmps50
  go_wp2_with fail
  refine (rof_any a (unhide HA) _).mono ?_
  rintro e w1 ⟨rfl, hb1⟩
  have R := (GRow.new w false zb).keep hb1 (by simp)
  have B := below_via ((Below.refl _ _).alloc (Nat.le_refl _) _) hb1
  replace R := hide R
  replace B := hide B
  clear hb1
  go_wp2_with fail
  refine (big_any a (in128_of (unhide HA)) _).mono ?_
  rintro e w2 ⟨⟨lx, fx, hX, rfl⟩, hb2⟩
  replace R := hide ((unhide R).keep hb2 (unhide R).lt)
  replace B := hide (below_via (unhide B) hb2)
  replace hX := hide hX
  clear hb2
  go_wp2_with fail
  refine (rof_any b (unhide HB) _).mono ?_
  rintro e w3 ⟨rfl, hb3⟩
  replace R := hide ((unhide R).keep hb3 (unhide R).lt)
  replace B := hide (below_via (unhide B) hb3)
  clear hb3
  go_wp2_with fail
  refine (big_any b (in128_of (unhide HB)) _).mono ?_
  rintro e w4 ⟨⟨ly, fy, hY, rfl⟩, hb4⟩
  replace R := hide ((unhide R).keep hb4 (unhide R).lt)
  replace B := hide (below_via (unhide B) hb4)
  replace hY := hide hY
  clear hb4
  obtain ⟨W6, W7, s5, s6, gx, gy, bw, hs⟩ := two_big w4 lx fx ly fy
  obtain ⟨W8, s8, g8, b8⟩ := out_start W7 (!(lx == ly))
  rw [hs] at s8 g8
  have hgs := gv_size false zb
  have cx := gx.less
  have cy := gy.less
  have HT := hide (show TR w w4.heap.size W8 lx fx ly fy (!(lx == ly)) zb from ⟨gx.keep b8 gx.lt, gy.keep b8 gy.lt, g8, ⟨_, _, ((unhide R).keep bw (unhide R).lt).keep b8 (Nat.lt_of_lt_of_le (unhide R).lt bw.size)⟩, (unhide R).lt, below_via (below_via (unhide B) bw) b8⟩)
  have HP := hide (Prod.start a.natAbs fy)
  replace gx := hide gx
  replace gy := hide gy
  clear R B bw b8 g8
  go_wp2_with fail
  clear s5 s6 s8 cx cy gx gy hs
  go_loopw [8] (fun i wr => ∃ (k : Nat) (h : Nat → Nat), k ≤ 64 ∧ i = .int .i64 k ∧ Hid (Prod a.natAbs fy h k) ∧ Hid (TR w w4.heap.size wr lx fx ly fy (!(lx == ly)) h)) (fun i _ => 64 - (intOf i).toNat)
  case atStart => exact ⟨0, zb, by omega, rfl, HP, HT⟩
  case round =>
    obtain ⟨k, h, hk, rfl, HP, HT⟩ := hrel
    by_cases hlt : k < 64
    · have ck := (unhide HT).ry.cell (i := k) (by omega)
      have hyk := (unhide hY).1 k
      have HF := hide (fun (e : fy k = 0) => (unhide HP).skip e)
      have HG := hide (fun (e : fy k = 1) (h2 : Nat → Nat) (q : Plus h (mv fx k 64) h2) => (unhide HP).more hlt (unhide hY).1 (big_64 (unhide HA) (unhide hX)).2 (big_64 (unhide HA) (unhide hX)).1 e q)
      generalize fy k = y at *
      have hy : y = 0 ∨ y = 1 := by omega
      clear hyk
      rcases hy with rfl | rfl
      · go_wp2_with fail
        go_roundw
        case rel => exact ⟨k + 1, h, by omega, by go_num, hide (unhide HF rfl), HT⟩
        case measure => simp [intOf]; omega
      · obtain ⟨b9, hb9⟩ : ∃ b9, wr.heap.size = b9 := ⟨_, rfl⟩
        have h9 : w4.heap.size + 1 + 1 < b9 := by rw [← hb9]; exact (unhide HT).ro.lt
        have HT2 := hide ((unhide HT).alloc (.cells (bv zb) 82))
        have HR2 := hide (show Row (wr.alloc (.cells (bv zb) 82)) b9 (mv fx k 0) by rw [mv_zero, ← hb9]; exact Row.new wr zb)
        go_wp2_with fail
        clear ck hb9
        go_loopw [10] (fun i wr' => ∃ m : Nat, m ≤ 64 ∧ i = .int .i64 m ∧ Hid (Row wr' b9 (mv fx k m)) ∧ Hid (TR w w4.heap.size wr' lx fx ly fy (!(lx == ly)) h)) (fun i _ => 64 - (intOf i).toNat)
        case atStart => exact ⟨0, by omega, rfl, HR2, HT2⟩
        case round =>
          obtain ⟨m, hm, rfl, HR3, HT3⟩ := hrel
          by_cases hm2 : m < 64
          · have cx := (unhide HT3).rx.cell (i := m) (by omega)
            have cm := (unhide HR3).cell (i := m + k) (by omega)
            have fm := (unhide HR3).frozen (m + k)
            have hmk : m + k < 260 := by omega
            have HR4 := hide ((unhide HR3).set (m + k) (fx m))
            have HT4 := hide ((unhide HT3).set (a := ⟨b9, m + k, none⟩) h9 (.int .u8 (fx m)))
            rw [mv_step] at HR4
            go_wp2_with fail
            go_roundw
            case rel => exact ⟨m + 1, by omega, by go_num, HR4, HT4⟩
            case measure => simp [intOf]; omega
          · obtain rfl : m = 64 := by omega
            go_wp2_with fail
            refine wp_loadB (unhide HT3).ro rfl rfl ?_
            go_wp2_with fail
            refine wp_load54 (unhide HR3) rfl rfl ?_
            go_wp2_with fail
            refine (plus_any h (mv fx k 64) (unhide HP).1 (mv_bit (unhide hX).1 k 64) _).mono ?_
            rintro e w5 ⟨⟨h2, hP2, rfl⟩, hb5⟩
            have HT5 := (unhide HT3).keep hb5
            have hst := storeB h2 HT5.ro
            have HT6 := hide (HT5.setB h2)
            have HP2 := hide (unhide HG trivial h2 hP2)
            clear hb5 hP2 HT5
            generalize w5.setCells (w4.heap.size + 1 + 1) 1 (bv h2).toList = W9 at *
            go_wp2_with fail
            go_roundw
            case rel => exact ⟨k + 1, h2, by omega, by go_num, HP2, HT6⟩
            case measure => simp [intOf]; omega
    · obtain rfl : k = 64 := by omega
      obtain ⟨l, u, R⟩ := (unhide HT).rr
      have HQ := hide (show Times a b (!(lx == ly)) h from ⟨(unhide HP).1, by rw [(unhide hX).2.1, (unhide hY).2.1]; rfl, by rw [(unhide HP).2, (big_64 (unhide HB) (unhide hY)).1]⟩)
      have hst := store56c (!(lx == ly)) h R
      have Rr := hide (R.put (m := !(lx == ly)) h)
      have HB2 := hide (below_put (unhide HT).below (b := w.heap.size) (Nat.le_refl _) (gv (!(lx == ly)) h))
      clear R HP
      generalize (!(lx == ly)) = sg at *
      go_wp2_with fail
      refine wp_load56 (unhide HT).ro rfl rfl ?_
      go_wp2_with fail
      refine bodyPost_ret (v := .agg (gv sg h)) (results56 rfl _ rfl (unhide Rr)) rfl ⟨⟨sg, h, unhide HQ, rfl⟩, unhide HB2⟩
end Go.Proofs.Ytmepmmhhiphfiaa
