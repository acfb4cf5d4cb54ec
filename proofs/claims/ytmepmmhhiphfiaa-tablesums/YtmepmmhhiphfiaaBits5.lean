/- Rows of 260 bits: quo. -/
import Derived.Test.YtmepmmhhiphfiaaBits4
import Derived.Deep.RegionHeld
import Derived.Deep.MidRow
namespace Go.Proofs.Ytmepmmhhiphfiaa
open Go.RowKit
set_option linter.unusedSimpArgs false
structure QR (w wr : World) (f g q r : Nat → Nat) : Prop where
  ra : Row wr w.heap.size f
  rb : Row wr (w.heap.size + 1) g
  rc : ∃ u, Row wr (w.heap.size + 1 + 1) u
  rd : ∃ u, Row wr (w.heap.size + 1 + 1 + 1) u
  rq : Row wr (w.heap.size + 1 + 1 + 1 + 1) q
  rr : Row wr (w.heap.size + 1 + 1 + 1 + 1 + 1) r
  below : Below w.heap.size w wr
theorem QR.start (w : World) (f g : Nat → Nat) : QR w ((((((w.alloc (.cells (bv f) 82)).alloc (.cells (bv g) 82)).alloc (.cells (bv zb) 82)).alloc (.cells (bv zb) 82)).alloc (.cells (bv zb) 82)).alloc (.cells (bv zb) 82)) f g zb zb := by
  obtain ⟨a, b, c, d, e⟩ := rows4 w f g zb zb
  have hs : ((((w.alloc (.cells (bv f) 82)).alloc (.cells (bv g) 82)).alloc (.cells (bv zb) 82)).alloc (.cells (bv zb) 82)).heap.size = w.heap.size + 1 + 1 + 1 + 1 := by simp
  generalize ((((w.alloc (.cells (bv f) 82)).alloc (.cells (bv g) 82)).alloc (.cells (bv zb) 82)).alloc (.cells (bv zb) 82)) = W at *
  obtain ⟨x, y, z⟩ := rows2 W zb zb
  rw [hs] at x y
  exact ⟨(a.alloc _).alloc _, (b.alloc _).alloc _, ⟨_, (c.alloc _).alloc _⟩, ⟨_, (d.alloc _).alloc _⟩, x, y, e.trans (z.mono (by omega))⟩
theorem QR.setr {w wr : World} {f g q r : Nat → Nat} (h : QR w wr f g q r) (k v : Nat) : QR w (wr.setCell ⟨w.heap.size + 1 + 1 + 1 + 1 + 1, k, none⟩ (.int .u8 v)) f g q (upd r k v) :=
  ⟨h.ra.other (by show w.heap.size ≠ w.heap.size + 1 + 1 + 1 + 1 + 1; omega) _, h.rb.other (by show w.heap.size + 1 ≠ w.heap.size + 1 + 1 + 1 + 1 + 1; omega) _, h.rc.imp fun _ r => r.other (by show w.heap.size + 1 + 1 ≠ w.heap.size + 1 + 1 + 1 + 1 + 1; omega) _, h.rd.imp fun _ r => r.other (by show w.heap.size + 1 + 1 + 1 ≠ w.heap.size + 1 + 1 + 1 + 1 + 1; omega) _, h.rq.other (by show w.heap.size + 1 + 1 + 1 + 1 ≠ w.heap.size + 1 + 1 + 1 + 1 + 1; omega) _, h.rr.set k v, h.below.setCell (by show w.heap.size ≤ w.heap.size + 1 + 1 + 1 + 1 + 1; omega) _⟩
theorem QR.setq {w wr : World} {f g q r : Nat → Nat} (h : QR w wr f g q r) (k v : Nat) : QR w (wr.setCell ⟨w.heap.size + 1 + 1 + 1 + 1, k, none⟩ (.int .u8 v)) f g (upd q k v) r :=
  ⟨h.ra.other (by show w.heap.size ≠ w.heap.size + 1 + 1 + 1 + 1; omega) _, h.rb.other (by show w.heap.size + 1 ≠ w.heap.size + 1 + 1 + 1 + 1; omega) _, h.rc.imp fun _ r => r.other (by show w.heap.size + 1 + 1 ≠ w.heap.size + 1 + 1 + 1 + 1; omega) _, h.rd.imp fun _ r => r.other (by show w.heap.size + 1 + 1 + 1 ≠ w.heap.size + 1 + 1 + 1 + 1; omega) _, h.rq.set k v, h.rr.other (by show w.heap.size + 1 + 1 + 1 + 1 + 1 ≠ w.heap.size + 1 + 1 + 1 + 1; omega) _, h.below.setCell (by show w.heap.size ≤ w.heap.size + 1 + 1 + 1 + 1; omega) _⟩
theorem QR.keep {w wr w2 : World} {f g q r : Nat → Nat} (h : QR w wr f g q r) (hb : Below wr.heap.size wr w2) : QR w w2 f g q r :=
  ⟨h.ra.keep hb h.ra.lt, h.rb.keep hb h.rb.lt, h.rc.imp fun _ r => r.keep hb r.lt, h.rd.imp fun _ r => r.keep hb r.lt, h.rq.keep hb h.rq.lt, h.rr.keep hb h.rr.lt, below_via h.below hb⟩
theorem QR.putr {w wr : World} {f g q r : Nat → Nat} (h : QR w wr f g q r) (k : Nat → Nat) : QR w (wr.setRow (w.heap.size + 1 + 1 + 1 + 1 + 1) (bv k)) f g q k :=
  ⟨h.ra.putOther (by omega) _, h.rb.putOther (by omega) _, h.rc.imp fun _ r => r.putOther (by omega) _, h.rd.imp fun _ r => r.putOther (by omega) _, h.rq.putOther (by omega) _, h.rr.put k, below_put h.below (by omega) _⟩
theorem shifted_of {r r1 : Nat → Nat} {b : Nat} (hr : Bit r) (hb : b ≤ 1) (h : ∀ j, r1 j = if 0 < j ∧ j < 260 then r (j - 1) else r j) : Shifted r (upd r1 0 b) b := by
  refine ⟨by unfold upd; rw [if_pos rfl], fun j hj => ?_, bit_upd (fun i => ?_) hb⟩
  · unfold upd
    rw [if_neg (by omega), h, if_pos ⟨by omega, by omega⟩, Nat.add_sub_cancel]
  · rw [h]; split <;> exact hr _
theorem shift_step {r r1 : Nat → Nat} {m : Nat} (hm : m + 1 < 260) (h : ∀ j, r1 j = if m + 1 < j ∧ j < 260 then r (j - 1) else r j) : ∀ j, upd r1 (m + 1) (r1 m) j = if m < j ∧ j < 260 then r (j - 1) else r j := by
  intro j
  unfold upd
  by_cases e : j = m + 1
  · subst e
    rw [if_pos rfl, if_pos ⟨by omega, hm⟩, h m, if_neg (by omega), Nat.add_sub_cancel]
  · rw [if_neg e, h j]
    by_cases c : m + 1 < j ∧ j < 260
    · rw [if_pos c, if_pos ⟨by omega, c.2⟩]
    · rw [if_neg c, if_neg (by omega)]
theorem below_cells {B b : Nat} {a : World} (hb : B ≤ b) : ∀ (vs : List Value) (o : Nat) (w : World), Below B a w → Below B a (w.setCells b o vs)
  | [], _, _, h => h
  | v :: r, o, w, h => below_cells hb r (o + 1) _ (h.setCell (by exact hb) v)
theorem Row.range {w : World} {b : Nat} {f : Nat → Nat} (h : Row w b f) : w.rangeAt b 0 (bv f).toList := by
  intro j v hv
  rw [Nat.zero_add, cell_of_row w b j _ _ _ h]
  simpa using hv
theorem Row.there {w : World} {b : Nat} {f : Nat → Nat} (h : Row w b f) : w.there b 0 260 := by
  intro j hj
  rw [Nat.zero_add]
  exact ⟨by rw [h.cell hj]; rfl, h.frozen j⟩
theorem two_ranges {w : World} {b c : Nat} {cs ds : List Value} (hc : cs.length = 260) (hd : ds.length = 260) (hbc : b ≠ c) (h1 : w.there b 0 260) (h2 : w.there c 0 260) :
    ((w.setCells b 0 cs).setCells c 0 ds).rangeAt b 0 cs ∧ ((w.setCells b 0 cs).setCells c 0 ds).rangeAt c 0 ds :=
  ⟨World.rangeAt_setCells_apart (World.rangeAt_setCells_same w b 0 cs (by rw [hc]; exact h1)) c 0 ds (Or.inl hbc), World.rangeAt_setCells_same _ c 0 ds (by rw [hd]; exact World.there_setCells h2 _ _ _)⟩
theorem results54_2 {fn : Func} {p p' : Tmp} (h : fn.results = #[.cell p 82, .cell p' 82]) (tmps : Array Value) {w : World} {b c : Nat} {cs ds : List Value} (hc : cs.length = 260) (hd : ds.length = 260)
    (hp : tmps.getD p undef = .pointer (some ⟨b, 0, none⟩)) (hp' : tmps.getD p' undef = .pointer (some ⟨c, 0, none⟩)) (hr : w.rangeAt b 0 cs) (hr' : w.rangeAt c 0 ds) :
    (results fn tmps).run Try.prog w = .ok (.tuple #[.agg cs.toArray, .agg ds.toArray]) w := by
  have i0 := (zero_of_info info82).2
  have l1 := run_loadVar_mid (P := Try.prog) w b 0 82 cs _ hr Try.underlying82 rfl (by rw [hc]; exact i0)
  have l2 := run_loadVar_mid (P := Try.prog) w c 0 82 ds _ hr' Try.underlying82 rfl (by rw [hd]; exact i0)
  have e1 : tmps[p]?.getD undef = .pointer (some ⟨b, 0, none⟩) := by simpa using hp
  have e2 : tmps[p']?.getD undef = .pointer (some ⟨c, 0, none⟩) := by simpa using hp'
  simp [results, h, e1, e2, asAddr, l1, l2]
def SQ (b : Nat) (cs ds : List Value) (w : World) : Prop := w.rangeAt (b + 1 + 1 + 1 + 1) 0 cs ∧ w.rangeAt (b + 1 + 1 + 1 + 1 + 1) 0 ds ∧ w.there (b + 1 + 1) 0 260 ∧ w.there (b + 1 + 1 + 1) 0 260
theorem SQ.set {b c : Nat} {cs ds : List Value} {w : World} (h : SQ b cs ds w) (hc : c < b + 1 + 1 + 1 + 1) (vs : List Value) : SQ b cs ds (w.setCells c 0 vs) :=
  ⟨World.rangeAt_setCells_apart h.1 c 0 vs (Or.inl (by omega)), World.rangeAt_setCells_apart h.2.1 c 0 vs (Or.inl (by omega)), World.there_setCells h.2.2.1 _ _ _, World.there_setCells h.2.2.2 _ _ _⟩
def Quo (f g q r : Nat → Nat) : Prop := Bit q ∧ Bit r ∧ val q 260 = val f 260 / val g 260 ∧ val r 260 = val f 260 % val g 260
set_option maxRecDepth 20000 in
set_option maxHeartbeats 4000000 in
theorem quo_any (f g : Nat → Nat) (hf : Bit f) (hg : Bit g) (h0 : 0 < val g 260) (hV : val g 260 ≤ 18446744073709551616) (w : World) :
    Calls Try.prog 56 #[.agg (bv f), .agg (bv g)] w fun e w' => (∃ q r, Quo f g q r ∧ e = .returned (.tuple #[.agg (bv q), .agg (bv r)])) ∧ Below w.heap.size w w' := by
  have Hf := hide hf
  have Hg := hide hg
  have hz := zero54
  have HV := hide hV
  have H0 := hide (QInv.start f h0)
  clear hf hg hV h0
  go_enter Try.func56, Try.ntmps56
  go_wp2_with fail
  go_loopw [8] (fun i wr => ∃ (k : Nat) (z : Int) (q r : Nat → Nat), k ≤ 260 ∧ Hid (z = (k : Int) - 1) ∧ i = .int .i64 z ∧ Hid (QInv f g q r k) ∧ Hid (QR w wr f g q r)) (fun i _ => (intOf i + 1).toNat)
  case atStart => exact ⟨260, 259, zb, zb, by omega, hide (by omega), rfl, H0, hide (QR.start w f g)⟩
  case round =>
    obtain ⟨k, z, q, r, hk, HZ, rfl, HI, HR⟩ := hrel
    clear H0
    rcases k with _ | m
    · obtain rfl : z = -1 := by have := unhide HZ; omega
      have HQ := hide (show Quo f g q r from ⟨(unhide HI).1, (unhide HI).2.1, (unhide HI).done.1, (unhide HI).done.2⟩)
      obtain ⟨uc, hrc⟩ := (unhide HR).rc
      obtain ⟨ud, hrd⟩ := (unhide HR).rd
      have tc := hrc.there
      have td := hrd.there
      have gq := (unhide HR).rq.range
      have gr := (unhide HR).rr.range
      have HBl := hide (unhide HR).below
      have hl1 : (bv q).toList.length = 260 := by simp [bv_size]
      have hl2 : (bv r).toList.length = 260 := by simp [bv_size]
      have ho1 : ∀ v ∈ (bv q).toList, v.oneCell' = true := fun v hv => (Array.all_eq_true_iff_forall_mem.1 (bv_all q)) v (by simpa using hv)
      have ho2 : ∀ v ∈ (bv r).toList, v.oneCell' = true := fun v hv => (Array.all_eq_true_iff_forall_mem.1 (bv_all r)) v (by simpa using hv)
      have q1 : (bv q).toList.toArray = bv q := by simp
      have q2 : (bv r).toList.toArray = bv r := by simp
      have hu := Try.underlying82
      have hi : (Try.prog.info? 82).map (·.size) = some 260 := (zero_of_info info82).2
      replace q1 := hide q1
      replace q2 := hide q2
      generalize (bv q).toList = cs at *
      generalize (bv r).toList = ds at *
      have hi1 : (Try.prog.info? 82).map (·.size) = some cs.length := by rw [hl1]; exact hi
      have hi2 : (Try.prog.info? 82).map (·.size) = some ds.length := by rw [hl2]; exact hi
      clear hrc hrd HR HI hi
      go_wp2_with fail
      have hSd : SQ w.heap.size cs ds wr.drew := ⟨gq, gr, tc, td⟩
      clear gq gr tc td
      refine wp_region_held_drew (S := SQ w.heap.size cs ds) (by kernel_rfl) hSd (fun hS => ?_)
      refine wpAnyH_take (i := 0) (v := .agg cs.toArray) rfl (by kernel_rfl) (by kernel_rfl) (by kernel_rfl) (fun _ _ _ h => h) (yieldsIf_load_mid (by rfl) 82 _ rfl _ _ rfl cs _ (fun w h => h.1) Try.underlying82 rfl hi1) hS ?_
      refine wpAnyH_take (i := 1) (v := .agg ds.toArray) rfl (by kernel_rfl) (by kernel_rfl) (by kernel_rfl) (fun _ _ _ h => h) (yieldsIf_load_mid (by rfl) 82 _ rfl _ _ rfl ds _ (fun w h => h.2.1) Try.underlying82 rfl hi2) hS ?_
      refine wpAnyH_all (rs := [2]) (by kernel_rfl) (by simp) (AllReadyH.cons (i := 2) rfl (fun K' hK => ?_) AllReadyH.nil)
      rw [if_pos (by rfl)]
      refine wp_store_mid 82 _ _ rfl (w.heap.size + 1 + 1) 0 cs.toArray rfl rfl (by simpa [hl1] using hS.2.2.1) (by simpa using hi1) (all_oneCell_toArray ho1) ?_
      refine hK.out _ _ (hS.set (by omega) _) (fun hS2 => ?_)
      refine wpAnyH_all (rs := [3]) (by kernel_rfl) (by simp) (AllReadyH.cons (i := 3) rfl (fun K2 hK2 => ?_) AllReadyH.nil)
      rw [if_pos (by rfl)]
      refine wp_store_mid 82 _ _ rfl (w.heap.size + 1 + 1 + 1) 0 ds.toArray rfl rfl (by simpa [hl2] using hS2.2.2.2) (by simpa using hi2) (all_oneCell_toArray ho2) ?_
      refine hK2.out _ _ (hS2.set (by omega) _) (fun hS3 => ?_)
      refine wpAnyH_done (by kernel_rfl) ?_ _
      have HB3 := hide (below_cells (B := w.heap.size) (a := w) (b := w.heap.size + 1 + 1 + 1) (by omega) ds 0 _ (below_cells (b := w.heap.size + 1 + 1) (by omega) cs 0 _ (below_drew (unhide HBl))))
      obtain ⟨g1, g2⟩ := two_ranges (w := wr.drew) (b := w.heap.size + 1 + 1) (c := w.heap.size + 1 + 1 + 1) hl1 hl2 (by omega) hS.2.2.1 hS.2.2.2
      have G1 := hide g1
      have G2 := hide g2
      clear g1 g2 hS hS2 hS3 hSd hK hK2
      go_wp2_with fail
      refine bodyPost_ret (v := .tuple #[.agg cs.toArray, .agg ds.toArray]) (results54_2 rfl _ hl1 hl2 rfl rfl (unhide G1) (unhide G2)) rfl ⟨⟨q, r, unhide HQ, ?_⟩, unhide HB3⟩
      rw [unhide q1, unhide q2]
    · obtain rfl : z = (m : Int) := by have := unhide HZ; omega
      have hm : m < 260 := by omega
      go_wp2_with fail
      go_loopw [9] (fun i wr' => ∃ (n : Nat) (r1 : Nat → Nat), n < 260 ∧ i = .int .i64 n ∧ Hid (∀ j, r1 j = if n < j ∧ j < 260 then r (j - 1) else r j) ∧ Hid (QR w wr' f g q r1)) (fun i _ => (intOf i).toNat)
      case atStart => exact ⟨259, r, by omega, rfl, hide (fun j => by rw [if_neg (by omega)]), HR⟩
      case round =>
        obtain ⟨n, r1, hn, rfl, HS, HR1⟩ := hrel
        rcases n with _ | n
        · have c1 := (unhide HR1).ra.cell (i := m) hm
          have c2 := (unhide HR1).rr.cell (i := 0) (by omega)
          have f2 := (unhide HR1).rr.frozen 0
          have hfm := unhide Hf m
          have HS2 := hide (shifted_of (b := f m) (unhide HI).2.1 hfm (unhide HS))
          have HR2 := hide ((unhide HR1).setr 0 (f m))
          go_wp2_with fail
          clear c1 c2 f2 HR1 HS
          generalize wr.setCell ⟨w.heap.size + 1 + 1 + 1 + 1 + 1, 0, none⟩ (.int .u8 (f m)) = W at *
          generalize upd r1 0 (f m) = r2 at *
          refine wp_load54 (unhide HR2).rr rfl rfl ?_
          go_wp2_with fail
          refine wp_load54 (unhide HR2).rb rfl rfl ?_
          go_wp2_with fail
          refine (size_any r2 g (unhide HS2).2.2 (unhide Hg) _).mono ?_
          rintro e w2 ⟨rfl, hb⟩
          have HR3 := hide ((unhide HR2).keep hb)
          clear hb HR2
          by_cases hl : val r2 260 < val g 260
          · have HI2 := hide ((unhide HI).less (unhide HS2) (unhide HV) hl)
            rw [ord_lt (by omega)]
            go_wp2_with fail
            go_roundw
            case rel => exact ⟨m, (m : Int) - 1, q, r2, by omega, hide rfl, by go_num, HI2, HR3⟩
            case measure => simp [intOf]
          · have ho : decide (0 ≤ ord (val r2 260) (val g 260)) = true := decide_eq_true (by unfold ord; rw [if_neg (by omega)]; split <;> omega)
            have HM := hide (fun (h : Nat → Nat) (hM : Minus r2 g h) => (unhide HI).more hm (unhide Hf) (unhide HS2) (unhide HV) hl hM)
            generalize ord (val r2 260) (val g 260) = o at *
            clear hl
            go_wp2_with fail
            refine wp_load54 (unhide HR3).rr rfl rfl ?_
            go_wp2_with fail
            refine wp_load54 (unhide HR3).rb rfl rfl ?_
            go_wp2_with fail
            refine (minus_any r2 g (unhide HS2).2.2 (unhide Hg) _).mono ?_
            rintro e w3 ⟨⟨h, hM, rfl⟩, hb⟩
            have HI2 := hide (unhide HM h hM)
            have HR4 := (unhide HR3).keep hb
            have hst := store54c h HR4.rr
            have HR5 := hide (HR4.putr h)
            clear hb HR3 HR4 hM HM
            generalize w3.setRow (w.heap.size + 1 + 1 + 1 + 1 + 1) (bv h) = W5 at *
            have c6 := (unhide HR5).rq.cell (i := m) hm
            have f6 := (unhide HR5).rq.frozen m
            have HR6 := hide ((unhide HR5).setq m 1)
            go_wp2_with fail
            go_roundw
            case rel => exact ⟨m, (m : Int) - 1, upd q m 1, h, by omega, hide rfl, by go_num, HI2, HR6⟩
            case measure => simp [intOf]
        · have c1 := (unhide HR1).rr.cell (i := n) (by omega)
          have c2 := (unhide HR1).rr.cell (i := n + 1) (by omega)
          have f2 := (unhide HR1).rr.frozen (n + 1)
          have e1 : ((n + 1 : Nat) : Int) - 1 = (n : Int) := by omega
          go_wp2_with fail
          go_roundw
          case rel => exact ⟨n, _, by omega, by go_num, hide (shift_step hn (unhide HS)), hide ((unhide HR1).setr (n + 1) (r1 n))⟩
          case measure => simp [intOf]
end Go.Proofs.Ytmepmmhhiphfiaa
