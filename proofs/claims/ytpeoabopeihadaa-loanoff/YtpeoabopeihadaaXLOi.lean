/- LoanOff, lone (of more than the greatest amount). -/
import Derived.Test.YtpeoabopeihadaaXLOf
set_option linter.unusedVariables false
set_option linter.unusedSimpArgs false
set_option linter.unusedSectionVars false
namespace Go.Proofs.Ytpeoabopeihadaa.Mn
open Go.RowKit
attribute [local simp] Tri.typeInfo Tri.sizeOf Tri.underlying Tri.runUnderlying Tri.isAgg Tri.zeroValue Tri.depth Tri.stoodInHeld Tri.eqGuardType Tri.call15 Tri.call26 Tri.call27 Tri.call31 Tri.call32 Tri.call33 Tri.call36 Tri.call37 Tri.call44 Tri.call46 Tri.call49 Tri.call52 Tri.call54 Tri.call65 Tri.call66 Tri.call68 Tri.call69 Tri.call70 Tri.call72 Tri.call73 Tri.call74 Tri.call75 Tri.call81 Tri.call82 Tri.call83 Tri.call84 Tri.call85 Tri.call86 Tri.call87 Tri.call88 Tri.call95 Tri.call99 Tri.call100 Tri.call101 Tri.call106 Tri.call116 Tri.call117 Tri.call118 Tri.call119 Tri.call120 Tri.call122 Tri.call123 Tri.call124 Tri.call125 Tri.call126 Tri.call143 Tri.call144 Tri.call145 Tri.call146 Tri.call147 Tri.call156 Tri.call157 Tri.call159 Tri.call160 Tri.call161 Tri.call162 Tri.call163 Tri.call164 Tri.call165 Tri.call175 Tri.call176 Tri.call186 Tri.call188 Tri.call205
set_option maxHeartbeats 8000000 in
set_option maxRecDepth 20000 in
theorem lo_gox (L : Ln) (a : Option Addr) (n c n3 : Nat) (l : List Int) (q : Int) (w : World) (hR : Row w (.slice a n c) l) (hS : Sl a n c) (hl : l.length ≤ 17592186044000) (hn3 : l.length = n3) (t0 : decide ((700 : Int) < (n : Int)) = false) (t1 : rightB L l = true) (t2 : (L.st != 1) = false) (t3 : (L.gr == 0) = false) (t4 : decide (10000000000000 < L.gr) = false) (m1 : ¬ q < 1) (m2 : 10000000000000 < q) (hst : L.st = 1) (hg1 : 0 < L.gr) (hg2 : L.gr ≤ 10000000000000) : OffL w L (.slice a n c) q := by
  have HRt0 := hide (rt_of t1)
  have HSt := hide hst
  clear hst
  have HLn : Hid (l.length ≤ 17592186044000) := hide (by omega)
  unfold OffL
  have HA := hide aliveL
  unfold AliveL at HA
  have HK := hide (Blk.new w (lnA L (.slice a n c)) 56)
  have HB := hide (below1L w (.cells (lnA L (.slice a n c)) 56))
  have HTo : Hid (∀ w1, Below w.heap.size w w1 → Calls (Tri Try.prog) 32 #[.agg (lnA L (.slice a n c))] w1 fun z w' => ∃ a3 c3, z = .returned (.agg (lnA L (.slice a3 n3 c3))) ∧ Row w' (.slice a3 n3 c3) l ∧ Sl a3 n3 c3 ∧ Below w1.heap.size w1 w') := hide (fun w1 hb => (to_any (hR.below hb (Nat.le_refl _)) hS hl).mono fun z w' ⟨a3, c3, g1, g2, g3, _, g5⟩ => by
    rw [hn3] at g1 g2 g3
    exact ⟨a3, c3, g1, g2, g3, g5⟩)
  clear hR hS hl hn3
  go_enter (Tri.at (by decide) Try.func9), Try.ntmps9
  go_wp2_with fail
  refine (unhide HA _).mono ?_
  rintro z w1 ⟨rfl, hb⟩
  replace HK := hide ((unhide HK).keep hb)
  replace HB := hide (below_via (unhide HB) hb)
  clear hb HA
  have k0k := (unhide HK).at 0 (.int .i64 L.id) rfl
  have k1k := (unhide HK).at 1 (.int .i64 L.st) rfl
  have k2k := (unhide HK).at 2 (.int .i64 L.be) rfl
  have k3k := (unhide HK).at 3 (.int .i64 L.out) rfl
  have k4k := (unhide HK).at 4 (.int .i64 L.rt) rfl
  have k5k := (unhide HK).at 5 (.int .i64 L.gr) rfl
  have k6k := (unhide HK).at 6 (.int .i64 L.due) rfl
  have k7k := (unhide HK).at 7 (.int .i64 L.inc) rfl
  have k8k := (unhide HK).at 8 (.int .i64 L.got) rfl
  have k9k := (unhide HK).at 9 (.int .i64 L.adj) rfl
  have k10k := (unhide HK).at 10 (.int .i64 L.wri) rfl
  have k11k := (unhide HK).at 11 (.int .i64 L.rcv) rfl
  have k12k := (unhide HK).at 12 (.slice a n c) rfl
  go_wp2_with fail
  refine (unhide HTo _ (unhide HB)).mono ?_
  rintro z w2 ⟨a3, c3, rfl, hr, hs, hb⟩
  replace HK : Hid (Blk (w2.alloc (.cells (lnA L (.slice a3 n3 c3)) 53)) w.heap.size (lnA L (.slice a n c)) 56) := hide (((unhide HK).keep hb).alloc _)
  replace HB : Hid (Below w.heap.size w (w2.alloc (.cells (lnA L (.slice a3 n3 c3)) 53))) := hide (below_via (below_via (unhide HB) hb) (below1L w2 _))
  have HX := hide (Blk.new w2 (lnA L (.slice a3 n3 c3)) 53)
  have HR3 : Hid (Row (w2.alloc (.cells (lnA L (.slice a3 n3 c3)) 53)) (.slice a3 n3 c3) l) := hide (hr.alloc _)
  have HS3 := hide hs
  have y12 := (unhide HK).at 12 (.slice a n c) rfl
  clear hb hr hs HTo k0k k1k k2k k3k k4k k5k k6k k7k k8k k9k k10k k11k k12k
  have HRt : Hid (∀ w1, Row w1 (.slice a3 n3 c3) l → Tells 31 w1 #[.agg (lnA L (.slice a3 n3 c3))] (rightB L l)) := hide (fun w1 h => right_any L a3 n3 c3 l w1 h)
  unfold Tells at HRt
  rw [t1] at HRt
  clear t1
  go_wp2_with fail
  refine (unhide HRt _ (unhide HR3)).mono ?_
  rintro z w3 ⟨rfl, hb⟩
  replace HX := hide ((unhide HX).keep hb)
  replace HB := hide (below_via (unhide HB) hb)
  replace HR3 := hide ((unhide HR3).below hb (Nat.le_refl _))
  clear hb HRt HK y12
  have x0 := (unhide HX).at 0 (.int .i64 L.id) rfl
  have x1 := (unhide HX).at 1 (.int .i64 L.st) rfl
  have x2 := (unhide HX).at 2 (.int .i64 L.be) rfl
  have x3 := (unhide HX).at 3 (.int .i64 L.out) rfl
  have x4 := (unhide HX).at 4 (.int .i64 L.rt) rfl
  have x5 := (unhide HX).at 5 (.int .i64 L.gr) rfl
  have x6 := (unhide HX).at 6 (.int .i64 L.due) rfl
  have x7 := (unhide HX).at 7 (.int .i64 L.inc) rfl
  have x8 := (unhide HX).at 8 (.int .i64 L.got) rfl
  have x9 := (unhide HX).at 9 (.int .i64 L.adj) rfl
  have x10 := (unhide HX).at 10 (.int .i64 L.wri) rfl
  have x11 := (unhide HX).at 11 (.int .i64 L.rcv) rfl
  have x12 := (unhide HX).at 12 (.slice a3 n3 c3) rfl
  obtain ⟨hw1, hw2⟩ := off_write (unhide HRt0) (unhide HSt) hg1 hg2
  have HW := hide (step_3 (L := L) (p := L.gr) (unhide HR3) (unhide HS3) (unhide HLn))
  have HQ := hide hw2
  clear hw2 HSt HRt0
  generalize stepE 3 L l L.gr = E at *
  generalize stepR 3 L l L.gr = R at *
  go_wp2_with fail
  refine (unhide HW).mono ?_
  rintro z w4 ⟨a4, c4, rfl, hr, hs, _, hb⟩
  replace HX := hide ((unhide HX).keep hb)
  replace HB := hide (below_via (unhide HB) hb)
  clear HW HR3 HS3 x0 x1 x2 x3 x4 x5 x6 x7 x8 x9 x10 x11 x12
  rcases hw1 with hE | hE
  case inr =>
    subst hE
    have HB2 := hide (below_via (unhide HB) ((below1L w4 (.cells (lnA (R.K) (.slice a4 R.l.length c4)) 53)).alloc (by simp) (.cells #[.int .i64 R.m.i, .int .i64 R.m.p, .int .i64 R.m.w, .int .i64 R.m.r] 65)))
    clear hb hr hs HQ
    go_wp2_with fail
    go_ret
    exact ⟨rfl, unhide HB2⟩
  subst hE
  obtain ⟨hR1, hR2⟩ := unhide HQ rfl
  subst hR1
  simp only [List.length_nil] at hR2 hr hs ⊢
  have bb : Below w4.heap.size w4 ((w4.alloc (.cells #[.int .i64 L.id, .int .i64 3, .int .i64 0, .int .i64 L.out, .int .i64 L.rt, .int .i64 0, .int .i64 0, .int .i64 L.inc, .int .i64 L.got, .int .i64 L.adj, .int .i64 (L.wri + L.gr), .int .i64 L.rcv, .slice a4 0 c4] 53)).alloc (.cells #[.int .i64 0, .int .i64 0, .int .i64 L.gr, .int .i64 0] 65)) := (below1L w4 _).alloc (by simp) _
  replace HX := hide ((unhide HX).keep bb)
  replace HB := hide (below_via (unhide HB) bb)
  have HKb : Hid (Blk ((w4.alloc (.cells #[.int .i64 L.id, .int .i64 3, .int .i64 0, .int .i64 L.out, .int .i64 L.rt, .int .i64 0, .int .i64 0, .int .i64 L.inc, .int .i64 L.got, .int .i64 L.adj, .int .i64 (L.wri + L.gr), .int .i64 L.rcv, .slice a4 0 c4] 53)).alloc (.cells #[.int .i64 0, .int .i64 0, .int .i64 L.gr, .int .i64 0] 65)) w4.heap.size #[.int .i64 L.id, .int .i64 3, .int .i64 0, .int .i64 L.out, .int .i64 L.rt, .int .i64 0, .int .i64 0, .int .i64 L.inc, .int .i64 L.got, .int .i64 L.adj, .int .i64 (L.wri + L.gr), .int .i64 L.rcv, .slice a4 0 c4] 53) := hide ((Blk.new w4 #[.int .i64 L.id, .int .i64 3, .int .i64 0, .int .i64 L.out, .int .i64 L.rt, .int .i64 0, .int .i64 0, .int .i64 L.inc, .int .i64 L.got, .int .i64 L.adj, .int .i64 (L.wri + L.gr), .int .i64 L.rcv, .slice a4 0 c4] 53).alloc _)
  have HRk : Hid (Row ((w4.alloc (.cells #[.int .i64 L.id, .int .i64 3, .int .i64 0, .int .i64 L.out, .int .i64 L.rt, .int .i64 0, .int .i64 0, .int .i64 L.inc, .int .i64 L.got, .int .i64 L.adj, .int .i64 (L.wri + L.gr), .int .i64 L.rcv, .slice a4 0 c4] 53)).alloc (.cells #[.int .i64 0, .int .i64 0, .int .i64 L.gr, .int .i64 0] 65)) (.slice a4 0 c4) []) := hide ((hr.alloc _).alloc _)
  have HDo : Hid (∀ (kd : Int) (W : World), (kd = 1 ∨ kd = 2 ∨ kd = 3) → Row W (.slice a4 0 c4) [] → Calls (Tri Try.prog) 33 #[.agg #[.int .i64 L.id, .int .i64 3, .int .i64 0, .int .i64 L.out, .int .i64 L.rt, .int .i64 0, .int .i64 0, .int .i64 L.inc, .int .i64 L.got, .int .i64 L.adj, .int .i64 (L.wri + L.gr), .int .i64 L.rcv, .slice a4 0 c4], .int .i64 kd, .int .i64 10000000000000] W fun z w2 => ∃ (a5 : Option Addr) (n5 c5 : Nat) (K5 : Ln) (m0 m1 m2 m3 : Int), z = .returned (.tuple #[.agg (lnA K5 (.slice a5 n5 c5)), .agg #[.int .i64 m0, .int .i64 m1, .int .i64 m2, .int .i64 m3], .int .i64 12]) ∧ Below W.heap.size W w2) := hide (fun kd W hk hrow => (dok_any (L := { L with gr := 0, wri := L.wri + L.gr, st := 3, due := 0, be := 0 }) (kd := kd) (p := 10000000000000) hrow hs (by simp)).mono fun z w2 ⟨a5, c5, g1, _, _, _, g5⟩ => by
    have hd := off_do (n := 10000000000000) hR2 rfl ⟨by omega, by omega⟩
    have e12 : stepE (kOf kd) { L with gr := 0, wri := L.wri + L.gr, st := 3, due := 0, be := 0 } [] 10000000000000 = 12 := by
      rcases hk with rfl | rfl | rfl
      · exact hd.1
      · exact hd.2.1
      · exact hd.2.2
    rw [e12] at g1
    exact ⟨a5, _, c5, _, _, _, _, _, g1, g5⟩)
  have HRc : Hid (∀ W : World, Row W (.slice a4 0 c4) [] → Calls (Tri Try.prog) 37 #[.agg #[.int .i64 L.id, .int .i64 3, .int .i64 0, .int .i64 L.out, .int .i64 L.rt, .int .i64 0, .int .i64 0, .int .i64 L.inc, .int .i64 L.got, .int .i64 L.adj, .int .i64 (L.wri + L.gr), .int .i64 L.rcv, .slice a4 0 c4], .int .i64 10000000000000] W fun z w2 => ∃ (a5 : Option Addr) (n5 c5 : Nat) (K5 : Ln) (m0 m1 m2 m3 E5 : Int), z = .returned (.tuple #[.agg (lnA K5 (.slice a5 n5 c5)), .agg #[.int .i64 m0, .int .i64 m1, .int .i64 m2, .int .i64 m3], .int .i64 E5]) ∧ (E5 = 3 ∨ (E5 = 0 ∧ K5.rcv = L.rcv + 10000000000000 ∧ m3 = 10000000000000 ∧ K5.gr = 0)) ∧ Below W.heap.size W w2) := hide (fun W hrow => (step_4 (L := { L with gr := 0, wri := L.wri + L.gr, st := 3, due := 0, be := 0 }) (p := 10000000000000) hrow hs (by simp)).mono fun z w2 ⟨a5, c5, g1, _, _, _, g5⟩ => by
    obtain ⟨r1, r2⟩ := off_rec (n := 10000000000000) hR2 rfl ⟨by omega, by omega⟩
    refine ⟨a5, _, c5, _, _, _, _, _, _, g1, ?_, g5⟩
    rcases r1 with r1 | r1
    · have := r2 r1
      rw [this]
      exact .inr ⟨r1, rfl, rfl, rfl⟩
    · exact .inl r1)
  obtain ⟨rb1, rb2⟩ := hR2.rcv
  replace rb1 : 0 ≤ L.rcv := rb1
  replace rb2 : L.rcv ≤ 1125899906842624 := rb2
  have x5 := (unhide HX).at 5 (.int .i64 L.gr) rfl
  clear hb hr hs bb HQ hR2
  go_wp2_with fail
  refine wp_loop_rounds 4 ?_
  have g0g := (unhide HKb).at 0 (.int .i64 L.id) rfl
  have g1g := (unhide HKb).at 1 (.int .i64 3) rfl
  have g2g := (unhide HKb).at 2 (.int .i64 0) rfl
  have g3g := (unhide HKb).at 3 (.int .i64 L.out) rfl
  have g4g := (unhide HKb).at 4 (.int .i64 L.rt) rfl
  have g5g := (unhide HKb).at 5 (.int .i64 0) rfl
  have g6g := (unhide HKb).at 6 (.int .i64 0) rfl
  have g7g := (unhide HKb).at 7 (.int .i64 L.inc) rfl
  have g8g := (unhide HKb).at 8 (.int .i64 L.got) rfl
  have g9g := (unhide HKb).at 9 (.int .i64 L.adj) rfl
  have g10g := (unhide HKb).at 10 (.int .i64 (L.wri + L.gr)) rfl
  have g11g := (unhide HKb).at 11 (.int .i64 L.rcv) rfl
  have g12g := (unhide HKb).at 12 (.slice a4 0 c4) rfl
  rw [rounds_succ]
  go_wp2_with fail
  refine (unhide HDo 1 _ (by decide) (unhide HRk)).mono ?_
  rintro z v1 ⟨a5, n5, c5, K5, m0, m1, m2, m3, rfl, hb⟩
  replace HKb := hide (((unhide HKb).keep hb).keep ((below1L v1 (.cells (lnA K5 (.slice a5 n5 c5)) 53)).alloc (by simp) (.cells #[.int .i64 m0, .int .i64 m1, .int .i64 m2, .int .i64 m3] 65)))
  replace HB := hide (below_via (below_via (unhide HB) hb) ((below1L v1 (.cells (lnA K5 (.slice a5 n5 c5)) 53)).alloc (by simp) (.cells #[.int .i64 m0, .int .i64 m1, .int .i64 m2, .int .i64 m3] 65)))
  replace HRk := hide (((unhide HRk).below hb (Nat.le_refl _)).below ((below1L v1 (.cells (lnA K5 (.slice a5 n5 c5)) 53)).alloc (by simp) (.cells #[.int .i64 m0, .int .i64 m1, .int .i64 m2, .int .i64 m3] 65)) (Nat.le_refl _))
  clear hb
  go_wp2_with fail
  clear g0g g1g g2g g3g g4g g5g g6g g7g g8g g9g g10g g11g g12g
  have g0g := (unhide HKb).at 0 (.int .i64 L.id) rfl
  have g1g := (unhide HKb).at 1 (.int .i64 3) rfl
  have g2g := (unhide HKb).at 2 (.int .i64 0) rfl
  have g3g := (unhide HKb).at 3 (.int .i64 L.out) rfl
  have g4g := (unhide HKb).at 4 (.int .i64 L.rt) rfl
  have g5g := (unhide HKb).at 5 (.int .i64 0) rfl
  have g6g := (unhide HKb).at 6 (.int .i64 0) rfl
  have g7g := (unhide HKb).at 7 (.int .i64 L.inc) rfl
  have g8g := (unhide HKb).at 8 (.int .i64 L.got) rfl
  have g9g := (unhide HKb).at 9 (.int .i64 L.adj) rfl
  have g10g := (unhide HKb).at 10 (.int .i64 (L.wri + L.gr)) rfl
  have g11g := (unhide HKb).at 11 (.int .i64 L.rcv) rfl
  have g12g := (unhide HKb).at 12 (.slice a4 0 c4) rfl
  rw [rounds_succ]
  go_wp2_with fail
  refine (unhide HDo 2 _ (by decide) (unhide HRk)).mono ?_
  rintro z v2 ⟨a5, n5, c5, K5, m0, m1, m2, m3, rfl, hb⟩
  replace HKb := hide (((unhide HKb).keep hb).keep ((below1L v2 (.cells (lnA K5 (.slice a5 n5 c5)) 53)).alloc (by simp) (.cells #[.int .i64 m0, .int .i64 m1, .int .i64 m2, .int .i64 m3] 65)))
  replace HB := hide (below_via (below_via (unhide HB) hb) ((below1L v2 (.cells (lnA K5 (.slice a5 n5 c5)) 53)).alloc (by simp) (.cells #[.int .i64 m0, .int .i64 m1, .int .i64 m2, .int .i64 m3] 65)))
  replace HRk := hide (((unhide HRk).below hb (Nat.le_refl _)).below ((below1L v2 (.cells (lnA K5 (.slice a5 n5 c5)) 53)).alloc (by simp) (.cells #[.int .i64 m0, .int .i64 m1, .int .i64 m2, .int .i64 m3] 65)) (Nat.le_refl _))
  clear hb
  go_wp2_with fail
  clear g0g g1g g2g g3g g4g g5g g6g g7g g8g g9g g10g g11g g12g
  have g0g := (unhide HKb).at 0 (.int .i64 L.id) rfl
  have g1g := (unhide HKb).at 1 (.int .i64 3) rfl
  have g2g := (unhide HKb).at 2 (.int .i64 0) rfl
  have g3g := (unhide HKb).at 3 (.int .i64 L.out) rfl
  have g4g := (unhide HKb).at 4 (.int .i64 L.rt) rfl
  have g5g := (unhide HKb).at 5 (.int .i64 0) rfl
  have g6g := (unhide HKb).at 6 (.int .i64 0) rfl
  have g7g := (unhide HKb).at 7 (.int .i64 L.inc) rfl
  have g8g := (unhide HKb).at 8 (.int .i64 L.got) rfl
  have g9g := (unhide HKb).at 9 (.int .i64 L.adj) rfl
  have g10g := (unhide HKb).at 10 (.int .i64 (L.wri + L.gr)) rfl
  have g11g := (unhide HKb).at 11 (.int .i64 L.rcv) rfl
  have g12g := (unhide HKb).at 12 (.slice a4 0 c4) rfl
  rw [rounds_succ]
  go_wp2_with fail
  refine (unhide HDo 3 _ (by decide) (unhide HRk)).mono ?_
  rintro z v3 ⟨a5, n5, c5, K5, m0, m1, m2, m3, rfl, hb⟩
  replace HKb := hide (((unhide HKb).keep hb).keep ((below1L v3 (.cells (lnA K5 (.slice a5 n5 c5)) 53)).alloc (by simp) (.cells #[.int .i64 m0, .int .i64 m1, .int .i64 m2, .int .i64 m3] 65)))
  replace HB := hide (below_via (below_via (unhide HB) hb) ((below1L v3 (.cells (lnA K5 (.slice a5 n5 c5)) 53)).alloc (by simp) (.cells #[.int .i64 m0, .int .i64 m1, .int .i64 m2, .int .i64 m3] 65)))
  replace HRk := hide (((unhide HRk).below hb (Nat.le_refl _)).below ((below1L v3 (.cells (lnA K5 (.slice a5 n5 c5)) 53)).alloc (by simp) (.cells #[.int .i64 m0, .int .i64 m1, .int .i64 m2, .int .i64 m3] 65)) (Nat.le_refl _))
  clear hb
  go_wp2_with fail
  clear g0g g1g g2g g3g g4g g5g g6g g7g g8g g9g g10g g11g g12g
  have g0g := (unhide HKb).at 0 (.int .i64 L.id) rfl
  have g1g := (unhide HKb).at 1 (.int .i64 3) rfl
  have g2g := (unhide HKb).at 2 (.int .i64 0) rfl
  have g3g := (unhide HKb).at 3 (.int .i64 L.out) rfl
  have g4g := (unhide HKb).at 4 (.int .i64 L.rt) rfl
  have g5g := (unhide HKb).at 5 (.int .i64 0) rfl
  have g6g := (unhide HKb).at 6 (.int .i64 0) rfl
  have g7g := (unhide HKb).at 7 (.int .i64 L.inc) rfl
  have g8g := (unhide HKb).at 8 (.int .i64 L.got) rfl
  have g9g := (unhide HKb).at 9 (.int .i64 L.adj) rfl
  have g10g := (unhide HKb).at 10 (.int .i64 (L.wri + L.gr)) rfl
  have g11g := (unhide HKb).at 11 (.int .i64 L.rcv) rfl
  have g12g := (unhide HKb).at 12 (.slice a4 0 c4) rfl
  rw [rounds_succ]
  go_wp2_with fail
  refine (unhide HRc _ (unhide HRk)).mono ?_
  rintro z w8 ⟨a5, n5, c5, K5, m0, m1, m2, m3, E5, rfl, h5, hb⟩
  replace HKb := hide (((unhide HKb).keep hb).keep ((below1L w8 (.cells (lnA K5 (.slice a5 n5 c5)) 53)).alloc (by simp) (.cells #[.int .i64 m0, .int .i64 m1, .int .i64 m2, .int .i64 m3] 65)))
  replace HB := hide (below_via (below_via (unhide HB) hb) ((below1L w8 (.cells (lnA K5 (.slice a5 n5 c5)) 53)).alloc (by simp) (.cells #[.int .i64 m0, .int .i64 m1, .int .i64 m2, .int .i64 m3] 65)))
  clear hb HRk HRc g0g g1g g2g g3g g4g g5g g6g g7g g8g g9g g10g g11g g12g
  have g11 := (unhide HKb).at 11 (.int .i64 L.rcv) rfl
  rcases h5 with rfl | ⟨rfl, e1, e2, e3⟩
  · go_wp2_with fail
    go_ret
    exact ⟨rfl, unhide HB⟩
  · have z1 : (K5.rcv == L.rcv + 10000000000000) = true := by simpa using e1
    have z2 : (m3 == 10000000000000) = true := by simpa using e2
    have z3 : (K5.gr == 0) = true := by simpa using e3
    clear e1 e2 e3
    go_wp2_with fail
    go_ret
    exact ⟨rfl, unhide HB⟩
end Go.Proofs.Ytpeoabopeihadaa.Mn
