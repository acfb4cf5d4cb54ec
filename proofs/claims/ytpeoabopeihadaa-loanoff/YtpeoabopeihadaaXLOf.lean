/- LoanOff, lone (where nothing is asked). -/
import Derived.Test.YtpeoabopeihadaaXS
import Derived.Test.YtpeoabopeihadaaXU
set_option linter.unusedVariables false
set_option linter.unusedSimpArgs false
set_option linter.unusedSectionVars false
namespace Go.Proofs.Ytpeoabopeihadaa.Mn
open Go.RowKit
attribute [local simp] Tri.typeInfo Tri.sizeOf Tri.underlying Tri.runUnderlying Tri.isAgg Tri.zeroValue Tri.depth Tri.stoodInHeld Tri.eqGuardType Tri.call15 Tri.call26 Tri.call27 Tri.call31 Tri.call32 Tri.call33 Tri.call36 Tri.call37 Tri.call44 Tri.call46 Tri.call49 Tri.call52 Tri.call54 Tri.call65 Tri.call66 Tri.call68 Tri.call69 Tri.call70 Tri.call72 Tri.call73 Tri.call74 Tri.call75 Tri.call81 Tri.call82 Tri.call83 Tri.call84 Tri.call85 Tri.call86 Tri.call87 Tri.call88 Tri.call95 Tri.call99 Tri.call100 Tri.call101 Tri.call106 Tri.call116 Tri.call117 Tri.call118 Tri.call119 Tri.call120 Tri.call122 Tri.call123 Tri.call124 Tri.call125 Tri.call126 Tri.call143 Tri.call144 Tri.call145 Tri.call146 Tri.call147 Tri.call156 Tri.call157 Tri.call159 Tri.call160 Tri.call161 Tri.call162 Tri.call163 Tri.call164 Tri.call165 Tri.call175 Tri.call176 Tri.call186 Tri.call188 Tri.call205
def OffL (w : World) (L : Ln) (v : Value) (q : Int) : Prop := Calls (Tri Try.prog) 9 #[.agg (lnA L v), .int .i64 q] w fun z w' => z = .returned (.bool true) ∧ Below w.heap.size w w'
theorem lo_long (L : Ln) (a : Option Addr) (n c n3 : Nat) (l : List Int) (q : Int) (w : World) (hR : Row w (.slice a n c) l) (hS : Sl a n c) (hl : l.length ≤ 17592186044000) (hn3 : l.length = n3) (t0 : decide ((700 : Int) < (n : Int)) = true) : OffL w L (.slice a n c) q := by
  unfold OffL
  have HA := hide aliveL
  unfold AliveL at HA
  have HK := hide (Blk.new w (lnA L (.slice a n c)) 56)
  have HB := hide (below1L w (.cells (lnA L (.slice a n c)) 56))
  have HTo : Hid (∀ w1, Below w.heap.size w w1 → Calls (Tri Try.prog) 32 #[.agg (lnA L (.slice a n c))] w1 fun z w' => ∃ a3 c3, z = .returned (.agg (lnA L (.slice a3 n3 c3))) ∧ Row w' (.slice a3 n3 c3) l ∧ Sl a3 n3 c3 ∧ Below w1.heap.size w1 w') := hide (fun w1 hb => (to_any (hR.below hb (Nat.le_refl _)) hS hl).mono fun z w' ⟨a3, c3, g1, g2, g3, _, g5⟩ => by
    rw [hn3] at g1 g2 g3
    exact ⟨a3, c3, g1, g2, g3, g5⟩)
  clear hR hS hl hn3
  go_enter (Tri.at (by decide) Try.func9), Try.ntmps9
  go_wp2_with fail
  refine (unhide HA _).mono ?_
  rintro z w1 ⟨rfl, hb⟩
  replace HK := hide ((unhide HK).keep hb)
  replace HB := hide (below_via (unhide HB) hb)
  clear hb HA
  have k0k := (unhide HK).at 0 (.int .i64 L.id) rfl
  have k1k := (unhide HK).at 1 (.int .i64 L.st) rfl
  have k2k := (unhide HK).at 2 (.int .i64 L.be) rfl
  have k3k := (unhide HK).at 3 (.int .i64 L.out) rfl
  have k4k := (unhide HK).at 4 (.int .i64 L.rt) rfl
  have k5k := (unhide HK).at 5 (.int .i64 L.gr) rfl
  have k6k := (unhide HK).at 6 (.int .i64 L.due) rfl
  have k7k := (unhide HK).at 7 (.int .i64 L.inc) rfl
  have k8k := (unhide HK).at 8 (.int .i64 L.got) rfl
  have k9k := (unhide HK).at 9 (.int .i64 L.adj) rfl
  have k10k := (unhide HK).at 10 (.int .i64 L.wri) rfl
  have k11k := (unhide HK).at 11 (.int .i64 L.rcv) rfl
  have k12k := (unhide HK).at 12 (.slice a n c) rfl
  go_wp2_with fail
  refine (unhide HTo _ (unhide HB)).mono ?_
  rintro z w2 ⟨a3, c3, rfl, hr, hs, hb⟩
  replace HK : Hid (Blk (w2.alloc (.cells (lnA L (.slice a3 n3 c3)) 53)) w.heap.size (lnA L (.slice a n c)) 56) := hide (((unhide HK).keep hb).alloc _)
  replace HB : Hid (Below w.heap.size w (w2.alloc (.cells (lnA L (.slice a3 n3 c3)) 53))) := hide (below_via (below_via (unhide HB) hb) (below1L w2 _))
  have HX := hide (Blk.new w2 (lnA L (.slice a3 n3 c3)) 53)
  have HR3 : Hid (Row (w2.alloc (.cells (lnA L (.slice a3 n3 c3)) 53)) (.slice a3 n3 c3) l) := hide (hr.alloc _)
  have HS3 := hide hs
  have y12 := (unhide HK).at 12 (.slice a n c) rfl
  clear hb hr hs HTo k0k k1k k2k k3k k4k k5k k6k k7k k8k k9k k10k k11k k12k
  go_wp2_with fail
  go_ret
  exact ⟨rfl, unhide HB⟩
theorem lo_a (L : Ln) (a : Option Addr) (n c n3 : Nat) (l : List Int) (q : Int) (w : World) (hR : Row w (.slice a n c) l) (hS : Sl a n c) (hl : l.length ≤ 17592186044000) (hn3 : l.length = n3) (t0 : decide ((700 : Int) < (n : Int)) = false) (t1 : rightB L l = false) : OffL w L (.slice a n c) q := by
  unfold OffL
  have HA := hide aliveL
  unfold AliveL at HA
  have HK := hide (Blk.new w (lnA L (.slice a n c)) 56)
  have HB := hide (below1L w (.cells (lnA L (.slice a n c)) 56))
  have HTo : Hid (∀ w1, Below w.heap.size w w1 → Calls (Tri Try.prog) 32 #[.agg (lnA L (.slice a n c))] w1 fun z w' => ∃ a3 c3, z = .returned (.agg (lnA L (.slice a3 n3 c3))) ∧ Row w' (.slice a3 n3 c3) l ∧ Sl a3 n3 c3 ∧ Below w1.heap.size w1 w') := hide (fun w1 hb => (to_any (hR.below hb (Nat.le_refl _)) hS hl).mono fun z w' ⟨a3, c3, g1, g2, g3, _, g5⟩ => by
    rw [hn3] at g1 g2 g3
    exact ⟨a3, c3, g1, g2, g3, g5⟩)
  clear hR hS hl hn3
  go_enter (Tri.at (by decide) Try.func9), Try.ntmps9
  go_wp2_with fail
  refine (unhide HA _).mono ?_
  rintro z w1 ⟨rfl, hb⟩
  replace HK := hide ((unhide HK).keep hb)
  replace HB := hide (below_via (unhide HB) hb)
  clear hb HA
  have k0k := (unhide HK).at 0 (.int .i64 L.id) rfl
  have k1k := (unhide HK).at 1 (.int .i64 L.st) rfl
  have k2k := (unhide HK).at 2 (.int .i64 L.be) rfl
  have k3k := (unhide HK).at 3 (.int .i64 L.out) rfl
  have k4k := (unhide HK).at 4 (.int .i64 L.rt) rfl
  have k5k := (unhide HK).at 5 (.int .i64 L.gr) rfl
  have k6k := (unhide HK).at 6 (.int .i64 L.due) rfl
  have k7k := (unhide HK).at 7 (.int .i64 L.inc) rfl
  have k8k := (unhide HK).at 8 (.int .i64 L.got) rfl
  have k9k := (unhide HK).at 9 (.int .i64 L.adj) rfl
  have k10k := (unhide HK).at 10 (.int .i64 L.wri) rfl
  have k11k := (unhide HK).at 11 (.int .i64 L.rcv) rfl
  have k12k := (unhide HK).at 12 (.slice a n c) rfl
  go_wp2_with fail
  refine (unhide HTo _ (unhide HB)).mono ?_
  rintro z w2 ⟨a3, c3, rfl, hr, hs, hb⟩
  replace HK : Hid (Blk (w2.alloc (.cells (lnA L (.slice a3 n3 c3)) 53)) w.heap.size (lnA L (.slice a n c)) 56) := hide (((unhide HK).keep hb).alloc _)
  replace HB : Hid (Below w.heap.size w (w2.alloc (.cells (lnA L (.slice a3 n3 c3)) 53))) := hide (below_via (below_via (unhide HB) hb) (below1L w2 _))
  have HX := hide (Blk.new w2 (lnA L (.slice a3 n3 c3)) 53)
  have HR3 : Hid (Row (w2.alloc (.cells (lnA L (.slice a3 n3 c3)) 53)) (.slice a3 n3 c3) l) := hide (hr.alloc _)
  have HS3 := hide hs
  have y12 := (unhide HK).at 12 (.slice a n c) rfl
  clear hb hr hs HTo k0k k1k k2k k3k k4k k5k k6k k7k k8k k9k k10k k11k k12k
  have HRt : Hid (∀ w1, Row w1 (.slice a3 n3 c3) l → Tells 31 w1 #[.agg (lnA L (.slice a3 n3 c3))] (rightB L l)) := hide (fun w1 h => right_any L a3 n3 c3 l w1 h)
  unfold Tells at HRt
  rw [t1] at HRt
  clear t1
  go_wp2_with fail
  refine (unhide HRt _ (unhide HR3)).mono ?_
  rintro z w3 ⟨rfl, hb⟩
  replace HX := hide ((unhide HX).keep hb)
  replace HB := hide (below_via (unhide HB) hb)
  replace HR3 := hide ((unhide HR3).below hb (Nat.le_refl _))
  clear hb HRt HK y12
  have x1 := (unhide HX).at 1 (.int .i64 L.st) rfl
  have x5 := (unhide HX).at 5 (.int .i64 L.gr) rfl
  go_wp2_with fail
  go_ret
  exact ⟨rfl, unhide HB⟩
theorem lo_b (L : Ln) (a : Option Addr) (n c n3 : Nat) (l : List Int) (q : Int) (w : World) (hR : Row w (.slice a n c) l) (hS : Sl a n c) (hl : l.length ≤ 17592186044000) (hn3 : l.length = n3) (t0 : decide ((700 : Int) < (n : Int)) = false) (t1 : rightB L l = true) (t2 : (L.st != 1) = true) : OffL w L (.slice a n c) q := by
  unfold OffL
  have HA := hide aliveL
  unfold AliveL at HA
  have HK := hide (Blk.new w (lnA L (.slice a n c)) 56)
  have HB := hide (below1L w (.cells (lnA L (.slice a n c)) 56))
  have HTo : Hid (∀ w1, Below w.heap.size w w1 → Calls (Tri Try.prog) 32 #[.agg (lnA L (.slice a n c))] w1 fun z w' => ∃ a3 c3, z = .returned (.agg (lnA L (.slice a3 n3 c3))) ∧ Row w' (.slice a3 n3 c3) l ∧ Sl a3 n3 c3 ∧ Below w1.heap.size w1 w') := hide (fun w1 hb => (to_any (hR.below hb (Nat.le_refl _)) hS hl).mono fun z w' ⟨a3, c3, g1, g2, g3, _, g5⟩ => by
    rw [hn3] at g1 g2 g3
    exact ⟨a3, c3, g1, g2, g3, g5⟩)
  clear hR hS hl hn3
  go_enter (Tri.at (by decide) Try.func9), Try.ntmps9
  go_wp2_with fail
  refine (unhide HA _).mono ?_
  rintro z w1 ⟨rfl, hb⟩
  replace HK := hide ((unhide HK).keep hb)
  replace HB := hide (below_via (unhide HB) hb)
  clear hb HA
  have k0k := (unhide HK).at 0 (.int .i64 L.id) rfl
  have k1k := (unhide HK).at 1 (.int .i64 L.st) rfl
  have k2k := (unhide HK).at 2 (.int .i64 L.be) rfl
  have k3k := (unhide HK).at 3 (.int .i64 L.out) rfl
  have k4k := (unhide HK).at 4 (.int .i64 L.rt) rfl
  have k5k := (unhide HK).at 5 (.int .i64 L.gr) rfl
  have k6k := (unhide HK).at 6 (.int .i64 L.due) rfl
  have k7k := (unhide HK).at 7 (.int .i64 L.inc) rfl
  have k8k := (unhide HK).at 8 (.int .i64 L.got) rfl
  have k9k := (unhide HK).at 9 (.int .i64 L.adj) rfl
  have k10k := (unhide HK).at 10 (.int .i64 L.wri) rfl
  have k11k := (unhide HK).at 11 (.int .i64 L.rcv) rfl
  have k12k := (unhide HK).at 12 (.slice a n c) rfl
  go_wp2_with fail
  refine (unhide HTo _ (unhide HB)).mono ?_
  rintro z w2 ⟨a3, c3, rfl, hr, hs, hb⟩
  replace HK : Hid (Blk (w2.alloc (.cells (lnA L (.slice a3 n3 c3)) 53)) w.heap.size (lnA L (.slice a n c)) 56) := hide (((unhide HK).keep hb).alloc _)
  replace HB : Hid (Below w.heap.size w (w2.alloc (.cells (lnA L (.slice a3 n3 c3)) 53))) := hide (below_via (below_via (unhide HB) hb) (below1L w2 _))
  have HX := hide (Blk.new w2 (lnA L (.slice a3 n3 c3)) 53)
  have HR3 : Hid (Row (w2.alloc (.cells (lnA L (.slice a3 n3 c3)) 53)) (.slice a3 n3 c3) l) := hide (hr.alloc _)
  have HS3 := hide hs
  have y12 := (unhide HK).at 12 (.slice a n c) rfl
  clear hb hr hs HTo k0k k1k k2k k3k k4k k5k k6k k7k k8k k9k k10k k11k k12k
  have HRt : Hid (∀ w1, Row w1 (.slice a3 n3 c3) l → Tells 31 w1 #[.agg (lnA L (.slice a3 n3 c3))] (rightB L l)) := hide (fun w1 h => right_any L a3 n3 c3 l w1 h)
  unfold Tells at HRt
  rw [t1] at HRt
  clear t1
  go_wp2_with fail
  refine (unhide HRt _ (unhide HR3)).mono ?_
  rintro z w3 ⟨rfl, hb⟩
  replace HX := hide ((unhide HX).keep hb)
  replace HB := hide (below_via (unhide HB) hb)
  replace HR3 := hide ((unhide HR3).below hb (Nat.le_refl _))
  clear hb HRt HK y12
  have x1 := (unhide HX).at 1 (.int .i64 L.st) rfl
  have x5 := (unhide HX).at 5 (.int .i64 L.gr) rfl
  go_wp2_with fail
  go_ret
  exact ⟨rfl, unhide HB⟩
theorem lo_c (L : Ln) (a : Option Addr) (n c n3 : Nat) (l : List Int) (q : Int) (w : World) (hR : Row w (.slice a n c) l) (hS : Sl a n c) (hl : l.length ≤ 17592186044000) (hn3 : l.length = n3) (t0 : decide ((700 : Int) < (n : Int)) = false) (t1 : rightB L l = true) (t2 : (L.st != 1) = false) (t3 : (L.gr == 0) = true) : OffL w L (.slice a n c) q := by
  unfold OffL
  have HA := hide aliveL
  unfold AliveL at HA
  have HK := hide (Blk.new w (lnA L (.slice a n c)) 56)
  have HB := hide (below1L w (.cells (lnA L (.slice a n c)) 56))
  have HTo : Hid (∀ w1, Below w.heap.size w w1 → Calls (Tri Try.prog) 32 #[.agg (lnA L (.slice a n c))] w1 fun z w' => ∃ a3 c3, z = .returned (.agg (lnA L (.slice a3 n3 c3))) ∧ Row w' (.slice a3 n3 c3) l ∧ Sl a3 n3 c3 ∧ Below w1.heap.size w1 w') := hide (fun w1 hb => (to_any (hR.below hb (Nat.le_refl _)) hS hl).mono fun z w' ⟨a3, c3, g1, g2, g3, _, g5⟩ => by
    rw [hn3] at g1 g2 g3
    exact ⟨a3, c3, g1, g2, g3, g5⟩)
  clear hR hS hl hn3
  go_enter (Tri.at (by decide) Try.func9), Try.ntmps9
  go_wp2_with fail
  refine (unhide HA _).mono ?_
  rintro z w1 ⟨rfl, hb⟩
  replace HK := hide ((unhide HK).keep hb)
  replace HB := hide (below_via (unhide HB) hb)
  clear hb HA
  have k0k := (unhide HK).at 0 (.int .i64 L.id) rfl
  have k1k := (unhide HK).at 1 (.int .i64 L.st) rfl
  have k2k := (unhide HK).at 2 (.int .i64 L.be) rfl
  have k3k := (unhide HK).at 3 (.int .i64 L.out) rfl
  have k4k := (unhide HK).at 4 (.int .i64 L.rt) rfl
  have k5k := (unhide HK).at 5 (.int .i64 L.gr) rfl
  have k6k := (unhide HK).at 6 (.int .i64 L.due) rfl
  have k7k := (unhide HK).at 7 (.int .i64 L.inc) rfl
  have k8k := (unhide HK).at 8 (.int .i64 L.got) rfl
  have k9k := (unhide HK).at 9 (.int .i64 L.adj) rfl
  have k10k := (unhide HK).at 10 (.int .i64 L.wri) rfl
  have k11k := (unhide HK).at 11 (.int .i64 L.rcv) rfl
  have k12k := (unhide HK).at 12 (.slice a n c) rfl
  go_wp2_with fail
  refine (unhide HTo _ (unhide HB)).mono ?_
  rintro z w2 ⟨a3, c3, rfl, hr, hs, hb⟩
  replace HK : Hid (Blk (w2.alloc (.cells (lnA L (.slice a3 n3 c3)) 53)) w.heap.size (lnA L (.slice a n c)) 56) := hide (((unhide HK).keep hb).alloc _)
  replace HB : Hid (Below w.heap.size w (w2.alloc (.cells (lnA L (.slice a3 n3 c3)) 53))) := hide (below_via (below_via (unhide HB) hb) (below1L w2 _))
  have HX := hide (Blk.new w2 (lnA L (.slice a3 n3 c3)) 53)
  have HR3 : Hid (Row (w2.alloc (.cells (lnA L (.slice a3 n3 c3)) 53)) (.slice a3 n3 c3) l) := hide (hr.alloc _)
  have HS3 := hide hs
  have y12 := (unhide HK).at 12 (.slice a n c) rfl
  clear hb hr hs HTo k0k k1k k2k k3k k4k k5k k6k k7k k8k k9k k10k k11k k12k
  have HRt : Hid (∀ w1, Row w1 (.slice a3 n3 c3) l → Tells 31 w1 #[.agg (lnA L (.slice a3 n3 c3))] (rightB L l)) := hide (fun w1 h => right_any L a3 n3 c3 l w1 h)
  unfold Tells at HRt
  rw [t1] at HRt
  clear t1
  go_wp2_with fail
  refine (unhide HRt _ (unhide HR3)).mono ?_
  rintro z w3 ⟨rfl, hb⟩
  replace HX := hide ((unhide HX).keep hb)
  replace HB := hide (below_via (unhide HB) hb)
  replace HR3 := hide ((unhide HR3).below hb (Nat.le_refl _))
  clear hb HRt HK y12
  have x1 := (unhide HX).at 1 (.int .i64 L.st) rfl
  have x5 := (unhide HX).at 5 (.int .i64 L.gr) rfl
  go_wp2_with fail
  go_ret
  exact ⟨rfl, unhide HB⟩
theorem lo_d (L : Ln) (a : Option Addr) (n c n3 : Nat) (l : List Int) (q : Int) (w : World) (hR : Row w (.slice a n c) l) (hS : Sl a n c) (hl : l.length ≤ 17592186044000) (hn3 : l.length = n3) (t0 : decide ((700 : Int) < (n : Int)) = false) (t1 : rightB L l = true) (t2 : (L.st != 1) = false) (t3 : (L.gr == 0) = false) (t4 : decide (10000000000000 < L.gr) = true) : OffL w L (.slice a n c) q := by
  unfold OffL
  have HA := hide aliveL
  unfold AliveL at HA
  have HK := hide (Blk.new w (lnA L (.slice a n c)) 56)
  have HB := hide (below1L w (.cells (lnA L (.slice a n c)) 56))
  have HTo : Hid (∀ w1, Below w.heap.size w w1 → Calls (Tri Try.prog) 32 #[.agg (lnA L (.slice a n c))] w1 fun z w' => ∃ a3 c3, z = .returned (.agg (lnA L (.slice a3 n3 c3))) ∧ Row w' (.slice a3 n3 c3) l ∧ Sl a3 n3 c3 ∧ Below w1.heap.size w1 w') := hide (fun w1 hb => (to_any (hR.below hb (Nat.le_refl _)) hS hl).mono fun z w' ⟨a3, c3, g1, g2, g3, _, g5⟩ => by
    rw [hn3] at g1 g2 g3
    exact ⟨a3, c3, g1, g2, g3, g5⟩)
  clear hR hS hl hn3
  go_enter (Tri.at (by decide) Try.func9), Try.ntmps9
  go_wp2_with fail
  refine (unhide HA _).mono ?_
  rintro z w1 ⟨rfl, hb⟩
  replace HK := hide ((unhide HK).keep hb)
  replace HB := hide (below_via (unhide HB) hb)
  clear hb HA
  have k0k := (unhide HK).at 0 (.int .i64 L.id) rfl
  have k1k := (unhide HK).at 1 (.int .i64 L.st) rfl
  have k2k := (unhide HK).at 2 (.int .i64 L.be) rfl
  have k3k := (unhide HK).at 3 (.int .i64 L.out) rfl
  have k4k := (unhide HK).at 4 (.int .i64 L.rt) rfl
  have k5k := (unhide HK).at 5 (.int .i64 L.gr) rfl
  have k6k := (unhide HK).at 6 (.int .i64 L.due) rfl
  have k7k := (unhide HK).at 7 (.int .i64 L.inc) rfl
  have k8k := (unhide HK).at 8 (.int .i64 L.got) rfl
  have k9k := (unhide HK).at 9 (.int .i64 L.adj) rfl
  have k10k := (unhide HK).at 10 (.int .i64 L.wri) rfl
  have k11k := (unhide HK).at 11 (.int .i64 L.rcv) rfl
  have k12k := (unhide HK).at 12 (.slice a n c) rfl
  go_wp2_with fail
  refine (unhide HTo _ (unhide HB)).mono ?_
  rintro z w2 ⟨a3, c3, rfl, hr, hs, hb⟩
  replace HK : Hid (Blk (w2.alloc (.cells (lnA L (.slice a3 n3 c3)) 53)) w.heap.size (lnA L (.slice a n c)) 56) := hide (((unhide HK).keep hb).alloc _)
  replace HB : Hid (Below w.heap.size w (w2.alloc (.cells (lnA L (.slice a3 n3 c3)) 53))) := hide (below_via (below_via (unhide HB) hb) (below1L w2 _))
  have HX := hide (Blk.new w2 (lnA L (.slice a3 n3 c3)) 53)
  have HR3 : Hid (Row (w2.alloc (.cells (lnA L (.slice a3 n3 c3)) 53)) (.slice a3 n3 c3) l) := hide (hr.alloc _)
  have HS3 := hide hs
  have y12 := (unhide HK).at 12 (.slice a n c) rfl
  clear hb hr hs HTo k0k k1k k2k k3k k4k k5k k6k k7k k8k k9k k10k k11k k12k
  have HRt : Hid (∀ w1, Row w1 (.slice a3 n3 c3) l → Tells 31 w1 #[.agg (lnA L (.slice a3 n3 c3))] (rightB L l)) := hide (fun w1 h => right_any L a3 n3 c3 l w1 h)
  unfold Tells at HRt
  rw [t1] at HRt
  clear t1
  go_wp2_with fail
  refine (unhide HRt _ (unhide HR3)).mono ?_
  rintro z w3 ⟨rfl, hb⟩
  replace HX := hide ((unhide HX).keep hb)
  replace HB := hide (below_via (unhide HB) hb)
  replace HR3 := hide ((unhide HR3).below hb (Nat.le_refl _))
  clear hb HRt HK y12
  have x1 := (unhide HX).at 1 (.int .i64 L.st) rfl
  have x5 := (unhide HX).at 5 (.int .i64 L.gr) rfl
  go_wp2_with fail
  go_ret
  exact ⟨rfl, unhide HB⟩
end Go.Proofs.Ytpeoabopeihadaa.Mn
