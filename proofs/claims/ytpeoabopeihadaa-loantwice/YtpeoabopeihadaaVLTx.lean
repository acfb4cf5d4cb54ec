/- LoanTwice, lone. -/
import Derived.Test.YtpeoabopeihadaaVS
import Derived.Test.YtpeoabopeihadaaVU
import Derived.Test.YtpeoabopeihadaaVL
set_option linter.unusedVariables false
set_option linter.unusedSimpArgs false
set_option linter.unusedSectionVars false
namespace Go.Proofs.Ytpeoabopeihadaa.Mn
open Go.RowKit
attribute [local simp] Tri.typeInfo Tri.sizeOf Tri.underlying Tri.runUnderlying Tri.isAgg Tri.zeroValue Tri.depth Tri.stoodInHeld Tri.eqGuardType Tri.call15 Tri.call26 Tri.call27 Tri.call29 Tri.call30 Tri.call31 Tri.call32 Tri.call33 Tri.call36 Tri.call37 Tri.call44 Tri.call46 Tri.call49 Tri.call52 Tri.call54 Tri.call65 Tri.call66 Tri.call68 Tri.call69 Tri.call70 Tri.call72 Tri.call73 Tri.call74 Tri.call75 Tri.call81 Tri.call82 Tri.call83 Tri.call84 Tri.call85 Tri.call86 Tri.call87 Tri.call88 Tri.call95 Tri.call99 Tri.call100 Tri.call101 Tri.call106 Tri.call116 Tri.call117 Tri.call118 Tri.call119 Tri.call120 Tri.call122 Tri.call123 Tri.call124 Tri.call125 Tri.call126 Tri.call143 Tri.call144 Tri.call145 Tri.call146 Tri.call147 Tri.call156 Tri.call157 Tri.call159 Tri.call160 Tri.call161 Tri.call162 Tri.call163 Tri.call164 Tri.call165 Tri.call175 Tri.call176 Tri.call186 Tri.call188 Tri.call205
theorem row56 : isRowB (Tri Try.prog) 56 = true := by kernel_rfl
theorem size56 : ((Tri Try.prog).info? 56).map (·.size) = some 13 := by kernel_rfl
def TwiceL (w : World) (L : Ln) (v : Value) (p q : Int) : Prop := Calls (Tri Try.prog) 10 #[.agg (lnA L v), .int .u32 p, .int .u32 q] w fun z w' => z = .returned (.bool true) ∧ Below w.heap.size w w'
theorem lt_long (L : Ln) (a : Option Addr) (n c n3 : Nat) (l : List Int) (p q : Int) (w : World) (hR : Row w (.slice a n c) l) (hS : Sl a n c) (hl : l.length ≤ 17592186044000) (hn3 : l.length = n3) (t0 : decide ((700 : Int) < (n : Int)) = true) : TwiceL w L (.slice a n c) p q := by
  unfold TwiceL
  have HA := hide aliveL
  unfold AliveL at HA
  have HK := hide (Blk.new w (lnA L (.slice a n c)) 56)
  have HB := hide (below1L w (.cells (lnA L (.slice a n c)) 56))
  have HTo : Hid (∀ w1, Below w.heap.size w w1 → Calls (Tri Try.prog) 32 #[.agg (lnA L (.slice a n c))] w1 fun z w' => ∃ a3 c3, z = .returned (.agg (lnA L (.slice a3 n3 c3))) ∧ Row w' (.slice a3 n3 c3) l ∧ Sl a3 n3 c3 ∧ Below w1.heap.size w1 w') := hide (fun w1 hb => (to_any (hR.below hb (Nat.le_refl _)) hS hl).mono fun z w' ⟨a3, c3, g1, g2, g3, _, g5⟩ => by
    rw [hn3] at g1 g2 g3
    exact ⟨a3, c3, g1, g2, g3, g5⟩)
  clear hR hS hl hn3
  go_enter (Tri.at (by decide) Try.func10), Try.ntmps10
  go_wp2_with fail
  refine (unhide HA _).mono ?_
  rintro z w1 ⟨rfl, hb⟩
  replace HK := hide ((show Blk _ _ _ _ from unhide HK).keep hb)
  replace HB := hide (below_via (unhide HB) hb)
  clear hb HA
  go_wp2_with (refine load_blk rfl 56 _ rfl (show Blk _ _ _ _ from unhide HK) rfl row56 size56 rfl ?_)
  refine (unhide HTo _ (unhide HB)).mono ?_
  rintro z w2 ⟨a3, c3, rfl, hr, hs, hb⟩
  replace HK : Hid (Blk (w2.alloc (.cells (lnA L (.slice a3 n3 c3)) 53)) w.heap.size (lnA L (.slice a n c)) 56) := hide (((unhide HK).keep hb).alloc _)
  replace HB : Hid (Below w.heap.size w (w2.alloc (.cells (lnA L (.slice a3 n3 c3)) 53))) := hide (below_via (below_via (unhide HB) hb) (below1L w2 _))
  have HX := hide (Blk.new w2 (lnA L (.slice a3 n3 c3)) 53)
  have HR3 : Hid (Row (w2.alloc (.cells (lnA L (.slice a3 n3 c3)) 53)) (.slice a3 n3 c3) l) := hide (hr.alloc _)
  have HS3 := hide hs
  have y12 := (show Blk _ _ _ _ from unhide HK).at 12 (.slice a n c) rfl
  clear hb hr hs HTo
  go_wp2_with fail
  go_ret
  exact ⟨rfl, unhide HB⟩
theorem lt_a (L : Ln) (a : Option Addr) (n c n3 : Nat) (l : List Int) (p q : Int) (w : World) (hR : Row w (.slice a n c) l) (hS : Sl a n c) (hl : l.length ≤ 17592186044000) (hn3 : l.length = n3) (t0 : decide ((700 : Int) < (n : Int)) = false) (t1 : rightB L l = false) : TwiceL w L (.slice a n c) p q := by
  unfold TwiceL
  have HA := hide aliveL
  unfold AliveL at HA
  have HK := hide (Blk.new w (lnA L (.slice a n c)) 56)
  have HB := hide (below1L w (.cells (lnA L (.slice a n c)) 56))
  have HTo : Hid (∀ w1, Below w.heap.size w w1 → Calls (Tri Try.prog) 32 #[.agg (lnA L (.slice a n c))] w1 fun z w' => ∃ a3 c3, z = .returned (.agg (lnA L (.slice a3 n3 c3))) ∧ Row w' (.slice a3 n3 c3) l ∧ Sl a3 n3 c3 ∧ Below w1.heap.size w1 w') := hide (fun w1 hb => (to_any (hR.below hb (Nat.le_refl _)) hS hl).mono fun z w' ⟨a3, c3, g1, g2, g3, _, g5⟩ => by
    rw [hn3] at g1 g2 g3
    exact ⟨a3, c3, g1, g2, g3, g5⟩)
  clear hR hS hl hn3
  go_enter (Tri.at (by decide) Try.func10), Try.ntmps10
  go_wp2_with fail
  refine (unhide HA _).mono ?_
  rintro z w1 ⟨rfl, hb⟩
  replace HK := hide ((show Blk _ _ _ _ from unhide HK).keep hb)
  replace HB := hide (below_via (unhide HB) hb)
  clear hb HA
  go_wp2_with (refine load_blk rfl 56 _ rfl (show Blk _ _ _ _ from unhide HK) rfl row56 size56 rfl ?_)
  refine (unhide HTo _ (unhide HB)).mono ?_
  rintro z w2 ⟨a3, c3, rfl, hr, hs, hb⟩
  replace HK : Hid (Blk (w2.alloc (.cells (lnA L (.slice a3 n3 c3)) 53)) w.heap.size (lnA L (.slice a n c)) 56) := hide (((unhide HK).keep hb).alloc _)
  replace HB : Hid (Below w.heap.size w (w2.alloc (.cells (lnA L (.slice a3 n3 c3)) 53))) := hide (below_via (below_via (unhide HB) hb) (below1L w2 _))
  have HX := hide (Blk.new w2 (lnA L (.slice a3 n3 c3)) 53)
  have HR3 : Hid (Row (w2.alloc (.cells (lnA L (.slice a3 n3 c3)) 53)) (.slice a3 n3 c3) l) := hide (hr.alloc _)
  have HS3 := hide hs
  have y12 := (show Blk _ _ _ _ from unhide HK).at 12 (.slice a n c) rfl
  clear hb hr hs HTo
  have HRt : Hid (∀ w1, Row w1 (.slice a3 n3 c3) l → Tells 31 w1 #[.agg (lnA L (.slice a3 n3 c3))] (rightB L l)) := hide (fun w1 h => right_any L a3 n3 c3 l w1 h)
  unfold Tells at HRt
  rw [t1] at HRt
  clear t1
  go_wp2_with (refine load_blk rfl 53 _ rfl (show Blk _ _ _ _ from unhide HX) rfl row53 size53 rfl ?_)
  refine (unhide HRt _ (unhide HR3)).mono ?_
  rintro z w3 ⟨rfl, hb⟩
  replace HX := hide ((show Blk _ _ _ _ from unhide HX).keep hb)
  replace HB := hide (below_via (unhide HB) hb)
  replace HR3 := hide ((unhide HR3).below hb (Nat.le_refl _))
  clear hb HRt HK y12
  have x1 := (show Blk _ _ _ _ from unhide HX).at 1 (.int .i64 L.st) rfl
  go_wp2_with fail
  go_ret
  exact ⟨rfl, unhide HB⟩
theorem lt_b (L : Ln) (a : Option Addr) (n c n3 : Nat) (l : List Int) (p q : Int) (w : World) (hR : Row w (.slice a n c) l) (hS : Sl a n c) (hl : l.length ≤ 17592186044000) (hn3 : l.length = n3) (t0 : decide ((700 : Int) < (n : Int)) = false) (t1 : rightB L l = true) (t2 : (L.st != 1) = true) : TwiceL w L (.slice a n c) p q := by
  unfold TwiceL
  have HA := hide aliveL
  unfold AliveL at HA
  have HK := hide (Blk.new w (lnA L (.slice a n c)) 56)
  have HB := hide (below1L w (.cells (lnA L (.slice a n c)) 56))
  have HTo : Hid (∀ w1, Below w.heap.size w w1 → Calls (Tri Try.prog) 32 #[.agg (lnA L (.slice a n c))] w1 fun z w' => ∃ a3 c3, z = .returned (.agg (lnA L (.slice a3 n3 c3))) ∧ Row w' (.slice a3 n3 c3) l ∧ Sl a3 n3 c3 ∧ Below w1.heap.size w1 w') := hide (fun w1 hb => (to_any (hR.below hb (Nat.le_refl _)) hS hl).mono fun z w' ⟨a3, c3, g1, g2, g3, _, g5⟩ => by
    rw [hn3] at g1 g2 g3
    exact ⟨a3, c3, g1, g2, g3, g5⟩)
  clear hR hS hl hn3
  go_enter (Tri.at (by decide) Try.func10), Try.ntmps10
  go_wp2_with fail
  refine (unhide HA _).mono ?_
  rintro z w1 ⟨rfl, hb⟩
  replace HK := hide ((show Blk _ _ _ _ from unhide HK).keep hb)
  replace HB := hide (below_via (unhide HB) hb)
  clear hb HA
  go_wp2_with (refine load_blk rfl 56 _ rfl (show Blk _ _ _ _ from unhide HK) rfl row56 size56 rfl ?_)
  refine (unhide HTo _ (unhide HB)).mono ?_
  rintro z w2 ⟨a3, c3, rfl, hr, hs, hb⟩
  replace HK : Hid (Blk (w2.alloc (.cells (lnA L (.slice a3 n3 c3)) 53)) w.heap.size (lnA L (.slice a n c)) 56) := hide (((unhide HK).keep hb).alloc _)
  replace HB : Hid (Below w.heap.size w (w2.alloc (.cells (lnA L (.slice a3 n3 c3)) 53))) := hide (below_via (below_via (unhide HB) hb) (below1L w2 _))
  have HX := hide (Blk.new w2 (lnA L (.slice a3 n3 c3)) 53)
  have HR3 : Hid (Row (w2.alloc (.cells (lnA L (.slice a3 n3 c3)) 53)) (.slice a3 n3 c3) l) := hide (hr.alloc _)
  have HS3 := hide hs
  have y12 := (show Blk _ _ _ _ from unhide HK).at 12 (.slice a n c) rfl
  clear hb hr hs HTo
  have HRt : Hid (∀ w1, Row w1 (.slice a3 n3 c3) l → Tells 31 w1 #[.agg (lnA L (.slice a3 n3 c3))] (rightB L l)) := hide (fun w1 h => right_any L a3 n3 c3 l w1 h)
  unfold Tells at HRt
  rw [t1] at HRt
  clear t1
  go_wp2_with (refine load_blk rfl 53 _ rfl (show Blk _ _ _ _ from unhide HX) rfl row53 size53 rfl ?_)
  refine (unhide HRt _ (unhide HR3)).mono ?_
  rintro z w3 ⟨rfl, hb⟩
  replace HX := hide ((show Blk _ _ _ _ from unhide HX).keep hb)
  replace HB := hide (below_via (unhide HB) hb)
  replace HR3 := hide ((unhide HR3).below hb (Nat.le_refl _))
  clear hb HRt HK y12
  have x1 := (show Blk _ _ _ _ from unhide HX).at 1 (.int .i64 L.st) rfl
  go_wp2_with fail
  go_ret
  exact ⟨rfl, unhide HB⟩
theorem anyH_at {P : Program} {md : Region.Mode} {ops : Array Oper} {Q : Exit → Act → World → Prop} {S : World → Prop} {i : Nat} {oi : Oper} {v : Value} {fuel : Nat} {listed : Array Bool} {a : Act} {w : World} (d : Nat) (hi : ops[i]? = some oi) (hd : oi.dst = some d)
    (hs : Region.noSelect ops = true) (hf : Region.free md ops listed i = true) (hr : (Region.ready md ops listed).contains i = true)
    (hQ : ∀ c a w, Q (.panic c) (a.put (some d) v) w → Q (.panic c) a w) (hy : YieldsIf P ops S oi v a) (hS : S w)
    (h : wpAnyH P md ops Q S fuel (listed.setIfInBounds i true) (a.put (some d) v) w) : wpAnyH P md ops Q S (fuel + 1) listed a w := by
  rw [← hd] at h
  exact wpAnyH_take hi hs hf hr (by rw [hd]; exact hQ) hy hS h
theorem tw_ways {L : Ln} {l : List Int} {kd p q : Int} (hk : kd = 2 ∨ kd = 3) (hp : 0 ≤ p ∧ p ≤ 4294967295) (hq : 0 ≤ q ∧ q ≤ 4294967295) (he : stepE (kOf kd) L l p = 0) (hs : (stepR (kOf kd) L l p).K.st = 1) :
    (stepE (kOf kd) (stepR (kOf kd) L l p).K (stepR (kOf kd) L l p).l q = stepE (kOf kd) L l (p + q) ∧ (stepR (kOf kd) (stepR (kOf kd) L l p).K (stepR (kOf kd) L l p).l q).K = (stepR (kOf kd) L l (p + q)).K ∧ (stepR (kOf kd) (stepR (kOf kd) L l p).K (stepR (kOf kd) L l p).l q).l = (stepR (kOf kd) L l (p + q)).l)
    ∨ ((kd = 3 ∧ q = 0) ∧ stepE (kOf kd) (stepR (kOf kd) L l p).K (stepR (kOf kd) L l p).l q = 2) := by
  obtain ⟨_, h2, _⟩ := step_ok he
  rw [h2] at hs ⊢
  rcases hk with rfl | rfl
  · exact .inl (pay_twice he hs hp hq)
  · by_cases hq0 : q = 0
    · subst hq0
      refine .inr ⟨⟨rfl, rfl⟩, ?_⟩
      show stepE 3 (doS 3 L l p).K (doS 3 L l p).l 0 = 2
      have hc : chkS 3 (doS 3 L l p).K (doS 3 L l p).l 0 = 2 := by
        show asksE _ _ 1 0 1 = 2
        unfold asksE
        rw [show inB 1 0 10000000000000 = false by decide, Bool.and_false]
        rfl
      unfold stepE
      rw [hc]
      rfl
    · exact .inl (write_twice he hs hp ⟨by omega, hq.2⟩)
structure TwI (w wr : World) (b : Nat) (L : Ln) (a3 : Option Addr) (n3 c3 : Nat) (l : List Int) : Prop where
  blk : Blk wr b (lnA L (.slice a3 n3 c3)) 53
  row : Row wr (.slice a3 n3 c3) l
  bel : Below w.heap.size w wr
theorem TwI.keep {w wr w' : World} {b : Nat} {L : Ln} {a3 : Option Addr} {n3 c3 : Nat} {l : List Int} (h : TwI w wr b L a3 n3 c3 l) (k : Below wr.heap.size wr w') : TwI w w' b L a3 n3 c3 l :=
  ⟨h.blk.keep k, h.row.below k (Nat.le_refl _), below_via h.bel k⟩
theorem TwI.drew {w wr : World} {b : Nat} {L : Ln} {a3 : Option Addr} {n3 c3 : Nat} {l : List Int} (h : TwI w wr b L a3 n3 c3 l) : TwI w wr.drew b L a3 n3 c3 l := ⟨h.blk, h.row.drew, below_drew h.bel⟩
structure TwF (w wr : World) (b xb yb : Nat) (L K : Ln) (a3 : Option Addr) (n3 c3 : Nat) (l : List Int) (a5 : Option Addr) (c5 : Nat) (a6 : Option Addr) (c6 : Nat) (l2 : List Int) : Prop where
  tw : TwI w wr b L a3 n3 c3 l
  x : Blk wr xb (lnA K (.slice a5 l2.length c5)) 53
  y : Blk wr yb (lnA K (.slice a6 l2.length c6)) 53
  rx : Row wr (.slice a5 l2.length c5) l2
  ry : Row wr (.slice a6 l2.length c6) l2
theorem TwF.keep {w wr w' : World} {b xb yb : Nat} {L K : Ln} {a3 : Option Addr} {n3 c3 : Nat} {l : List Int} {a5 : Option Addr} {c5 : Nat} {a6 : Option Addr} {c6 : Nat} {l2 : List Int} (h : TwF w wr b xb yb L K a3 n3 c3 l a5 c5 a6 c6 l2) (k : Below wr.heap.size wr w') : TwF w w' b xb yb L K a3 n3 c3 l a5 c5 a6 c6 l2 := ⟨h.tw.keep k, h.x.keep k, h.y.keep k, h.rx.below k (Nat.le_refl _), h.ry.below k (Nat.le_refl _)⟩
theorem TwF.drew {w wr : World} {b xb yb : Nat} {L K : Ln} {a3 : Option Addr} {n3 c3 : Nat} {l : List Int} {a5 : Option Addr} {c5 : Nat} {a6 : Option Addr} {c6 : Nat} {l2 : List Int} (h : TwF w wr b xb yb L K a3 n3 c3 l a5 c5 a6 c6 l2) : TwF w wr.drew b xb yb L K a3 n3 c3 l a5 c5 a6 c6 l2 := ⟨h.tw.drew, h.x, h.y, h.rx.drew, h.ry.drew⟩
def DoC (kd p : Int) (L : Ln) (l : List Int) (K : Ln) (l2 : List Int) (m0 m1 m2 m3 e : Int) : Prop := ∀ (W : World) (a : Option Addr) (n c : Nat), Row W (.slice a n c) l → Sl a n c → l.length ≤ 17592186044000 → Calls (Tri Try.prog) 33 #[.agg (lnA L (.slice a n c)), .int .i64 kd, .int .i64 p] W fun z w2 => ∃ a3 c3, z = .returned (.tuple #[.agg (lnA K (.slice a3 l2.length c3)), .agg #[.int .i64 m0, .int .i64 m1, .int .i64 m2, .int .i64 m3], .int .i64 e]) ∧ Row w2 (.slice a3 l2.length c3) l2 ∧ Sl a3 l2.length c3 ∧ Below W.heap.size W w2
theorem doC_of (kd p : Int) (L : Ln) (l : List Int) : DoC kd p L l (stepR (kOf kd) L l p).K (stepR (kOf kd) L l p).l (stepR (kOf kd) L l p).m.i (stepR (kOf kd) L l p).m.p (stepR (kOf kd) L l p).m.w (stepR (kOf kd) L l p).m.r (stepE (kOf kd) L l p) := fun W a n c h1 h2 h3 => (dok_any (L := L) (kd := kd) (p := p) h1 h2 h3).mono fun z w2 ⟨a3, c3, g1, g2, g3, _, g5⟩ => ⟨a3, c3, g1, g2, g3, g5⟩
theorem tw_round {L : Ln} {l : List Int} {kd p q : Int} (hk : kd = 2 ∨ kd = 3) (hp : 0 ≤ p ∧ p ≤ 4294967295) (hq : 0 ≤ q ∧ q ≤ 4294967295) (hl : l.length ≤ 700) :
    ∃ (K1 K2 K3 : Ln) (l1 l2 l3 : List Int) (i1 p1 w1 r1 e1 i2 p2 w2 r2 e2 i3 p3 w3 r3 e3 : Int), DoC kd p L l K1 l1 i1 p1 w1 r1 e1 ∧ DoC kd q K1 l1 K2 l2 i2 p2 w2 r2 e2 ∧ DoC kd (p + q) L l K3 l3 i3 p3 w3 r3 e3 ∧
      ((e1 != 0) = true ∨ ((e1 != 0) = false ∧ (K1.st != 1) = true) ∨ ((e1 != 0) = false ∧ (K1.st != 1) = false ∧ l1.length ≤ 17592186044000 ∧ ((e2 = 0 ∧ e3 = 0 ∧ K2 = K3 ∧ l2 = l3 ∧ l3.length ≤ 1000000) ∨ ((e2 != e3) = false ∧ (e2 == 0) = false) ∨ ((e2 != e3) = true ∧ (kd == 3) = true ∧ (q == 0) = true ∧ (e2 == 0) = false)))) := by
  refine ⟨_, _, _, _, _, _, _, _, _, _, _, _, _, _, _, _, _, _, _, _, _, doC_of kd p L l, doC_of kd q _ _, doC_of kd (p + q) L l, ?_⟩
  by_cases he : stepE (kOf kd) L l p = 0
  case neg => exact .inl (by simpa using he)
  refine .inr ?_
  have z1 : (stepE (kOf kd) L l p != 0) = false := by simpa using he
  by_cases hs : (stepR (kOf kd) L l p).K.st = 1
  case neg => exact .inl ⟨z1, by simpa using hs⟩
  refine .inr ⟨z1, by simpa using hs, ?_, ?_⟩
  · obtain ⟨_, h2, h3⟩ := step_ok he
    rw [h2]
    have := h3.len
    omega
  · rcases tw_ways hk hp hq he hs with ⟨h1, h2, h3⟩ | ⟨⟨h1, h2⟩, h3⟩
    · by_cases h4 : stepE (kOf kd) L l (p + q) = 0
      · refine .inl ⟨h1.trans h4, h4, h2, h3, ?_⟩
        obtain ⟨_, g2, g3⟩ := step_ok h4
        rw [g2]
        have := g3.len
        omega
      · refine .inr (.inl ⟨by simpa using h1, ?_⟩)
        rw [h1]
        simpa using h4
    · by_cases h4 : stepE (kOf kd) L l (p + q) = 2
      · refine .inr (.inl ⟨by rw [h3, h4]; rfl, ?_⟩)
        rw [h3]
        rfl
      · refine .inr (.inr ⟨?_, by simp [h1], by simp [h2], ?_⟩)
        · rw [h3]
          simpa using fun e => h4 e.symm
        · rw [h3]
          rfl
set_option maxHeartbeats 8000000 in
set_option maxRecDepth 20000 in
theorem lt_go (L : Ln) (a : Option Addr) (n c n3 : Nat) (l : List Int) (p q : Int) (w : World) (hR : Row w (.slice a n c) l) (hS : Sl a n c) (hl : l.length ≤ 17592186044000) (hn3 : l.length = n3) (hp : 0 ≤ p ∧ p ≤ 4294967295) (hq : 0 ≤ q ∧ q ≤ 4294967295) (t0 : decide ((700 : Int) < (n : Int)) = false) (h7 : l.length ≤ 700) (t1 : rightB L l = true) (t2 : (L.st != 1) = false) : TwiceL w L (.slice a n c) p q := by
  unfold TwiceL
  have HA := hide aliveL
  unfold AliveL at HA
  have HK := hide (Blk.new w (lnA L (.slice a n c)) 56)
  have HB := hide (below1L w (.cells (lnA L (.slice a n c)) 56))
  have HTo : Hid (∀ w1, Below w.heap.size w w1 → Calls (Tri Try.prog) 32 #[.agg (lnA L (.slice a n c))] w1 fun z w' => ∃ a3 c3, z = .returned (.agg (lnA L (.slice a3 n3 c3))) ∧ Row w' (.slice a3 n3 c3) l ∧ Sl a3 n3 c3 ∧ Below w1.heap.size w1 w') := hide (fun w1 hb => (to_any (hR.below hb (Nat.le_refl _)) hS hl).mono fun z w' ⟨a3, c3, g1, g2, g3, _, g5⟩ => by
    rw [hn3] at g1 g2 g3
    exact ⟨a3, c3, g1, g2, g3, g5⟩)
  clear hR hS hl hn3
  go_enter (Tri.at (by decide) Try.func10), Try.ntmps10
  go_wp2_with fail
  refine (unhide HA _).mono ?_
  rintro z w1 ⟨rfl, hb⟩
  replace HK := hide ((show Blk _ _ _ _ from unhide HK).keep hb)
  replace HB := hide (below_via (unhide HB) hb)
  clear hb HA
  go_wp2_with (refine load_blk rfl 56 _ rfl (show Blk _ _ _ _ from unhide HK) rfl row56 size56 rfl ?_)
  refine (unhide HTo _ (unhide HB)).mono ?_
  rintro z w2 ⟨a3, c3, rfl, hr, hs, hb⟩
  replace HK : Hid (Blk (w2.alloc (.cells (lnA L (.slice a3 n3 c3)) 53)) w.heap.size (lnA L (.slice a n c)) 56) := hide (((unhide HK).keep hb).alloc _)
  replace HB : Hid (Below w.heap.size w (w2.alloc (.cells (lnA L (.slice a3 n3 c3)) 53))) := hide (below_via (below_via (unhide HB) hb) (below1L w2 _))
  have HX := hide (Blk.new w2 (lnA L (.slice a3 n3 c3)) 53)
  have HR3 : Hid (Row (w2.alloc (.cells (lnA L (.slice a3 n3 c3)) 53)) (.slice a3 n3 c3) l) := hide (hr.alloc _)
  have HS3 := hide hs
  have y12 := (show Blk _ _ _ _ from unhide HK).at 12 (.slice a n c) rfl
  clear hb hr hs HTo
  have HRt : Hid (∀ w1, Row w1 (.slice a3 n3 c3) l → Tells 31 w1 #[.agg (lnA L (.slice a3 n3 c3))] (rightB L l)) := hide (fun w1 h => right_any L a3 n3 c3 l w1 h)
  unfold Tells at HRt
  rw [t1] at HRt
  clear t1
  go_wp2_with (refine load_blk rfl 53 _ rfl (show Blk _ _ _ _ from unhide HX) rfl row53 size53 rfl ?_)
  refine (unhide HRt _ (unhide HR3)).mono ?_
  rintro z w3 ⟨rfl, hb⟩
  replace HX := hide ((show Blk _ _ _ _ from unhide HX).keep hb)
  replace HB := hide (below_via (unhide HB) hb)
  replace HR3 := hide ((unhide HR3).below hb (Nat.le_refl _))
  clear hb HRt HK y12
  have HI : Hid (TwI w w3 w2.heap.size L a3 n3 c3 l) := hide ⟨unhide HX, unhide HR3, unhide HB⟩
  have x1 := (show Blk _ _ _ _ from unhide HX).at 1 (.int .i64 L.st) rfl
  clear HB HR3
  go_wp2_with fail
  clear x1 HX t0 t2
  have HP := hide hp
  have HQ := hide hq
  have H7 := hide h7
  clear h7
  go_loopw [8] (fun i wr => ∃ kd : Int, (2 ≤ kd ∧ kd ≤ 4) ∧ i = .int .i64 kd ∧ Hid (TwI w wr w2.heap.size L a3 n3 c3 l)) (fun i _ => (4 - intOf i).toNat)
  case atStart => exact ⟨2, by omega, rfl, HI⟩
  case round =>
    clear HI
    obtain ⟨kd, hkd, rfl, HI⟩ := hrel
    by_cases h3 : kd ≤ 3
    case neg =>
      have t3 : decide (kd ≤ 3) = false := decide_eq_false h3
      clear h3
      go_wp2_with fail
      go_ret
      exact ⟨rfl, (unhide HI).bel⟩
    have t3 : decide (kd ≤ 3) = true := decide_eq_true h3
    obtain ⟨K1, K2, K3, l1, l2, l3, i1, p1, m1, r1, e1, i2, p2, m2, r2, e2, i3, p3, m3, r3, e3, g1, g2, g3, hw⟩ := tw_round (L := L) (l := l) (kd := kd) (by omega) (unhide HP) (unhide HQ) (unhide H7)
    have HD1 := hide g1
    have HD2 := hide g2
    have HD3 := hide g3
    unfold DoC at HD1 HD2 HD3
    have HW := hide hw
    clear g1 g2 g3 hw
    have HX := hide (unhide HI).blk
    go_wp2_with (refine load_blk rfl 53 _ rfl (show Blk _ _ _ _ from unhide HX) rfl row53 size53 rfl ?_)
    refine (unhide HD1 _ a3 n3 c3 (unhide HI).row (unhide HS3) (by have := unhide H7; omega)).mono ?_
    rintro z v1 ⟨a4, c4, rfl, hr, hs, hb⟩
    replace HI := hide (((unhide HI).keep hb).keep ((below1L v1 (.cells (lnA K1 (.slice a4 l1.length c4)) 53)).alloc (by simp) (.cells #[.int .i64 i1, .int .i64 p1, .int .i64 m1, .int .i64 r1] 65)))
    have HO := hide ((Blk.new v1 (lnA K1 (.slice a4 l1.length c4)) 53).alloc (.cells #[.int .i64 i1, .int .i64 p1, .int .i64 m1, .int .i64 r1] 65))
    have HR4 := hide ((hr.alloc (.cells (lnA K1 (.slice a4 l1.length c4)) 53)).alloc (.cells #[.int .i64 i1, .int .i64 p1, .int .i64 m1, .int .i64 r1] 65))
    have HS4 := hide hs
    clear hb hr hs HX HD1
    rcases unhide HW with d1 | ⟨d1, d2⟩ | ⟨d1, d2, hl1, hww⟩
    · clear HW HO HR4 HS4
      go_wp2_with fail
      go_roundw
      case rel => exact ⟨kd + 1, by omega, by go_num, HI⟩
      case measure => simp [intOf]; omega
    · clear HW
      have o1 := (show Blk _ _ _ _ from unhide HO).at 1 (.int .i64 K1.st) rfl
      clear HR4 HS4
      go_wp2_with fail
      go_roundw
      case rel => exact ⟨kd + 1, by omega, by go_num, HI⟩
      case measure => simp [intOf]; omega
    · clear HW
      have HWW := hide hww
      clear hww
      have HL1 := hide hl1
      clear hl1
      have o1 := (show Blk _ _ _ _ from unhide HO).at 1 (.int .i64 K1.st) rfl
      generalize hU : (v1.alloc (.cells (lnA K1 (.slice a4 l1.length c4)) 53)).alloc (.cells #[.int .i64 i1, .int .i64 p1, .int .i64 m1, .int .i64 r1] 65) = U1 at HI HO HR4 o1
      go_wp2_with (refine load_blk rfl 53 _ rfl (show Blk _ _ _ _ from unhide HO) rfl row53 size53 rfl ?_)
      clear hU
      refine (unhide HD2 _ a4 _ c4 (unhide HR4) (unhide HS4) (unhide HL1)).mono ?_
      rintro z v2 ⟨a5, c5, rfl, hr, hs, hb⟩
      replace HI := hide (((unhide HI).keep hb).keep ((below1L v2 (.cells (lnA K2 (.slice a5 l2.length c5)) 53)).alloc (by simp) (.cells #[.int .i64 i2, .int .i64 p2, .int .i64 m2, .int .i64 r2] 65)))
      have HO2 := hide ((Blk.new v2 (lnA K2 (.slice a5 l2.length c5)) 53).alloc (.cells #[.int .i64 i2, .int .i64 p2, .int .i64 m2, .int .i64 r2] 65))
      have HR5 := hide ((hr.alloc (.cells (lnA K2 (.slice a5 l2.length c5)) 53)).alloc (.cells #[.int .i64 i2, .int .i64 p2, .int .i64 m2, .int .i64 r2] 65))
      clear hb hr hs HO HR4 HS4 HD2 o1 d1 d2
      generalize hU : (v2.alloc (.cells (lnA K2 (.slice a5 l2.length c5)) 53)).alloc (.cells #[.int .i64 i2, .int .i64 p2, .int .i64 m2, .int .i64 r2] 65) = U2 at HI HO2 HR5
      have HX := hide (unhide HI).blk
      go_wp2_with (refine load_blk rfl 53 _ rfl (show Blk _ _ _ _ from unhide HX) rfl row53 size53 rfl ?_)
      clear hU
      refine (unhide HD3 _ a3 n3 c3 (unhide HI).row (unhide HS3) (by have := unhide H7; omega)).mono ?_
      rintro z v3 ⟨a6, c6, rfl, hr, hs, hb⟩
      replace HI := hide (((unhide HI).keep hb).keep ((below1L v3 (.cells (lnA K3 (.slice a6 l3.length c6)) 53)).alloc (by simp) (.cells #[.int .i64 i3, .int .i64 p3, .int .i64 m3, .int .i64 r3] 65)))
      replace HO2 := hide ((show Blk _ _ _ _ from unhide HO2).keep (below_via hb ((below1L v3 (.cells (lnA K3 (.slice a6 l3.length c6)) 53)).alloc (by simp) (.cells #[.int .i64 i3, .int .i64 p3, .int .i64 m3, .int .i64 r3] 65))))
      replace HR5 := hide ((unhide HR5).below (below_via hb ((below1L v3 (.cells (lnA K3 (.slice a6 l3.length c6)) 53)).alloc (by simp) (.cells #[.int .i64 i3, .int .i64 p3, .int .i64 m3, .int .i64 r3] 65))) (Nat.le_refl _))
      have HO3 := hide ((Blk.new v3 (lnA K3 (.slice a6 l3.length c6)) 53).alloc (.cells #[.int .i64 i3, .int .i64 p3, .int .i64 m3, .int .i64 r3] 65))
      have HR6 := hide ((hr.alloc (.cells (lnA K3 (.slice a6 l3.length c6)) 53)).alloc (.cells #[.int .i64 i3, .int .i64 p3, .int .i64 m3, .int .i64 r3] 65))
      clear hb hr hs HX HD3
      generalize hU : (v3.alloc (.cells (lnA K3 (.slice a6 l3.length c6)) 53)).alloc (.cells #[.int .i64 i3, .int .i64 p3, .int .i64 m3, .int .i64 r3] 65) = U3 at HI HO2 HR5 HO3 HR6
      rcases unhide HWW with ⟨rfl, rfl, rfl, rfl, hl6⟩ | ⟨d1, d2⟩ | ⟨d1, d2, d3, d4⟩
      · have d1 : ((0 : Int) != 0) = false := rfl
        have d2 : ((0 : Int) == 0) = true := rfl
        have HF := hide (fun a c W => from_any K2 a l2.length c W)
        have HSa := hide (fun W a c a' c' (h1 : Row W (.slice a l2.length c) l2) (h2 : Row W (.slice a' l2.length c') l2) => same2_any (L := K2) hl6 h1 h2)
        clear hl6 HWW
        have HTF : Hid (TwF w U3 w2.heap.size v2.heap.size v3.heap.size L K2 a3 n3 c3 l a5 c5 a6 c6 l2) := hide ⟨unhide HI, unhide HO2, unhide HO3, unhide HR5, unhide HR6⟩
        clear HI HO2 HO3 HR5 HR6
        go_wp2_with fail
        clear hU
        refine wp_region_held_drew (S := fun W => TwF w W w2.heap.size v2.heap.size v3.heap.size L K2 a3 n3 c3 l a5 c5 a6 c6 l2) (by kernel_rfl) ((unhide HTF).drew) (fun hS => ?_)
        clear HTF
        generalize hV : U3.drew = V0 at *
        clear hV
        refine anyH_at (i := 0) (v := .int .i64 0) 77 rfl (by kernel_rfl) (by kernel_rfl) (by kernel_rfl) (by kernel_rfl) (fun _ _ _ h => h) (Or.inl ⟨by kernel_rfl, fun W hS => by go_simp⟩) hS ?_
        try simp only [Act.put, List.setIfInBounds_toArray, List.set_cons_zero, List.set_cons_succ]
        refine anyH_at (i := 1) (v := .int .i64 0) 78 rfl (by kernel_rfl) (by kernel_rfl) (by kernel_rfl) (by kernel_rfl) (fun _ _ _ h => h) (Or.inl ⟨by kernel_rfl, fun W hS => by go_simp⟩) hS ?_
        try simp only [Act.put, List.setIfInBounds_toArray, List.set_cons_zero, List.set_cons_succ]
        refine anyH_at (i := 2) (v := .bool false) 79 rfl (by kernel_rfl) (by kernel_rfl) (by kernel_rfl) (by kernel_rfl) (fun _ _ _ h => h) (Or.inl ⟨by kernel_rfl, fun W hS => by go_simp⟩) hS ?_
        try simp only [Act.put, List.setIfInBounds_toArray, List.set_cons_zero, List.set_cons_succ]
        refine anyH_at (i := 3) (v := .bool false) 80 rfl (by kernel_rfl) (by kernel_rfl) (by kernel_rfl) (by kernel_rfl) (fun _ _ _ h => h) (Or.inl ⟨by kernel_rfl, fun W hS => by go_simp⟩) hS ?_
        try simp only [Act.put, List.setIfInBounds_toArray, List.set_cons_zero, List.set_cons_succ]
        refine anyH_at (i := 4) (v := undef) 81 rfl (by kernel_rfl) (by kernel_rfl) (by kernel_rfl) (by kernel_rfl) (fun _ _ _ h => h) (Or.inr ⟨by kernel_rfl, rfl⟩) hS ?_
        try simp only [Act.put, List.setIfInBounds_toArray, List.set_cons_zero, List.set_cons_succ]
        refine anyH_at (i := 5) (v := undef) 82 rfl (by kernel_rfl) (by kernel_rfl) (by kernel_rfl) (by kernel_rfl) (fun _ _ _ h => h) (Or.inr ⟨by kernel_rfl, rfl⟩) hS ?_
        try simp only [Act.put, List.setIfInBounds_toArray, List.set_cons_zero, List.set_cons_succ]
        refine anyH_at (i := 6) (v := undef) 83 rfl (by kernel_rfl) (by kernel_rfl) (by kernel_rfl) (by kernel_rfl) (fun _ _ _ h => h) (Or.inr ⟨by kernel_rfl, rfl⟩) hS ?_
        try simp only [Act.put, List.setIfInBounds_toArray, List.set_cons_zero, List.set_cons_succ]
        refine anyH_at (i := 7) (v := undef) 84 rfl (by kernel_rfl) (by kernel_rfl) (by kernel_rfl) (by kernel_rfl) (fun _ _ _ h => h) (Or.inr ⟨by kernel_rfl, rfl⟩) hS ?_
        try simp only [Act.put, List.setIfInBounds_toArray, List.set_cons_zero, List.set_cons_succ]
        refine anyH_at (i := 8) (v := undef) 85 rfl (by kernel_rfl) (by kernel_rfl) (by kernel_rfl) (by kernel_rfl) (fun _ _ _ h => h) (Or.inr ⟨by kernel_rfl, rfl⟩) hS ?_
        try simp only [Act.put, List.setIfInBounds_toArray, List.set_cons_zero, List.set_cons_succ]
        refine anyH_at (i := 9) (v := undef) 86 rfl (by kernel_rfl) (by kernel_rfl) (by kernel_rfl) (by kernel_rfl) (fun _ _ _ h => h) (Or.inr ⟨by kernel_rfl, rfl⟩) hS ?_
        try simp only [Act.put, List.setIfInBounds_toArray, List.set_cons_zero, List.set_cons_succ]
        refine anyH_at (i := 10) (v := undef) 87 rfl (by kernel_rfl) (by kernel_rfl) (by kernel_rfl) (by kernel_rfl) (fun _ _ _ h => h) (Or.inr ⟨by kernel_rfl, rfl⟩) hS ?_
        try simp only [Act.put, List.setIfInBounds_toArray, List.set_cons_zero, List.set_cons_succ]
        refine anyH_at (i := 11) (v := .bool false) 88 rfl (by kernel_rfl) (by kernel_rfl) (by kernel_rfl) (by kernel_rfl) (fun _ _ _ h => h) (Or.inl ⟨by kernel_rfl, fun W hS => by go_simp⟩) hS ?_
        try simp only [Act.put, List.setIfInBounds_toArray, List.set_cons_zero, List.set_cons_succ]
        refine anyH_at (i := 12) (v := .bool false) 89 rfl (by kernel_rfl) (by kernel_rfl) (by kernel_rfl) (by kernel_rfl) (fun _ _ _ h => h) (Or.inl ⟨by kernel_rfl, fun W hS => by go_simp⟩) hS ?_
        try simp only [Act.put, List.setIfInBounds_toArray, List.set_cons_zero, List.set_cons_succ]
        refine anyH_at (i := 13) (v := .int .i64 0) 90 rfl (by kernel_rfl) (by kernel_rfl) (by kernel_rfl) (by kernel_rfl) (fun _ _ _ h => h) (Or.inl ⟨by kernel_rfl, fun W hS => by go_simp⟩) hS ?_
        try simp only [Act.put, List.setIfInBounds_toArray, List.set_cons_zero, List.set_cons_succ]
        refine anyH_at (i := 14) (v := .bool true) 91 rfl (by kernel_rfl) (by kernel_rfl) (by kernel_rfl) (by kernel_rfl) (fun _ _ _ h => h) (Or.inl ⟨by kernel_rfl, fun W hS => by go_simp⟩) hS ?_
        try simp only [Act.put, List.setIfInBounds_toArray, List.set_cons_zero, List.set_cons_succ]
        refine anyH_at (i := 15) (v := .bool true) 92 rfl (by kernel_rfl) (by kernel_rfl) (by kernel_rfl) (by kernel_rfl) (fun _ _ _ h => h) (Or.inl ⟨by kernel_rfl, fun W hS => by go_simp⟩) hS ?_
        try simp only [Act.put, List.setIfInBounds_toArray, List.set_cons_zero, List.set_cons_succ]
        refine anyH_at (i := 16) (v := .int .i64 0) 93 rfl (by kernel_rfl) (by kernel_rfl) (by kernel_rfl) (by kernel_rfl) (fun _ _ _ h => h) (Or.inl ⟨by kernel_rfl, fun W hS => by go_simp⟩) hS ?_
        try simp only [Act.put, List.setIfInBounds_toArray, List.set_cons_zero, List.set_cons_succ]
        refine anyH_at (i := 17) (v := .bool true) 94 rfl (by kernel_rfl) (by kernel_rfl) (by kernel_rfl) (by kernel_rfl) (fun _ _ _ h => h) (Or.inl ⟨by kernel_rfl, fun W hS => by go_simp⟩) hS ?_
        try simp only [Act.put, List.setIfInBounds_toArray, List.set_cons_zero, List.set_cons_succ]
        refine anyH_at (i := 18) (v := .bool true) 95 rfl (by kernel_rfl) (by kernel_rfl) (by kernel_rfl) (by kernel_rfl) (fun _ _ _ h => h) (Or.inl ⟨by kernel_rfl, fun W hS => by go_simp⟩) hS ?_
        try simp only [Act.put, List.setIfInBounds_toArray, List.set_cons_zero, List.set_cons_succ]
        refine anyH_at (i := 19) (v := .bool true) 96 rfl (by kernel_rfl) (by kernel_rfl) (by kernel_rfl) (by kernel_rfl) (fun _ _ _ h => h) (Or.inl ⟨by kernel_rfl, fun W hS => by go_simp⟩) hS ?_
        try simp only [Act.put, List.setIfInBounds_toArray, List.set_cons_zero, List.set_cons_succ]
        refine anyH_at (i := 20) (v := .agg (lnA K2 (.slice a5 l2.length c5))) 97 rfl (by kernel_rfl) (by kernel_rfl) (by kernel_rfl) (by kernel_rfl) (fun _ _ _ h => h) (Or.inl ⟨by kernel_rfl, fun W hS => by have f := Blk.c13 hS.x; go_simp⟩) hS ?_
        try simp only [Act.put, List.setIfInBounds_toArray, List.set_cons_zero, List.set_cons_succ]
        refine anyH_at (i := 22) (v := .agg (lnA K2 (.slice a6 l2.length c6))) 99 rfl (by kernel_rfl) (by kernel_rfl) (by kernel_rfl) (by kernel_rfl) (fun _ _ _ h => h) (Or.inl ⟨by kernel_rfl, fun W hS => by have f := Blk.c13 hS.y; go_simp⟩) hS ?_
        try simp only [Act.put, List.setIfInBounds_toArray, List.set_cons_zero, List.set_cons_succ]
        refine wpAnyH_all (rs := [21]) (by kernel_rfl) (by simp) (AllReadyH.cons (i := 21) rfl (fun KK hK => ?_) AllReadyH.nil)
        rw [if_pos (by kernel_rfl)]
        replace hS := hide hS
        go_wp2_with fail
        refine (unhide HF a5 c5 _).mono ?_
        rintro z y1 ⟨rfl, hb⟩
        have hSA := hide ((unhide hS).keep hb)
        go_wp2_with fail
        refine hK.out _ _ (unhide hSA) (fun hS => ?_)
        clear hK hSA hb
        refine wpAnyH_all (rs := [23]) (by kernel_rfl) (by simp) (AllReadyH.cons (i := 23) rfl (fun KK hK => ?_) AllReadyH.nil)
        rw [if_pos (by kernel_rfl)]
        replace hS := hide hS
        go_wp2_with fail
        refine (unhide HF a6 c6 _).mono ?_
        rintro z y2 ⟨rfl, hb⟩
        have hSA := hide ((unhide hS).keep hb)
        go_wp2_with fail
        refine hK.out _ _ (unhide hSA) (fun hS => ?_)
        clear hK hSA hb
        refine wpAnyH_all (rs := [24]) (by kernel_rfl) (by simp) (AllReadyH.cons (i := 24) rfl (fun KK hK => ?_) AllReadyH.nil)
        rw [if_pos (by kernel_rfl)]
        replace hS := hide hS
        go_wp2_with fail
        refine (unhide HSa _ _ _ _ _ (unhide hS).rx (unhide hS).ry).mono ?_
        rintro z y3 ⟨rfl, hb⟩
        have hSA := hide ((unhide hS).keep hb)
        go_wp2_with fail
        refine hK.out _ _ (unhide hSA) (fun hS => ?_)
        clear hK hSA hb
        refine anyH_at (i := 25) (v := .bool false) 102 rfl (by kernel_rfl) (by kernel_rfl) (by kernel_rfl) (by kernel_rfl) (fun _ _ _ h => h) (Or.inl ⟨by kernel_rfl, fun W hS => by go_simp⟩) hS ?_
        try simp only [Act.put, List.setIfInBounds_toArray, List.set_cons_zero, List.set_cons_succ]
        refine anyH_at (i := 26) (v := .bool false) 103 rfl (by kernel_rfl) (by kernel_rfl) (by kernel_rfl) (by kernel_rfl) (fun _ _ _ h => h) (Or.inl ⟨by kernel_rfl, fun W hS => by go_simp⟩) hS ?_
        try simp only [Act.put, List.setIfInBounds_toArray, List.set_cons_zero, List.set_cons_succ]
        refine anyH_at (i := 27) (v := .bool false) 104 rfl (by kernel_rfl) (by kernel_rfl) (by kernel_rfl) (by kernel_rfl) (fun _ _ _ h => h) (Or.inl ⟨by kernel_rfl, fun W hS => by go_simp⟩) hS ?_
        try simp only [Act.put, List.setIfInBounds_toArray, List.set_cons_zero, List.set_cons_succ]
        refine wpAnyH_done (by kernel_rfl) ?_ _
        have HI := hide hS.tw
        clear hS
        go_wp2_with fail
        go_roundw
        case rel => exact ⟨kd + 1, by omega, by go_num, HI⟩
        case measure => simp [intOf]; omega
      · clear HO2 HO3 HR5 HR6 HWW
        go_wp2_with fail
        clear hU
        refine wp_region_held_drew (S := fun W => TwI w W w2.heap.size L a3 n3 c3 l) (by kernel_rfl) ((unhide HI).drew) (fun hS => ?_)
        clear HI
        generalize hV : U3.drew = V0 at *
        clear hV
        refine anyH_at (i := 0) (v := .int .i64 e2) 77 rfl (by kernel_rfl) (by kernel_rfl) (by kernel_rfl) (by kernel_rfl) (fun _ _ _ h => h) (Or.inl ⟨by kernel_rfl, fun W hS => by go_simp⟩) hS ?_
        try simp only [Act.put, List.setIfInBounds_toArray, List.set_cons_zero, List.set_cons_succ]
        refine anyH_at (i := 1) (v := .int .i64 e3) 78 rfl (by kernel_rfl) (by kernel_rfl) (by kernel_rfl) (by kernel_rfl) (fun _ _ _ h => h) (Or.inl ⟨by kernel_rfl, fun W hS => by go_simp⟩) hS ?_
        try simp only [Act.put, List.setIfInBounds_toArray, List.set_cons_zero, List.set_cons_succ]
        refine anyH_at (i := 2) (v := .bool false) 79 rfl (by kernel_rfl) (by kernel_rfl) (by kernel_rfl) (by kernel_rfl) (fun _ _ _ h => h) (Or.inl ⟨by kernel_rfl, fun W hS => by go_simp⟩) hS ?_
        try simp only [Act.put, List.setIfInBounds_toArray, List.set_cons_zero, List.set_cons_succ]
        refine anyH_at (i := 3) (v := .bool false) 80 rfl (by kernel_rfl) (by kernel_rfl) (by kernel_rfl) (by kernel_rfl) (fun _ _ _ h => h) (Or.inl ⟨by kernel_rfl, fun W hS => by go_simp⟩) hS ?_
        try simp only [Act.put, List.setIfInBounds_toArray, List.set_cons_zero, List.set_cons_succ]
        refine anyH_at (i := 4) (v := undef) 81 rfl (by kernel_rfl) (by kernel_rfl) (by kernel_rfl) (by kernel_rfl) (fun _ _ _ h => h) (Or.inr ⟨by kernel_rfl, rfl⟩) hS ?_
        try simp only [Act.put, List.setIfInBounds_toArray, List.set_cons_zero, List.set_cons_succ]
        refine anyH_at (i := 5) (v := undef) 82 rfl (by kernel_rfl) (by kernel_rfl) (by kernel_rfl) (by kernel_rfl) (fun _ _ _ h => h) (Or.inr ⟨by kernel_rfl, rfl⟩) hS ?_
        try simp only [Act.put, List.setIfInBounds_toArray, List.set_cons_zero, List.set_cons_succ]
        refine anyH_at (i := 6) (v := undef) 83 rfl (by kernel_rfl) (by kernel_rfl) (by kernel_rfl) (by kernel_rfl) (fun _ _ _ h => h) (Or.inr ⟨by kernel_rfl, rfl⟩) hS ?_
        try simp only [Act.put, List.setIfInBounds_toArray, List.set_cons_zero, List.set_cons_succ]
        refine anyH_at (i := 7) (v := undef) 84 rfl (by kernel_rfl) (by kernel_rfl) (by kernel_rfl) (by kernel_rfl) (fun _ _ _ h => h) (Or.inr ⟨by kernel_rfl, rfl⟩) hS ?_
        try simp only [Act.put, List.setIfInBounds_toArray, List.set_cons_zero, List.set_cons_succ]
        refine anyH_at (i := 8) (v := undef) 85 rfl (by kernel_rfl) (by kernel_rfl) (by kernel_rfl) (by kernel_rfl) (fun _ _ _ h => h) (Or.inr ⟨by kernel_rfl, rfl⟩) hS ?_
        try simp only [Act.put, List.setIfInBounds_toArray, List.set_cons_zero, List.set_cons_succ]
        refine anyH_at (i := 9) (v := undef) 86 rfl (by kernel_rfl) (by kernel_rfl) (by kernel_rfl) (by kernel_rfl) (fun _ _ _ h => h) (Or.inr ⟨by kernel_rfl, rfl⟩) hS ?_
        try simp only [Act.put, List.setIfInBounds_toArray, List.set_cons_zero, List.set_cons_succ]
        refine anyH_at (i := 10) (v := undef) 87 rfl (by kernel_rfl) (by kernel_rfl) (by kernel_rfl) (by kernel_rfl) (fun _ _ _ h => h) (Or.inr ⟨by kernel_rfl, rfl⟩) hS ?_
        try simp only [Act.put, List.setIfInBounds_toArray, List.set_cons_zero, List.set_cons_succ]
        refine anyH_at (i := 11) (v := .bool false) 88 rfl (by kernel_rfl) (by kernel_rfl) (by kernel_rfl) (by kernel_rfl) (fun _ _ _ h => h) (Or.inl ⟨by kernel_rfl, fun W hS => by go_simp⟩) hS ?_
        try simp only [Act.put, List.setIfInBounds_toArray, List.set_cons_zero, List.set_cons_succ]
        refine anyH_at (i := 12) (v := .bool false) 89 rfl (by kernel_rfl) (by kernel_rfl) (by kernel_rfl) (by kernel_rfl) (fun _ _ _ h => h) (Or.inl ⟨by kernel_rfl, fun W hS => by go_simp⟩) hS ?_
        try simp only [Act.put, List.setIfInBounds_toArray, List.set_cons_zero, List.set_cons_succ]
        refine anyH_at (i := 13) (v := .int .i64 e2) 90 rfl (by kernel_rfl) (by kernel_rfl) (by kernel_rfl) (by kernel_rfl) (fun _ _ _ h => h) (Or.inl ⟨by kernel_rfl, fun W hS => by go_simp⟩) hS ?_
        try simp only [Act.put, List.setIfInBounds_toArray, List.set_cons_zero, List.set_cons_succ]
        refine anyH_at (i := 14) (v := .bool false) 91 rfl (by kernel_rfl) (by kernel_rfl) (by kernel_rfl) (by kernel_rfl) (fun _ _ _ h => h) (Or.inl ⟨by kernel_rfl, fun W hS => by go_simp⟩) hS ?_
        try simp only [Act.put, List.setIfInBounds_toArray, List.set_cons_zero, List.set_cons_succ]
        refine anyH_at (i := 15) (v := .bool false) 92 rfl (by kernel_rfl) (by kernel_rfl) (by kernel_rfl) (by kernel_rfl) (fun _ _ _ h => h) (Or.inl ⟨by kernel_rfl, fun W hS => by go_simp⟩) hS ?_
        try simp only [Act.put, List.setIfInBounds_toArray, List.set_cons_zero, List.set_cons_succ]
        refine anyH_at (i := 16) (v := undef) 93 rfl (by kernel_rfl) (by kernel_rfl) (by kernel_rfl) (by kernel_rfl) (fun _ _ _ h => h) (Or.inr ⟨by kernel_rfl, rfl⟩) hS ?_
        try simp only [Act.put, List.setIfInBounds_toArray, List.set_cons_zero, List.set_cons_succ]
        refine anyH_at (i := 17) (v := undef) 94 rfl (by kernel_rfl) (by kernel_rfl) (by kernel_rfl) (by kernel_rfl) (fun _ _ _ h => h) (Or.inr ⟨by kernel_rfl, rfl⟩) hS ?_
        try simp only [Act.put, List.setIfInBounds_toArray, List.set_cons_zero, List.set_cons_succ]
        refine anyH_at (i := 18) (v := .bool false) 95 rfl (by kernel_rfl) (by kernel_rfl) (by kernel_rfl) (by kernel_rfl) (fun _ _ _ h => h) (Or.inl ⟨by kernel_rfl, fun W hS => by go_simp⟩) hS ?_
        try simp only [Act.put, List.setIfInBounds_toArray, List.set_cons_zero, List.set_cons_succ]
        refine anyH_at (i := 19) (v := .bool false) 96 rfl (by kernel_rfl) (by kernel_rfl) (by kernel_rfl) (by kernel_rfl) (fun _ _ _ h => h) (Or.inl ⟨by kernel_rfl, fun W hS => by go_simp⟩) hS ?_
        try simp only [Act.put, List.setIfInBounds_toArray, List.set_cons_zero, List.set_cons_succ]
        refine anyH_at (i := 20) (v := undef) 97 rfl (by kernel_rfl) (by kernel_rfl) (by kernel_rfl) (by kernel_rfl) (fun _ _ _ h => h) (Or.inr ⟨by kernel_rfl, rfl⟩) hS ?_
        try simp only [Act.put, List.setIfInBounds_toArray, List.set_cons_zero, List.set_cons_succ]
        refine anyH_at (i := 21) (v := undef) 98 rfl (by kernel_rfl) (by kernel_rfl) (by kernel_rfl) (by kernel_rfl) (fun _ _ _ h => h) (Or.inr ⟨by kernel_rfl, rfl⟩) hS ?_
        try simp only [Act.put, List.setIfInBounds_toArray, List.set_cons_zero, List.set_cons_succ]
        refine anyH_at (i := 22) (v := undef) 99 rfl (by kernel_rfl) (by kernel_rfl) (by kernel_rfl) (by kernel_rfl) (fun _ _ _ h => h) (Or.inr ⟨by kernel_rfl, rfl⟩) hS ?_
        try simp only [Act.put, List.setIfInBounds_toArray, List.set_cons_zero, List.set_cons_succ]
        refine anyH_at (i := 23) (v := undef) 100 rfl (by kernel_rfl) (by kernel_rfl) (by kernel_rfl) (by kernel_rfl) (fun _ _ _ h => h) (Or.inr ⟨by kernel_rfl, rfl⟩) hS ?_
        try simp only [Act.put, List.setIfInBounds_toArray, List.set_cons_zero, List.set_cons_succ]
        refine anyH_at (i := 24) (v := undef) 101 rfl (by kernel_rfl) (by kernel_rfl) (by kernel_rfl) (by kernel_rfl) (fun _ _ _ h => h) (Or.inr ⟨by kernel_rfl, rfl⟩) hS ?_
        try simp only [Act.put, List.setIfInBounds_toArray, List.set_cons_zero, List.set_cons_succ]
        refine anyH_at (i := 25) (v := undef) 102 rfl (by kernel_rfl) (by kernel_rfl) (by kernel_rfl) (by kernel_rfl) (fun _ _ _ h => h) (Or.inr ⟨by kernel_rfl, rfl⟩) hS ?_
        try simp only [Act.put, List.setIfInBounds_toArray, List.set_cons_zero, List.set_cons_succ]
        refine anyH_at (i := 26) (v := .bool false) 103 rfl (by kernel_rfl) (by kernel_rfl) (by kernel_rfl) (by kernel_rfl) (fun _ _ _ h => h) (Or.inl ⟨by kernel_rfl, fun W hS => by go_simp⟩) hS ?_
        try simp only [Act.put, List.setIfInBounds_toArray, List.set_cons_zero, List.set_cons_succ]
        refine anyH_at (i := 27) (v := .bool false) 104 rfl (by kernel_rfl) (by kernel_rfl) (by kernel_rfl) (by kernel_rfl) (fun _ _ _ h => h) (Or.inl ⟨by kernel_rfl, fun W hS => by go_simp⟩) hS ?_
        try simp only [Act.put, List.setIfInBounds_toArray, List.set_cons_zero, List.set_cons_succ]
        refine wpAnyH_done (by kernel_rfl) ?_ _
        have HI := hide hS
        clear hS
        go_wp2_with fail
        go_roundw
        case rel => exact ⟨kd + 1, by omega, by go_num, HI⟩
        case measure => simp [intOf]; omega
      · clear HO2 HO3 HR5 HR6 HWW
        go_wp2_with fail
        clear hU
        refine wp_region_held_drew (S := fun W => TwI w W w2.heap.size L a3 n3 c3 l) (by kernel_rfl) ((unhide HI).drew) (fun hS => ?_)
        clear HI
        generalize hV : U3.drew = V0 at *
        clear hV
        refine anyH_at (i := 0) (v := .int .i64 e2) 77 rfl (by kernel_rfl) (by kernel_rfl) (by kernel_rfl) (by kernel_rfl) (fun _ _ _ h => h) (Or.inl ⟨by kernel_rfl, fun W hS => by go_simp⟩) hS ?_
        try simp only [Act.put, List.setIfInBounds_toArray, List.set_cons_zero, List.set_cons_succ]
        refine anyH_at (i := 1) (v := .int .i64 e3) 78 rfl (by kernel_rfl) (by kernel_rfl) (by kernel_rfl) (by kernel_rfl) (fun _ _ _ h => h) (Or.inl ⟨by kernel_rfl, fun W hS => by go_simp⟩) hS ?_
        try simp only [Act.put, List.setIfInBounds_toArray, List.set_cons_zero, List.set_cons_succ]
        refine anyH_at (i := 2) (v := .bool true) 79 rfl (by kernel_rfl) (by kernel_rfl) (by kernel_rfl) (by kernel_rfl) (fun _ _ _ h => h) (Or.inl ⟨by kernel_rfl, fun W hS => by go_simp⟩) hS ?_
        try simp only [Act.put, List.setIfInBounds_toArray, List.set_cons_zero, List.set_cons_succ]
        refine anyH_at (i := 3) (v := .bool true) 80 rfl (by kernel_rfl) (by kernel_rfl) (by kernel_rfl) (by kernel_rfl) (fun _ _ _ h => h) (Or.inl ⟨by kernel_rfl, fun W hS => by go_simp⟩) hS ?_
        try simp only [Act.put, List.setIfInBounds_toArray, List.set_cons_zero, List.set_cons_succ]
        refine anyH_at (i := 4) (v := .int .i64 kd) 81 rfl (by kernel_rfl) (by kernel_rfl) (by kernel_rfl) (by kernel_rfl) (fun _ _ _ h => h) (Or.inl ⟨by kernel_rfl, fun W hS => by go_simp⟩) hS ?_
        try simp only [Act.put, List.setIfInBounds_toArray, List.set_cons_zero, List.set_cons_succ]
        refine anyH_at (i := 5) (v := .bool true) 82 rfl (by kernel_rfl) (by kernel_rfl) (by kernel_rfl) (by kernel_rfl) (fun _ _ _ h => h) (Or.inl ⟨by kernel_rfl, fun W hS => by go_simp⟩) hS ?_
        try simp only [Act.put, List.setIfInBounds_toArray, List.set_cons_zero, List.set_cons_succ]
        refine anyH_at (i := 6) (v := .bool true) 83 rfl (by kernel_rfl) (by kernel_rfl) (by kernel_rfl) (by kernel_rfl) (fun _ _ _ h => h) (Or.inl ⟨by kernel_rfl, fun W hS => by go_simp⟩) hS ?_
        try simp only [Act.put, List.setIfInBounds_toArray, List.set_cons_zero, List.set_cons_succ]
        refine anyH_at (i := 7) (v := .int .u32 q) 84 rfl (by kernel_rfl) (by kernel_rfl) (by kernel_rfl) (by kernel_rfl) (fun _ _ _ h => h) (Or.inl ⟨by kernel_rfl, fun W hS => by go_simp⟩) hS ?_
        try simp only [Act.put, List.setIfInBounds_toArray, List.set_cons_zero, List.set_cons_succ]
        refine anyH_at (i := 8) (v := .bool true) 85 rfl (by kernel_rfl) (by kernel_rfl) (by kernel_rfl) (by kernel_rfl) (fun _ _ _ h => h) (Or.inl ⟨by kernel_rfl, fun W hS => by go_simp⟩) hS ?_
        try simp only [Act.put, List.setIfInBounds_toArray, List.set_cons_zero, List.set_cons_succ]
        refine anyH_at (i := 9) (v := .bool true) 86 rfl (by kernel_rfl) (by kernel_rfl) (by kernel_rfl) (by kernel_rfl) (fun _ _ _ h => h) (Or.inl ⟨by kernel_rfl, fun W hS => by go_simp⟩) hS ?_
        try simp only [Act.put, List.setIfInBounds_toArray, List.set_cons_zero, List.set_cons_succ]
        refine anyH_at (i := 10) (v := .bool false) 87 rfl (by kernel_rfl) (by kernel_rfl) (by kernel_rfl) (by kernel_rfl) (fun _ _ _ h => h) (Or.inl ⟨by kernel_rfl, fun W hS => by go_simp⟩) hS ?_
        try simp only [Act.put, List.setIfInBounds_toArray, List.set_cons_zero, List.set_cons_succ]
        refine anyH_at (i := 11) (v := .bool false) 88 rfl (by kernel_rfl) (by kernel_rfl) (by kernel_rfl) (by kernel_rfl) (fun _ _ _ h => h) (Or.inl ⟨by kernel_rfl, fun W hS => by go_simp⟩) hS ?_
        try simp only [Act.put, List.setIfInBounds_toArray, List.set_cons_zero, List.set_cons_succ]
        refine anyH_at (i := 12) (v := .bool false) 89 rfl (by kernel_rfl) (by kernel_rfl) (by kernel_rfl) (by kernel_rfl) (fun _ _ _ h => h) (Or.inl ⟨by kernel_rfl, fun W hS => by go_simp⟩) hS ?_
        try simp only [Act.put, List.setIfInBounds_toArray, List.set_cons_zero, List.set_cons_succ]
        refine anyH_at (i := 13) (v := .int .i64 e2) 90 rfl (by kernel_rfl) (by kernel_rfl) (by kernel_rfl) (by kernel_rfl) (fun _ _ _ h => h) (Or.inl ⟨by kernel_rfl, fun W hS => by go_simp⟩) hS ?_
        try simp only [Act.put, List.setIfInBounds_toArray, List.set_cons_zero, List.set_cons_succ]
        refine anyH_at (i := 14) (v := .bool false) 91 rfl (by kernel_rfl) (by kernel_rfl) (by kernel_rfl) (by kernel_rfl) (fun _ _ _ h => h) (Or.inl ⟨by kernel_rfl, fun W hS => by go_simp⟩) hS ?_
        try simp only [Act.put, List.setIfInBounds_toArray, List.set_cons_zero, List.set_cons_succ]
        refine anyH_at (i := 15) (v := .bool false) 92 rfl (by kernel_rfl) (by kernel_rfl) (by kernel_rfl) (by kernel_rfl) (fun _ _ _ h => h) (Or.inl ⟨by kernel_rfl, fun W hS => by go_simp⟩) hS ?_
        try simp only [Act.put, List.setIfInBounds_toArray, List.set_cons_zero, List.set_cons_succ]
        refine anyH_at (i := 16) (v := undef) 93 rfl (by kernel_rfl) (by kernel_rfl) (by kernel_rfl) (by kernel_rfl) (fun _ _ _ h => h) (Or.inr ⟨by kernel_rfl, rfl⟩) hS ?_
        try simp only [Act.put, List.setIfInBounds_toArray, List.set_cons_zero, List.set_cons_succ]
        refine anyH_at (i := 17) (v := undef) 94 rfl (by kernel_rfl) (by kernel_rfl) (by kernel_rfl) (by kernel_rfl) (fun _ _ _ h => h) (Or.inr ⟨by kernel_rfl, rfl⟩) hS ?_
        try simp only [Act.put, List.setIfInBounds_toArray, List.set_cons_zero, List.set_cons_succ]
        refine anyH_at (i := 18) (v := .bool false) 95 rfl (by kernel_rfl) (by kernel_rfl) (by kernel_rfl) (by kernel_rfl) (fun _ _ _ h => h) (Or.inl ⟨by kernel_rfl, fun W hS => by go_simp⟩) hS ?_
        try simp only [Act.put, List.setIfInBounds_toArray, List.set_cons_zero, List.set_cons_succ]
        refine anyH_at (i := 19) (v := .bool false) 96 rfl (by kernel_rfl) (by kernel_rfl) (by kernel_rfl) (by kernel_rfl) (fun _ _ _ h => h) (Or.inl ⟨by kernel_rfl, fun W hS => by go_simp⟩) hS ?_
        try simp only [Act.put, List.setIfInBounds_toArray, List.set_cons_zero, List.set_cons_succ]
        refine anyH_at (i := 20) (v := undef) 97 rfl (by kernel_rfl) (by kernel_rfl) (by kernel_rfl) (by kernel_rfl) (fun _ _ _ h => h) (Or.inr ⟨by kernel_rfl, rfl⟩) hS ?_
        try simp only [Act.put, List.setIfInBounds_toArray, List.set_cons_zero, List.set_cons_succ]
        refine anyH_at (i := 21) (v := undef) 98 rfl (by kernel_rfl) (by kernel_rfl) (by kernel_rfl) (by kernel_rfl) (fun _ _ _ h => h) (Or.inr ⟨by kernel_rfl, rfl⟩) hS ?_
        try simp only [Act.put, List.setIfInBounds_toArray, List.set_cons_zero, List.set_cons_succ]
        refine anyH_at (i := 22) (v := undef) 99 rfl (by kernel_rfl) (by kernel_rfl) (by kernel_rfl) (by kernel_rfl) (fun _ _ _ h => h) (Or.inr ⟨by kernel_rfl, rfl⟩) hS ?_
        try simp only [Act.put, List.setIfInBounds_toArray, List.set_cons_zero, List.set_cons_succ]
        refine anyH_at (i := 23) (v := undef) 100 rfl (by kernel_rfl) (by kernel_rfl) (by kernel_rfl) (by kernel_rfl) (fun _ _ _ h => h) (Or.inr ⟨by kernel_rfl, rfl⟩) hS ?_
        try simp only [Act.put, List.setIfInBounds_toArray, List.set_cons_zero, List.set_cons_succ]
        refine anyH_at (i := 24) (v := undef) 101 rfl (by kernel_rfl) (by kernel_rfl) (by kernel_rfl) (by kernel_rfl) (fun _ _ _ h => h) (Or.inr ⟨by kernel_rfl, rfl⟩) hS ?_
        try simp only [Act.put, List.setIfInBounds_toArray, List.set_cons_zero, List.set_cons_succ]
        refine anyH_at (i := 25) (v := undef) 102 rfl (by kernel_rfl) (by kernel_rfl) (by kernel_rfl) (by kernel_rfl) (fun _ _ _ h => h) (Or.inr ⟨by kernel_rfl, rfl⟩) hS ?_
        try simp only [Act.put, List.setIfInBounds_toArray, List.set_cons_zero, List.set_cons_succ]
        refine anyH_at (i := 26) (v := .bool false) 103 rfl (by kernel_rfl) (by kernel_rfl) (by kernel_rfl) (by kernel_rfl) (fun _ _ _ h => h) (Or.inl ⟨by kernel_rfl, fun W hS => by go_simp⟩) hS ?_
        try simp only [Act.put, List.setIfInBounds_toArray, List.set_cons_zero, List.set_cons_succ]
        refine anyH_at (i := 27) (v := .bool false) 104 rfl (by kernel_rfl) (by kernel_rfl) (by kernel_rfl) (by kernel_rfl) (fun _ _ _ h => h) (Or.inl ⟨by kernel_rfl, fun W hS => by go_simp⟩) hS ?_
        try simp only [Act.put, List.setIfInBounds_toArray, List.set_cons_zero, List.set_cons_succ]
        refine wpAnyH_done (by kernel_rfl) ?_ _
        have HI := hide hS
        clear hS
        go_wp2_with fail
        go_roundw
        case rel => exact ⟨kd + 1, by omega, by go_num, HI⟩
        case measure => simp [intOf]; omega
theorem ltwice_any {L : Ln} {a : Option Addr} {n c : Nat} {l : List Int} {p q : Int} {w : World} (hR : Row w (.slice a n c) l) (hS : Sl a n c) (hl : l.length ≤ 17592186044000) (hp : 0 ≤ p ∧ p ≤ 4294967295) (hq : 0 ≤ q ∧ q ≤ 4294967295) : TwiceL w L (.slice a n c) p q := by
  have hn := row_n hR
  by_cases h0 : 700 < n
  · exact lt_long L a n c _ l p q w hR hS hl rfl (decide_eq_true (by omega))
  have t0 : decide ((700 : Int) < (n : Int)) = false := decide_eq_false (by omega)
  by_cases t1 : rightB L l = true
  case neg => exact lt_a L a n c _ l p q w hR hS hl rfl t0 (Bool.eq_false_iff.2 t1)
  by_cases h2 : L.st = 1
  case neg => exact lt_b L a n c _ l p q w hR hS hl rfl t0 t1 (by simpa using h2)
  exact lt_go L a n c _ l p q w hR hS hl rfl hp hq t0 (by omega) t1 (by simpa using h2)
end Go.Proofs.Ytpeoabopeihadaa.Mn
