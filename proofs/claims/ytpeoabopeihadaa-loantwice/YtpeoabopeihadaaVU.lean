/- To, From and Do. -/
import Derived.Test.YtpeoabopeihadaaVS
import Derived.Test.YtpeoabopeihadaaVL
set_option linter.unusedVariables false
set_option linter.unusedSimpArgs false
set_option linter.unusedSectionVars false
namespace Go.Proofs.Ytpeoabopeihadaa.Mn
open Go.RowKit
attribute [local simp] Tri.typeInfo Tri.sizeOf Tri.underlying Tri.runUnderlying Tri.isAgg Tri.zeroValue Tri.depth Tri.stoodInHeld Tri.eqGuardType Tri.call15 Tri.call26 Tri.call27 Tri.call29 Tri.call30 Tri.call31 Tri.call32 Tri.call33 Tri.call36 Tri.call37 Tri.call44 Tri.call46 Tri.call49 Tri.call52 Tri.call54 Tri.call65 Tri.call66 Tri.call68 Tri.call69 Tri.call70 Tri.call72 Tri.call73 Tri.call74 Tri.call75 Tri.call81 Tri.call82 Tri.call83 Tri.call84 Tri.call85 Tri.call86 Tri.call87 Tri.call88 Tri.call95 Tri.call99 Tri.call100 Tri.call101 Tri.call106 Tri.call116 Tri.call117 Tri.call118 Tri.call119 Tri.call120 Tri.call122 Tri.call123 Tri.call124 Tri.call125 Tri.call126 Tri.call143 Tri.call144 Tri.call145 Tri.call146 Tri.call147 Tri.call156 Tri.call157 Tri.call159 Tri.call160 Tri.call161 Tri.call162 Tri.call163 Tri.call164 Tri.call165 Tri.call175 Tri.call176 Tri.call186 Tri.call188 Tri.call205
theorem from_any (L : Ln) (a : Option Addr) (n c : Nat) (w : World) : Calls (Tri Try.prog) 30 #[.agg (lnA L (.slice a n c))] w fun z w' => z = .returned (.agg (lnA L (.slice a n c))) ∧ Below w.heap.size w w' := by
  go_enter (Tri.at (by decide) Try.func30), Try.ntmps30
  go_wp2_with fail
  exact bodyPost_ret (v := .agg (lnA L (.slice a n c))) (by simp [results, Try.results30, go_sem]) rfl ⟨rfl, (below1L w _).alloc (by simp) _⟩
set_option maxHeartbeats 4000000 in
theorem to_any {L : Ln} {a : Option Addr} {n c : Nat} {l : List Int} {w : World} (hR : Row w (.slice a n c) l) (hS : Sl a n c) (hl : l.length ≤ 17592186044000) : Calls (Tri Try.prog) 32 #[.agg (lnA L (.slice a n c))] w fun z w' => ∃ a3 c3, z = .returned (.agg (lnA L (.slice a3 l.length c3))) ∧ Row w' (.slice a3 l.length c3) l ∧ Sl a3 l.length c3 ∧ (∀ x, a3 = some x → w.heap.size ≤ x.block) ∧ Below w.heap.size w w' := by

  have HG := hide (Grow.empty (((w.alloc (.cells (lnA L (.slice a n c)) 56)).alloc (.cells lnZ 53)).alloc (.cells (lnA L (.slice a n c)) 53)) (((w.alloc (.cells (lnA L (.slice a n c)) 56)).alloc (.cells lnZ 53)).alloc (.cells (lnA L (.slice a n c)) 53)) (Below.refl _ _))
  have HFr : Hid (From ((((w.alloc (.cells (lnA L (.slice a n c)) 56)).alloc (.cells lnZ 53)).alloc (.cells (lnA L (.slice a n c)) 53)).alloc (.cells #[] 2)) (.slice a n c) l) := hide (from_row ((((hR.alloc _).alloc _).alloc _).alloc _) hS.2)
  have HIn := hide (row_in hR)
  have HL := hide hl
  have HB : Hid (Below w.heap.size w (((w.alloc (.cells (lnA L (.slice a n c)) 56)).alloc (.cells lnZ 53)).alloc (.cells (lnA L (.slice a n c)) 53))) := hide (((below1L w _).alloc (by simp) _).alloc (by simp; omega) _)
  have H1 : Hid (Blk (((w.alloc (.cells (lnA L (.slice a n c)) 56)).alloc (.cells lnZ 53)).alloc (.cells (lnA L (.slice a n c)) 53)) (w.heap.size + 1) lnZ 53) := hide (by have h := (Blk.new (w.alloc (.cells (lnA L (.slice a n c)) 56)) lnZ 53).alloc (.cells (lnA L (.slice a n c)) 53); simpa using h)
  have H2 : Hid (Blk (((w.alloc (.cells (lnA L (.slice a n c)) 56)).alloc (.cells lnZ 53)).alloc (.cells (lnA L (.slice a n c)) 53)) (w.heap.size + 1 + 1) (lnA L (.slice a n c)) 53) := hide (by have h := Blk.new ((w.alloc (.cells (lnA L (.slice a n c)) 56)).alloc (.cells lnZ 53)) (lnA L (.slice a n c)) 53; simpa using h)
  clear hR hS hl
  go_enter (Tri.at (by decide) Try.func32), Try.ntmps32
  go_wp2_with (refine list_from rfl (.tmp 5) (.tmp 7) rfl _ _ _ _ [] l (unhide HG) (unhide HFr) (by simp [Act.eval, Act.put]) (by simp [Act.eval, Act.put]) (by have := unhide HL; simp; omega) (unhide HIn) ?_)
  intro v W2 hG
  obtain ⟨a3, c3, rfl, hr, hs, hf⟩ := grow_sl hG (by have := unhide HL; simp; omega)
  replace HB := hide (below_via (unhide HB) hG.below)
  replace H1 := hide ((unhide H1).keep hG.below)
  replace H2 := hide ((unhide H2).keep hG.below)
  have HF : Hid (∀ x, a3 = some x → w.heap.size + 1 + 1 < x.block) := hide (fun x hx => by
    have h := hf x hx
    simp at h
    omega)
  have HR3 := hide hr
  have HS3 := hide hs
  clear hr hs hf hG HG HFr
  generalize hn3 : l.length = n3 at *
  replace hn3 := hide hn3
  have x0 := (show Blk _ _ _ _ from unhide H1).at 0 (.int .i64 0) rfl
  have x1 := (show Blk _ _ _ _ from unhide H1).at 1 (.int .i64 0) rfl
  have x2 := (show Blk _ _ _ _ from unhide H1).at 2 (.int .i64 0) rfl
  have x3 := (show Blk _ _ _ _ from unhide H1).at 3 (.int .i64 0) rfl
  have x4 := (show Blk _ _ _ _ from unhide H1).at 4 (.int .i64 0) rfl
  have x5 := (show Blk _ _ _ _ from unhide H1).at 5 (.int .i64 0) rfl
  have x6 := (show Blk _ _ _ _ from unhide H1).at 6 (.int .i64 0) rfl
  have x7 := (show Blk _ _ _ _ from unhide H1).at 7 (.int .i64 0) rfl
  have x8 := (show Blk _ _ _ _ from unhide H1).at 8 (.int .i64 0) rfl
  have x9 := (show Blk _ _ _ _ from unhide H1).at 9 (.int .i64 0) rfl
  have x10 := (show Blk _ _ _ _ from unhide H1).at 10 (.int .i64 0) rfl
  have x11 := (show Blk _ _ _ _ from unhide H1).at 11 (.int .i64 0) rfl
  have x12 := (show Blk _ _ _ _ from unhide H1).at 12 (.slice none 0 0) rfl
  have u0 := (show Blk _ _ _ _ from unhide H1).fz 0
  have u1 := (show Blk _ _ _ _ from unhide H1).fz 1
  have u2 := (show Blk _ _ _ _ from unhide H1).fz 2
  have u3 := (show Blk _ _ _ _ from unhide H1).fz 3
  have u4 := (show Blk _ _ _ _ from unhide H1).fz 4
  have u5 := (show Blk _ _ _ _ from unhide H1).fz 5
  have u6 := (show Blk _ _ _ _ from unhide H1).fz 6
  have u7 := (show Blk _ _ _ _ from unhide H1).fz 7
  have u8 := (show Blk _ _ _ _ from unhide H1).fz 8
  have u9 := (show Blk _ _ _ _ from unhide H1).fz 9
  have u10 := (show Blk _ _ _ _ from unhide H1).fz 10
  have u11 := (show Blk _ _ _ _ from unhide H1).fz 11
  have u12 := (show Blk _ _ _ _ from unhide H1).fz 12
  have y0 := (show Blk _ _ _ _ from unhide H2).at 0 (.int .i64 L.id) rfl
  have y1 := (show Blk _ _ _ _ from unhide H2).at 1 (.int .i64 L.st) rfl
  have y2 := (show Blk _ _ _ _ from unhide H2).at 2 (.int .i64 L.be) rfl
  have y3 := (show Blk _ _ _ _ from unhide H2).at 3 (.int .i64 L.out) rfl
  have y4 := (show Blk _ _ _ _ from unhide H2).at 4 (.int .i64 L.rt) rfl
  have y5 := (show Blk _ _ _ _ from unhide H2).at 5 (.int .i64 L.gr) rfl
  have y6 := (show Blk _ _ _ _ from unhide H2).at 6 (.int .i64 L.due) rfl
  have y7 := (show Blk _ _ _ _ from unhide H2).at 7 (.int .i64 L.inc) rfl
  have y8 := (show Blk _ _ _ _ from unhide H2).at 8 (.int .i64 L.got) rfl
  have y9 := (show Blk _ _ _ _ from unhide H2).at 9 (.int .i64 L.adj) rfl
  have y10 := (show Blk _ _ _ _ from unhide H2).at 10 (.int .i64 L.wri) rfl
  have y11 := (show Blk _ _ _ _ from unhide H2).at 11 (.int .i64 L.rcv) rfl
  have y12 := (show Blk _ _ _ _ from unhide H2).at 12 (.slice a n c) rfl
  have yf := (show Blk _ _ _ _ from unhide H2).fz 12
  go_wp2_with fail
  clear x0 u0 y0 x1 u1 y1 x2 u2 y2 x3 u3 y3 x4 u4 y4 x5 u5 y5 x6 u6 y6 x7 u7 y7 x8 u8 y8 x9 u9 y9 x10 u10 y10 x11 u11 y11 x12 u12 y12 yf
  have k2 : Blk ((((((((((((((((((((((((((W2.setCell ⟨w.heap.size + 1 + 1, 12, none⟩ (.slice a3 n3 c3)).setCell ⟨w.heap.size + 1, 0, none⟩ (.int .i64 L.id))).setCell ⟨w.heap.size + 1, 1, none⟩ (.int .i64 L.st))).setCell ⟨w.heap.size + 1, 2, none⟩ (.int .i64 L.be))).setCell ⟨w.heap.size + 1, 3, none⟩ (.int .i64 L.out))).setCell ⟨w.heap.size + 1, 4, none⟩ (.int .i64 L.rt))).setCell ⟨w.heap.size + 1, 5, none⟩ (.int .i64 L.gr))).setCell ⟨w.heap.size + 1, 6, none⟩ (.int .i64 L.due))).setCell ⟨w.heap.size + 1, 7, none⟩ (.int .i64 L.inc))).setCell ⟨w.heap.size + 1, 8, none⟩ (.int .i64 L.got))).setCell ⟨w.heap.size + 1, 9, none⟩ (.int .i64 L.adj))).setCell ⟨w.heap.size + 1, 10, none⟩ (.int .i64 L.wri))).setCell ⟨w.heap.size + 1, 11, none⟩ (.int .i64 L.rcv))).setCell ⟨w.heap.size + 1, 12, none⟩ (.slice a3 n3 c3)) (w.heap.size + 1) (lnA L (.slice a3 n3 c3)) 53 := ((show Blk _ _ _ _ from unhide H1).other (by omega) 12 _).wrL (.int .i64 L.id) (.int .i64 L.st) (.int .i64 L.be) (.int .i64 L.out) (.int .i64 L.rt) (.int .i64 L.gr) (.int .i64 L.due) (.int .i64 L.inc) (.int .i64 L.got) (.int .i64 L.adj) (.int .i64 L.wri) (.int .i64 L.rcv) (.slice a3 n3 c3)
  have k4 : Below w.heap.size w ((((((((((((((((((((((((((W2.setCell ⟨w.heap.size + 1 + 1, 12, none⟩ (.slice a3 n3 c3)).setCell ⟨w.heap.size + 1, 0, none⟩ (.int .i64 L.id))).setCell ⟨w.heap.size + 1, 1, none⟩ (.int .i64 L.st))).setCell ⟨w.heap.size + 1, 2, none⟩ (.int .i64 L.be))).setCell ⟨w.heap.size + 1, 3, none⟩ (.int .i64 L.out))).setCell ⟨w.heap.size + 1, 4, none⟩ (.int .i64 L.rt))).setCell ⟨w.heap.size + 1, 5, none⟩ (.int .i64 L.gr))).setCell ⟨w.heap.size + 1, 6, none⟩ (.int .i64 L.due))).setCell ⟨w.heap.size + 1, 7, none⟩ (.int .i64 L.inc))).setCell ⟨w.heap.size + 1, 8, none⟩ (.int .i64 L.got))).setCell ⟨w.heap.size + 1, 9, none⟩ (.int .i64 L.adj))).setCell ⟨w.heap.size + 1, 10, none⟩ (.int .i64 L.wri))).setCell ⟨w.heap.size + 1, 11, none⟩ (.int .i64 L.rcv))).setCell ⟨w.heap.size + 1, 12, none⟩ (.slice a3 n3 c3)) := below_putL ((unhide HB).setCell (p := ⟨w.heap.size + 1 + 1, 12, none⟩) (by simp; omega) _) (by omega) (.int .i64 L.id) (.int .i64 L.st) (.int .i64 L.be) (.int .i64 L.out) (.int .i64 L.rt) (.int .i64 L.gr) (.int .i64 L.due) (.int .i64 L.inc) (.int .i64 L.got) (.int .i64 L.adj) (.int .i64 L.wri) (.int .i64 L.rcv) (.slice a3 n3 c3)
  have k5 : Row ((((((((((((((((((((((((((W2.setCell ⟨w.heap.size + 1 + 1, 12, none⟩ (.slice a3 n3 c3)).setCell ⟨w.heap.size + 1, 0, none⟩ (.int .i64 L.id))).setCell ⟨w.heap.size + 1, 1, none⟩ (.int .i64 L.st))).setCell ⟨w.heap.size + 1, 2, none⟩ (.int .i64 L.be))).setCell ⟨w.heap.size + 1, 3, none⟩ (.int .i64 L.out))).setCell ⟨w.heap.size + 1, 4, none⟩ (.int .i64 L.rt))).setCell ⟨w.heap.size + 1, 5, none⟩ (.int .i64 L.gr))).setCell ⟨w.heap.size + 1, 6, none⟩ (.int .i64 L.due))).setCell ⟨w.heap.size + 1, 7, none⟩ (.int .i64 L.inc))).setCell ⟨w.heap.size + 1, 8, none⟩ (.int .i64 L.got))).setCell ⟨w.heap.size + 1, 9, none⟩ (.int .i64 L.adj))).setCell ⟨w.heap.size + 1, 10, none⟩ (.int .i64 L.wri))).setCell ⟨w.heap.size + 1, 11, none⟩ (.int .i64 L.rcv))).setCell ⟨w.heap.size + 1, 12, none⟩ (.slice a3 n3 c3)) (.slice a3 n3 c3) l := Row.offL ((unhide HR3).off (fun x hx => by have := unhide HF x hx; omega)) (fun x hx => by have := unhide HF x hx; omega) (.int .i64 L.id) (.int .i64 L.st) (.int .i64 L.be) (.int .i64 L.out) (.int .i64 L.rt) (.int .i64 L.gr) (.int .i64 L.due) (.int .i64 L.inc) (.int .i64 L.got) (.int .i64 L.adj) (.int .i64 L.wri) (.int .i64 L.rcv) (.slice a3 n3 c3)
  have k6 : ∀ x, a3 = some x → w.heap.size ≤ x.block := fun x hx => by have := unhide HF x hx; omega
  have k7 := unhide HS3
  generalize (((((((((((((((((((((((((W2.setCell ⟨w.heap.size + 1 + 1, 12, none⟩ (.slice a3 n3 c3)).setCell ⟨w.heap.size + 1, 0, none⟩ (.int .i64 L.id))).setCell ⟨w.heap.size + 1, 1, none⟩ (.int .i64 L.st))).setCell ⟨w.heap.size + 1, 2, none⟩ (.int .i64 L.be))).setCell ⟨w.heap.size + 1, 3, none⟩ (.int .i64 L.out))).setCell ⟨w.heap.size + 1, 4, none⟩ (.int .i64 L.rt))).setCell ⟨w.heap.size + 1, 5, none⟩ (.int .i64 L.gr))).setCell ⟨w.heap.size + 1, 6, none⟩ (.int .i64 L.due))).setCell ⟨w.heap.size + 1, 7, none⟩ (.int .i64 L.inc))).setCell ⟨w.heap.size + 1, 8, none⟩ (.int .i64 L.got))).setCell ⟨w.heap.size + 1, 9, none⟩ (.int .i64 L.adj))).setCell ⟨w.heap.size + 1, 10, none⟩ (.int .i64 L.wri))).setCell ⟨w.heap.size + 1, 11, none⟩ (.int .i64 L.rcv))).setCell ⟨w.heap.size + 1, 12, none⟩ (.slice a3 n3 c3) = W at *
  have p0 := k2.at 0 (.int .i64 L.id) rfl
  have p1 := k2.at 1 (.int .i64 L.st) rfl
  have p2 := k2.at 2 (.int .i64 L.be) rfl
  have p3 := k2.at 3 (.int .i64 L.out) rfl
  have p4 := k2.at 4 (.int .i64 L.rt) rfl
  have p5 := k2.at 5 (.int .i64 L.gr) rfl
  have p6 := k2.at 6 (.int .i64 L.due) rfl
  have p7 := k2.at 7 (.int .i64 L.inc) rfl
  have p8 := k2.at 8 (.int .i64 L.got) rfl
  have p9 := k2.at 9 (.int .i64 L.adj) rfl
  have p10 := k2.at 10 (.int .i64 L.wri) rfl
  have p11 := k2.at 11 (.int .i64 L.rcv) rfl
  have p12 := k2.at 12 (.slice a3 n3 c3) rfl
  have e3 := unhide hn3
  subst e3
  exact bodyPost_ret (v := .agg (lnA L (.slice a3 l.length c3))) (by simp [results, Try.results32, go_sem, p0, p1, p2, p3, p4, p5, p6, p7, p8, p9, p10, p11, p12]) rfl ⟨a3, c3, rfl, k5, k7, k6, k4⟩
set_option maxHeartbeats 4000000 in
theorem dok_1 (L K : Ln) (a : Option Addr) (n c n3 : Nat) (kd p e m0 m1 m2 m3 : Int) (l3 : List Int) (w : World) (t1 : (kd == 1) = true) (HT : Hid (∀ W, Below w.heap.size w W → Calls (Tri Try.prog) 68 #[.agg (lnA L (.slice a n c)), .int .i64 p] W fun z w2 => ∃ a3 c3, z = .returned (.tuple #[.agg (lnA K (.slice a3 n3 c3)), .agg #[.int .i64 m0, .int .i64 m1, .int .i64 m2, .int .i64 m3], .int .i64 e]) ∧ Row w2 (.slice a3 n3 c3) l3 ∧ Sl a3 n3 c3 ∧ (∀ x, a3 = some x → W.heap.size ≤ x.block) ∧ Below W.heap.size W w2)) : Calls (Tri Try.prog) 33 #[.agg (lnA L (.slice a n c)), .int .i64 kd, .int .i64 p] w fun z w2 => ∃ a3 c3, z = .returned (.tuple #[.agg (lnA K (.slice a3 n3 c3)), .agg #[.int .i64 m0, .int .i64 m1, .int .i64 m2, .int .i64 m3], .int .i64 e]) ∧ Row w2 (.slice a3 n3 c3) l3 ∧ Sl a3 n3 c3 ∧ (∀ x, a3 = some x → w.heap.size ≤ x.block) ∧ Below w.heap.size w w2 := by
  have HD := hide (DK.new w (lnA L (.slice a n c)))
  go_enter (Tri.at (by decide) Try.func33), Try.ntmps33
  go_wp2_with fail
  refine (unhide HT _ (unhide HD).bel).mono ?_
  rintro z w2 ⟨a3, c3, rfl, hR, hG, hfr, hb⟩
  have HF : Hid (∀ x, a3 = some x → w.heap.size + 1 + 1 < x.block) := hide (fun x hx => Nat.lt_of_lt_of_le (show Blk _ _ _ _ from (unhide HD).b2).lt (hfr x hx))
  have HR := hide hR
  have HG := hide hG
  replace HD := hide ((unhide HD).keep hb)
  clear hb hR hfr HT hG
  have HB := hide (unhide HD).bel
  have H2 := hide (unhide HD).b1
  have H3 := hide (unhide HD).b2
  clear HD
  go_wp2_with (refine store_blk rfl 53 _ _ rfl (show Blk _ _ _ _ from unhide H2) rfl rfl size53 rfl rfl rfl ?_)
  intro W5 k2 kp
  replace HB := hide (kp.bel (by omega) (unhide HB))
  replace H3 := hide (kp.blk (by omega) (unhide H3))
  replace HR := hide (kp.row (fun x hx => by have := unhide HF x hx; omega) (unhide HR))
  replace H2 := hide k2
  clear kp k2
  go_wp2_with (refine store_blk rfl 65 _ _ rfl (show Blk _ _ _ _ from unhide H3) rfl rfl size65s rfl rfl rfl ?_)
  intro W6 k3 kp
  have k4 := kp.bel (by omega) (unhide HB)
  have k2 := kp.blk (by omega) (unhide H2)
  have k5 := kp.row (fun x hx => by have := unhide HF x hx; omega) (unhide HR)
  have k6 : ∀ x, a3 = some x → w.heap.size ≤ x.block := fun x hx => by have := unhide HF x hx; omega
  have k7 := unhide HG
  clear kp HB H2 H3 HR HF HG
  go_wp2_with fail
  exact bodyPost_ret (v := .tuple #[.agg (lnA K (.slice a3 n3 c3)), .agg #[.int .i64 m0, .int .i64 m1, .int .i64 m2, .int .i64 m3], .int .i64 e]) (res_cct3 rfl (show Blk _ _ _ _ from k2) row53 size53 rfl rfl k3 row65s size65s rfl rfl rfl) rfl ⟨a3, c3, rfl, k5, k7, k6, k4⟩
set_option maxHeartbeats 4000000 in
theorem dok_2 (L K : Ln) (a : Option Addr) (n c n3 : Nat) (kd p e m0 m1 m2 m3 : Int) (l3 : List Int) (w : World) (t1 : (kd == 1) = false) (t2 : (kd == 2) = true) (HT : Hid (∀ W, Below w.heap.size w W → Calls (Tri Try.prog) 44 #[.agg (lnA L (.slice a n c)), .int .i64 p] W fun z w2 => ∃ a3 c3, z = .returned (.tuple #[.agg (lnA K (.slice a3 n3 c3)), .agg #[.int .i64 m0, .int .i64 m1, .int .i64 m2, .int .i64 m3], .int .i64 e]) ∧ Row w2 (.slice a3 n3 c3) l3 ∧ Sl a3 n3 c3 ∧ (∀ x, a3 = some x → W.heap.size ≤ x.block) ∧ Below W.heap.size W w2)) : Calls (Tri Try.prog) 33 #[.agg (lnA L (.slice a n c)), .int .i64 kd, .int .i64 p] w fun z w2 => ∃ a3 c3, z = .returned (.tuple #[.agg (lnA K (.slice a3 n3 c3)), .agg #[.int .i64 m0, .int .i64 m1, .int .i64 m2, .int .i64 m3], .int .i64 e]) ∧ Row w2 (.slice a3 n3 c3) l3 ∧ Sl a3 n3 c3 ∧ (∀ x, a3 = some x → w.heap.size ≤ x.block) ∧ Below w.heap.size w w2 := by
  have HD := hide (DK.new w (lnA L (.slice a n c)))
  go_enter (Tri.at (by decide) Try.func33), Try.ntmps33
  go_wp2_with fail
  refine (unhide HT _ (unhide HD).bel).mono ?_
  rintro z w2 ⟨a3, c3, rfl, hR, hG, hfr, hb⟩
  have HF : Hid (∀ x, a3 = some x → w.heap.size + 1 + 1 < x.block) := hide (fun x hx => Nat.lt_of_lt_of_le (show Blk _ _ _ _ from (unhide HD).b2).lt (hfr x hx))
  have HR := hide hR
  have HG := hide hG
  replace HD := hide ((unhide HD).keep hb)
  clear hb hR hfr HT hG
  have HB := hide (unhide HD).bel
  have H2 := hide (unhide HD).b1
  have H3 := hide (unhide HD).b2
  clear HD
  go_wp2_with (refine store_blk rfl 53 _ _ rfl (show Blk _ _ _ _ from unhide H2) rfl rfl size53 rfl rfl rfl ?_)
  intro W5 k2 kp
  replace HB := hide (kp.bel (by omega) (unhide HB))
  replace H3 := hide (kp.blk (by omega) (unhide H3))
  replace HR := hide (kp.row (fun x hx => by have := unhide HF x hx; omega) (unhide HR))
  replace H2 := hide k2
  clear kp k2
  go_wp2_with (refine store_blk rfl 65 _ _ rfl (show Blk _ _ _ _ from unhide H3) rfl rfl size65s rfl rfl rfl ?_)
  intro W6 k3 kp
  have k4 := kp.bel (by omega) (unhide HB)
  have k2 := kp.blk (by omega) (unhide H2)
  have k5 := kp.row (fun x hx => by have := unhide HF x hx; omega) (unhide HR)
  have k6 : ∀ x, a3 = some x → w.heap.size ≤ x.block := fun x hx => by have := unhide HF x hx; omega
  have k7 := unhide HG
  clear kp HB H2 H3 HR HF HG
  go_wp2_with fail
  exact bodyPost_ret (v := .tuple #[.agg (lnA K (.slice a3 n3 c3)), .agg #[.int .i64 m0, .int .i64 m1, .int .i64 m2, .int .i64 m3], .int .i64 e]) (res_cct3 rfl (show Blk _ _ _ _ from k2) row53 size53 rfl rfl k3 row65s size65s rfl rfl rfl) rfl ⟨a3, c3, rfl, k5, k7, k6, k4⟩
set_option maxHeartbeats 4000000 in
theorem dok_3 (L K : Ln) (a : Option Addr) (n c n3 : Nat) (kd p e m0 m1 m2 m3 : Int) (l3 : List Int) (w : World) (t1 : (kd == 1) = false) (t2 : (kd == 2) = false) (t3 : (kd == 3) = true) (HT : Hid (∀ W, Below w.heap.size w W → Calls (Tri Try.prog) 36 #[.agg (lnA L (.slice a n c)), .int .i64 p] W fun z w2 => ∃ a3 c3, z = .returned (.tuple #[.agg (lnA K (.slice a3 n3 c3)), .agg #[.int .i64 m0, .int .i64 m1, .int .i64 m2, .int .i64 m3], .int .i64 e]) ∧ Row w2 (.slice a3 n3 c3) l3 ∧ Sl a3 n3 c3 ∧ (∀ x, a3 = some x → W.heap.size ≤ x.block) ∧ Below W.heap.size W w2)) : Calls (Tri Try.prog) 33 #[.agg (lnA L (.slice a n c)), .int .i64 kd, .int .i64 p] w fun z w2 => ∃ a3 c3, z = .returned (.tuple #[.agg (lnA K (.slice a3 n3 c3)), .agg #[.int .i64 m0, .int .i64 m1, .int .i64 m2, .int .i64 m3], .int .i64 e]) ∧ Row w2 (.slice a3 n3 c3) l3 ∧ Sl a3 n3 c3 ∧ (∀ x, a3 = some x → w.heap.size ≤ x.block) ∧ Below w.heap.size w w2 := by
  have HD := hide (DK.new w (lnA L (.slice a n c)))
  go_enter (Tri.at (by decide) Try.func33), Try.ntmps33
  go_wp2_with fail
  refine (unhide HT _ (unhide HD).bel).mono ?_
  rintro z w2 ⟨a3, c3, rfl, hR, hG, hfr, hb⟩
  have HF : Hid (∀ x, a3 = some x → w.heap.size + 1 + 1 < x.block) := hide (fun x hx => Nat.lt_of_lt_of_le (show Blk _ _ _ _ from (unhide HD).b2).lt (hfr x hx))
  have HR := hide hR
  have HG := hide hG
  replace HD := hide ((unhide HD).keep hb)
  clear hb hR hfr HT hG
  have HB := hide (unhide HD).bel
  have H2 := hide (unhide HD).b1
  have H3 := hide (unhide HD).b2
  clear HD
  go_wp2_with (refine store_blk rfl 53 _ _ rfl (show Blk _ _ _ _ from unhide H2) rfl rfl size53 rfl rfl rfl ?_)
  intro W5 k2 kp
  replace HB := hide (kp.bel (by omega) (unhide HB))
  replace H3 := hide (kp.blk (by omega) (unhide H3))
  replace HR := hide (kp.row (fun x hx => by have := unhide HF x hx; omega) (unhide HR))
  replace H2 := hide k2
  clear kp k2
  go_wp2_with (refine store_blk rfl 65 _ _ rfl (show Blk _ _ _ _ from unhide H3) rfl rfl size65s rfl rfl rfl ?_)
  intro W6 k3 kp
  have k4 := kp.bel (by omega) (unhide HB)
  have k2 := kp.blk (by omega) (unhide H2)
  have k5 := kp.row (fun x hx => by have := unhide HF x hx; omega) (unhide HR)
  have k6 : ∀ x, a3 = some x → w.heap.size ≤ x.block := fun x hx => by have := unhide HF x hx; omega
  have k7 := unhide HG
  clear kp HB H2 H3 HR HF HG
  go_wp2_with fail
  exact bodyPost_ret (v := .tuple #[.agg (lnA K (.slice a3 n3 c3)), .agg #[.int .i64 m0, .int .i64 m1, .int .i64 m2, .int .i64 m3], .int .i64 e]) (res_cct3 rfl (show Blk _ _ _ _ from k2) row53 size53 rfl rfl k3 row65s size65s rfl rfl rfl) rfl ⟨a3, c3, rfl, k5, k7, k6, k4⟩
set_option maxHeartbeats 4000000 in
theorem dok_4 (L K : Ln) (a : Option Addr) (n c n3 : Nat) (kd p e m0 m1 m2 m3 : Int) (l3 : List Int) (w : World) (t1 : (kd == 1) = false) (t2 : (kd == 2) = false) (t3 : (kd == 3) = false) (HT : Hid (∀ W, Below w.heap.size w W → Calls (Tri Try.prog) 37 #[.agg (lnA L (.slice a n c)), .int .i64 p] W fun z w2 => ∃ a3 c3, z = .returned (.tuple #[.agg (lnA K (.slice a3 n3 c3)), .agg #[.int .i64 m0, .int .i64 m1, .int .i64 m2, .int .i64 m3], .int .i64 e]) ∧ Row w2 (.slice a3 n3 c3) l3 ∧ Sl a3 n3 c3 ∧ (∀ x, a3 = some x → W.heap.size ≤ x.block) ∧ Below W.heap.size W w2)) : Calls (Tri Try.prog) 33 #[.agg (lnA L (.slice a n c)), .int .i64 kd, .int .i64 p] w fun z w2 => ∃ a3 c3, z = .returned (.tuple #[.agg (lnA K (.slice a3 n3 c3)), .agg #[.int .i64 m0, .int .i64 m1, .int .i64 m2, .int .i64 m3], .int .i64 e]) ∧ Row w2 (.slice a3 n3 c3) l3 ∧ Sl a3 n3 c3 ∧ (∀ x, a3 = some x → w.heap.size ≤ x.block) ∧ Below w.heap.size w w2 := by
  have HD := hide (DK.new w (lnA L (.slice a n c)))
  go_enter (Tri.at (by decide) Try.func33), Try.ntmps33
  go_wp2_with fail
  refine (unhide HT _ (unhide HD).bel).mono ?_
  rintro z w2 ⟨a3, c3, rfl, hR, hG, hfr, hb⟩
  have HF : Hid (∀ x, a3 = some x → w.heap.size + 1 + 1 < x.block) := hide (fun x hx => Nat.lt_of_lt_of_le (show Blk _ _ _ _ from (unhide HD).b2).lt (hfr x hx))
  have HR := hide hR
  have HG := hide hG
  replace HD := hide ((unhide HD).keep hb)
  clear hb hR hfr HT hG
  have HB := hide (unhide HD).bel
  have H2 := hide (unhide HD).b1
  have H3 := hide (unhide HD).b2
  clear HD
  go_wp2_with (refine store_blk rfl 53 _ _ rfl (show Blk _ _ _ _ from unhide H2) rfl rfl size53 rfl rfl rfl ?_)
  intro W5 k2 kp
  replace HB := hide (kp.bel (by omega) (unhide HB))
  replace H3 := hide (kp.blk (by omega) (unhide H3))
  replace HR := hide (kp.row (fun x hx => by have := unhide HF x hx; omega) (unhide HR))
  replace H2 := hide k2
  clear kp k2
  go_wp2_with (refine store_blk rfl 65 _ _ rfl (show Blk _ _ _ _ from unhide H3) rfl rfl size65s rfl rfl rfl ?_)
  intro W6 k3 kp
  have k4 := kp.bel (by omega) (unhide HB)
  have k2 := kp.blk (by omega) (unhide H2)
  have k5 := kp.row (fun x hx => by have := unhide HF x hx; omega) (unhide HR)
  have k6 : ∀ x, a3 = some x → w.heap.size ≤ x.block := fun x hx => by have := unhide HF x hx; omega
  have k7 := unhide HG
  clear kp HB H2 H3 HR HF HG
  go_wp2_with fail
  exact bodyPost_ret (v := .tuple #[.agg (lnA K (.slice a3 n3 c3)), .agg #[.int .i64 m0, .int .i64 m1, .int .i64 m2, .int .i64 m3], .int .i64 e]) (res_cct3 rfl (show Blk _ _ _ _ from k2) row53 size53 rfl rfl k3 row65s size65s rfl rfl rfl) rfl ⟨a3, c3, rfl, k5, k7, k6, k4⟩
def kOf (kd : Int) : Nat := if kd = 1 then 1 else if kd = 2 then 2 else if kd = 3 then 3 else 4
theorem dok_any {L : Ln} {a : Option Addr} {n c : Nat} {l : List Int} {kd p : Int} {w : World} (hR : Row w (.slice a n c) l) (hS : Sl a n c) (hl : l.length ≤ 17592186044000) : Calls (Tri Try.prog) 33 #[.agg (lnA L (.slice a n c)), .int .i64 kd, .int .i64 p] w fun z w2 => ∃ a3 c3, z = .returned (.tuple #[.agg #[.int .i64 ((stepR (kOf kd) L l p).K).id, .int .i64 ((stepR (kOf kd) L l p).K).st, .int .i64 ((stepR (kOf kd) L l p).K).be, .int .i64 ((stepR (kOf kd) L l p).K).out, .int .i64 ((stepR (kOf kd) L l p).K).rt, .int .i64 ((stepR (kOf kd) L l p).K).gr, .int .i64 ((stepR (kOf kd) L l p).K).due, .int .i64 ((stepR (kOf kd) L l p).K).inc, .int .i64 ((stepR (kOf kd) L l p).K).got, .int .i64 ((stepR (kOf kd) L l p).K).adj, .int .i64 ((stepR (kOf kd) L l p).K).wri, .int .i64 ((stepR (kOf kd) L l p).K).rcv, .slice a3 (stepR (kOf kd) L l p).l.length c3], .agg #[.int .i64 (stepR (kOf kd) L l p).m.i, .int .i64 (stepR (kOf kd) L l p).m.p, .int .i64 (stepR (kOf kd) L l p).m.w, .int .i64 (stepR (kOf kd) L l p).m.r], .int .i64 (stepE (kOf kd) L l p)]) ∧ Row w2 (.slice a3 (stepR (kOf kd) L l p).l.length c3) (stepR (kOf kd) L l p).l ∧ Sl a3 (stepR (kOf kd) L l p).l.length c3 ∧ (∀ x, a3 = some x → w.heap.size ≤ x.block) ∧ Below w.heap.size w w2 := by
  by_cases h1 : kd = 1
  · rw [show kOf kd = 1 by unfold kOf; rw [if_pos h1]]
    exact dok_1 L _ a n c _ kd p _ _ _ _ _ _ w (by simpa using h1) (hide (fun W hb => step_1 (hR.below hb (Nat.le_refl _)) hS hl))
  have t1 : (kd == 1) = false := by simpa using h1
  by_cases h2 : kd = 2
  · rw [show kOf kd = 2 by unfold kOf; rw [if_neg h1, if_pos h2]]
    exact dok_2 L _ a n c _ kd p _ _ _ _ _ _ w t1 (by simpa using h2) (hide (fun W hb => step_2 (hR.below hb (Nat.le_refl _)) hS hl))
  have t2 : (kd == 2) = false := by simpa using h2
  by_cases h3 : kd = 3
  · rw [show kOf kd = 3 by unfold kOf; rw [if_neg h1, if_neg h2, if_pos h3]]
    exact dok_3 L _ a n c _ kd p _ _ _ _ _ _ w t1 t2 (by simpa using h3) (hide (fun W hb => step_3 (hR.below hb (Nat.le_refl _)) hS hl))
  have t3 : (kd == 3) = false := by simpa using h3
  rw [show kOf kd = 4 by unfold kOf; rw [if_neg h1, if_neg h2, if_neg h3]]
  exact dok_4 L _ a n c _ kd p _ _ _ _ _ _ w t1 t2 t3 (hide (fun W hb => step_4 (hR.below hb (Nat.le_refl _)) hS hl))
theorem below_drewN (w : World) : ∀ n, Below w.heap.size w (w.drewN n)
  | 0 => Below.refl _ _
  | n + 1 => below_drew (below_drewN w n)
set_option maxHeartbeats 2000000 in
theorem same2_empty (L : Ln) (a a' : Option Addr) (c c' : Nat) (w : World) : Calls (Tri Try.prog) 29 #[.agg (lnA L (.slice a 0 c)), .agg (lnA L (.slice a' 0 c'))] w fun e w' => e = .returned (.bool true) ∧ Below w.heap.size w w' := by
  have HB : Hid (Below w.heap.size w ((w.alloc (.cells (lnA L (.slice a 0 c)) 56)).alloc (.cells (lnA L (.slice a' 0 c')) 56))) := hide ((below1L w _).alloc (by simp) _)
  go_enter (Tri.at (by decide) Try.func29), Try.ntmps29
  go_wp2_with fail
  refine wp_loop_rounds 1 ?_
  rw [rounds_succ]
  go_wp2_with fail
  go_ret
  exact ⟨rfl, unhide HB⟩
set_option maxHeartbeats 4000000 in
theorem same2_row (L : Ln) (b off c b' off' c' len : Nat) (xs : List Int) (w : World) (hm : len ≤ 1000000)
    (hx : ∀ j, j < len → w.cell? ⟨b, off + j, none⟩ = some (.int .i64 (xs.getD j 0)))
    (hy : ∀ j, j < len → w.cell? ⟨b', off' + j, none⟩ = some (.int .i64 (xs.getD j 0))) :
    Calls (Tri Try.prog) 29 #[.agg (lnA L (.slice (some ⟨b, off, none⟩) len c)), .agg (lnA L (.slice (some ⟨b', off', none⟩) len c'))] w fun e w' => e = .returned (.bool true) ∧ Below w.heap.size w w' := by
  have HX : Hid (∀ j, j < len → ((w.alloc (.cells (lnA L (.slice (some ⟨b, off, none⟩) len c)) 56)).alloc (.cells (lnA L (.slice (some ⟨b', off', none⟩) len c')) 56)).cell? ⟨b, off + j, none⟩ = some (.int .i64 (xs.getD j 0))) := hide (fun j hj => cell_old (cell_old (hx j hj) _) _)
  have HY : Hid (∀ j, j < len → ((w.alloc (.cells (lnA L (.slice (some ⟨b, off, none⟩) len c)) 56)).alloc (.cells (lnA L (.slice (some ⟨b', off', none⟩) len c')) 56)).cell? ⟨b', off' + j, none⟩ = some (.int .i64 (xs.getD j 0))) := hide (fun j hj => cell_old (cell_old (hy j hj) _) _)
  have HB : Hid (Below w.heap.size w ((w.alloc (.cells (lnA L (.slice (some ⟨b, off, none⟩) len c)) 56)).alloc (.cells (lnA L (.slice (some ⟨b', off', none⟩) len c')) 56))) := hide ((below1L w _).alloc (by simp) _)
  have HA : Hid (Blk ((w.alloc (.cells (lnA L (.slice (some ⟨b, off, none⟩) len c)) 56)).alloc (.cells (lnA L (.slice (some ⟨b', off', none⟩) len c')) 56)) w.heap.size (lnA L (.slice (some ⟨b, off, none⟩) len c)) 56) := hide ((Blk.new w _ 56).alloc _)
  have HD : Hid (Blk ((w.alloc (.cells (lnA L (.slice (some ⟨b, off, none⟩) len c)) 56)).alloc (.cells (lnA L (.slice (some ⟨b', off', none⟩) len c')) 56)) (w.heap.size + 1) (lnA L (.slice (some ⟨b', off', none⟩) len c')) 56) := hide (by have h := Blk.new (w.alloc (.cells (lnA L (.slice (some ⟨b, off, none⟩) len c)) 56)) (lnA L (.slice (some ⟨b', off', none⟩) len c')) 56; simpa using h)
  clear hx hy
  have d1 : ((len : Int) != (len : Int)) = false := by simp
  go_enter (Tri.at (by decide) Try.func29), Try.ntmps29
  go_wp2_with fail
  generalize hU : (w.alloc (.cells (lnA L (.slice (some ⟨b, off, none⟩) len c)) 56)).alloc (.cells (lnA L (.slice (some ⟨b', off', none⟩) len c')) 56) = U at *
  clear hU
  obtain ⟨x0, x1, x2, x3, x4, x5, x6, x7, x8, x9, x10, x11, x12⟩ := Blk.c13 (show Blk _ _ _ _ from unhide HA)
  obtain ⟨y0, y1, y2, y3, y4, y5, y6, y7, y8, y9, y10, y11, y12⟩ := Blk.c13 (show Blk _ _ _ _ from unhide HD)
  go_loopw [16] (fun i wr => ∃ k n : Nat, k ≤ len ∧ i = .int .i64 k ∧ wr = U.drewN n) (fun i _ => len - (intOf i).toNat)
  case atStart => exact ⟨0, 0, by omega, rfl, rfl⟩
  case round =>
    obtain ⟨k, n, hk, rfl, rfl⟩ := hrel
    by_cases hlt : k < len
    · have h1 := unhide HX k hlt
      have h2 := unhide HY k hlt
      generalize xs.getD k 0 = x at *
      have hb : (x != x) = false := by simp
      go_wp2_with fail
      go_region
      all_goals (try go_wp2_with fail)
      all_goals go_roundw
      all_goals first | exact ⟨k + 1, n + 1, by omega, by go_num, rfl⟩ | (simp [intOf]; omega)
    · have hk2 : k = len := by omega
      subst hk2
      go_wp2_with fail
      go_ret
      exact ⟨rfl, below_via (unhide HB) (below_drewN U n)⟩
theorem same2_any {L : Ln} {a a' : Option Addr} {n n' c c' : Nat} {xs : List Int} {w : World} (hm : xs.length ≤ 1000000) (h : Row w (.slice a n c) xs) (h' : Row w (.slice a' n' c') xs) : Calls (Tri Try.prog) 29 #[.agg (lnA L (.slice a n c)), .agg (lnA L (.slice a' n' c'))] w fun e w' => e = .returned (.bool true) ∧ Below w.heap.size w w' := by
  rcases h with ⟨x, y, h1, rfl⟩ | ⟨b, off, y, h1, h0, _, hc, _⟩
  · obtain ⟨x', y', h2⟩ := row_slice h'
    cases h1; cases h2
    exact same2_empty L a a' c c' w
  · rcases h' with ⟨x', y', h2, h3⟩ | ⟨b', off', y', h2, _, _, hc', _⟩
    · rw [h3] at h0; exact absurd h0 (by decide)
    · cases h1; cases h2
      exact same2_row L b off c b' off' c' xs.length xs w hm hc hc'
end Go.Proofs.Ytpeoabopeihadaa.Mn
