/- To, From and Do. -/
import Derived.Test.YtpeoabopeihadaaUS
set_option linter.unusedVariables false
set_option linter.unusedSimpArgs false
set_option linter.unusedSectionVars false
namespace Go.Proofs.Ytpeoabopeihadaa.Mn
open Go.RowKit
attribute [local simp] Tri.typeInfo Tri.sizeOf Tri.underlying Tri.runUnderlying Tri.isAgg Tri.zeroValue Tri.depth Tri.stoodInHeld Tri.eqGuardType Tri.call15 Tri.call26 Tri.call27 Tri.call31 Tri.call33 Tri.call36 Tri.call37 Tri.call44 Tri.call46 Tri.call49 Tri.call52 Tri.call54 Tri.call65 Tri.call66 Tri.call68 Tri.call69 Tri.call70 Tri.call72 Tri.call73 Tri.call74 Tri.call75 Tri.call81 Tri.call82 Tri.call83 Tri.call84 Tri.call85 Tri.call86 Tri.call87 Tri.call88 Tri.call95 Tri.call99 Tri.call100 Tri.call101 Tri.call106 Tri.call116 Tri.call117 Tri.call118 Tri.call119 Tri.call120 Tri.call122 Tri.call123 Tri.call124 Tri.call125 Tri.call126 Tri.call143 Tri.call144 Tri.call145 Tri.call146 Tri.call147 Tri.call156 Tri.call157 Tri.call159 Tri.call160 Tri.call161 Tri.call162 Tri.call163 Tri.call164 Tri.call165 Tri.call175 Tri.call176 Tri.call186 Tri.call188 Tri.call205
set_option maxHeartbeats 4000000 in
theorem dok_1 (L K : Ln) (a : Option Addr) (n c n3 : Nat) (kd p e m0 m1 m2 m3 : Int) (l3 : List Int) (w : World) (t1 : (kd == 1) = true) (HT : Hid (∀ W, Below w.heap.size w W → Calls (Tri Try.prog) 68 #[.agg (lnA L (.slice a n c)), .int .i64 p] W fun z w2 => ∃ a3 c3, z = .returned (.tuple #[.agg (lnA K (.slice a3 n3 c3)), .agg #[.int .i64 m0, .int .i64 m1, .int .i64 m2, .int .i64 m3], .int .i64 e]) ∧ Row w2 (.slice a3 n3 c3) l3 ∧ Sl a3 n3 c3 ∧ (∀ x, a3 = some x → W.heap.size ≤ x.block) ∧ Below W.heap.size W w2)) : Calls (Tri Try.prog) 33 #[.agg (lnA L (.slice a n c)), .int .i64 kd, .int .i64 p] w fun z w2 => ∃ a3 c3, z = .returned (.tuple #[.agg (lnA K (.slice a3 n3 c3)), .agg #[.int .i64 m0, .int .i64 m1, .int .i64 m2, .int .i64 m3], .int .i64 e]) ∧ Row w2 (.slice a3 n3 c3) l3 ∧ Sl a3 n3 c3 ∧ (∀ x, a3 = some x → w.heap.size ≤ x.block) ∧ Below w.heap.size w w2 := by
  have HD := hide (DK.new w (lnA L (.slice a n c)))
  go_enter (Tri.at (by decide) Try.func33), Try.ntmps33
  go_wp2_with fail
  refine (unhide HT _ (unhide HD).bel).mono ?_
  rintro z w2 ⟨a3, c3, rfl, hR, hG, hfr, hb⟩
  have HF : Hid (∀ x, a3 = some x → w.heap.size + 1 + 1 < x.block) := hide (fun x hx => Nat.lt_of_lt_of_le (show Blk _ _ _ _ from (unhide HD).b2).lt (hfr x hx))
  have HR := hide hR
  have HG := hide hG
  replace HD := hide ((unhide HD).keep hb)
  clear hb hR hfr HT hG
  have HB := hide (unhide HD).bel
  have H2 := hide (unhide HD).b1
  have H3 := hide (unhide HD).b2
  clear HD
  go_wp2_with (refine store_blk rfl 53 _ _ rfl (show Blk _ _ _ _ from unhide H2) rfl rfl size53 rfl rfl rfl ?_)
  intro W5 k2 kp
  replace HB := hide (kp.bel (by omega) (unhide HB))
  replace H3 := hide (kp.blk (by omega) (unhide H3))
  replace HR := hide (kp.row (fun x hx => by have := unhide HF x hx; omega) (unhide HR))
  replace H2 := hide k2
  clear kp k2
  go_wp2_with (refine store_blk rfl 65 _ _ rfl (show Blk _ _ _ _ from unhide H3) rfl rfl size65s rfl rfl rfl ?_)
  intro W6 k3 kp
  have k4 := kp.bel (by omega) (unhide HB)
  have k2 := kp.blk (by omega) (unhide H2)
  have k5 := kp.row (fun x hx => by have := unhide HF x hx; omega) (unhide HR)
  have k6 : ∀ x, a3 = some x → w.heap.size ≤ x.block := fun x hx => by have := unhide HF x hx; omega
  have k7 := unhide HG
  clear kp HB H2 H3 HR HF HG
  go_wp2_with fail
  exact bodyPost_ret (v := .tuple #[.agg (lnA K (.slice a3 n3 c3)), .agg #[.int .i64 m0, .int .i64 m1, .int .i64 m2, .int .i64 m3], .int .i64 e]) (res_cct3 rfl (show Blk _ _ _ _ from k2) row53 size53 rfl rfl k3 row65s size65s rfl rfl rfl) rfl ⟨a3, c3, rfl, k5, k7, k6, k4⟩
set_option maxHeartbeats 4000000 in
theorem dok_2 (L K : Ln) (a : Option Addr) (n c n3 : Nat) (kd p e m0 m1 m2 m3 : Int) (l3 : List Int) (w : World) (t1 : (kd == 1) = false) (t2 : (kd == 2) = true) (HT : Hid (∀ W, Below w.heap.size w W → Calls (Tri Try.prog) 44 #[.agg (lnA L (.slice a n c)), .int .i64 p] W fun z w2 => ∃ a3 c3, z = .returned (.tuple #[.agg (lnA K (.slice a3 n3 c3)), .agg #[.int .i64 m0, .int .i64 m1, .int .i64 m2, .int .i64 m3], .int .i64 e]) ∧ Row w2 (.slice a3 n3 c3) l3 ∧ Sl a3 n3 c3 ∧ (∀ x, a3 = some x → W.heap.size ≤ x.block) ∧ Below W.heap.size W w2)) : Calls (Tri Try.prog) 33 #[.agg (lnA L (.slice a n c)), .int .i64 kd, .int .i64 p] w fun z w2 => ∃ a3 c3, z = .returned (.tuple #[.agg (lnA K (.slice a3 n3 c3)), .agg #[.int .i64 m0, .int .i64 m1, .int .i64 m2, .int .i64 m3], .int .i64 e]) ∧ Row w2 (.slice a3 n3 c3) l3 ∧ Sl a3 n3 c3 ∧ (∀ x, a3 = some x → w.heap.size ≤ x.block) ∧ Below w.heap.size w w2 := by
  have HD := hide (DK.new w (lnA L (.slice a n c)))
  go_enter (Tri.at (by decide) Try.func33), Try.ntmps33
  go_wp2_with fail
  refine (unhide HT _ (unhide HD).bel).mono ?_
  rintro z w2 ⟨a3, c3, rfl, hR, hG, hfr, hb⟩
  have HF : Hid (∀ x, a3 = some x → w.heap.size + 1 + 1 < x.block) := hide (fun x hx => Nat.lt_of_lt_of_le (show Blk _ _ _ _ from (unhide HD).b2).lt (hfr x hx))
  have HR := hide hR
  have HG := hide hG
  replace HD := hide ((unhide HD).keep hb)
  clear hb hR hfr HT hG
  have HB := hide (unhide HD).bel
  have H2 := hide (unhide HD).b1
  have H3 := hide (unhide HD).b2
  clear HD
  go_wp2_with (refine store_blk rfl 53 _ _ rfl (show Blk _ _ _ _ from unhide H2) rfl rfl size53 rfl rfl rfl ?_)
  intro W5 k2 kp
  replace HB := hide (kp.bel (by omega) (unhide HB))
  replace H3 := hide (kp.blk (by omega) (unhide H3))
  replace HR := hide (kp.row (fun x hx => by have := unhide HF x hx; omega) (unhide HR))
  replace H2 := hide k2
  clear kp k2
  go_wp2_with (refine store_blk rfl 65 _ _ rfl (show Blk _ _ _ _ from unhide H3) rfl rfl size65s rfl rfl rfl ?_)
  intro W6 k3 kp
  have k4 := kp.bel (by omega) (unhide HB)
  have k2 := kp.blk (by omega) (unhide H2)
  have k5 := kp.row (fun x hx => by have := unhide HF x hx; omega) (unhide HR)
  have k6 : ∀ x, a3 = some x → w.heap.size ≤ x.block := fun x hx => by have := unhide HF x hx; omega
  have k7 := unhide HG
  clear kp HB H2 H3 HR HF HG
  go_wp2_with fail
  exact bodyPost_ret (v := .tuple #[.agg (lnA K (.slice a3 n3 c3)), .agg #[.int .i64 m0, .int .i64 m1, .int .i64 m2, .int .i64 m3], .int .i64 e]) (res_cct3 rfl (show Blk _ _ _ _ from k2) row53 size53 rfl rfl k3 row65s size65s rfl rfl rfl) rfl ⟨a3, c3, rfl, k5, k7, k6, k4⟩
set_option maxHeartbeats 4000000 in
theorem dok_3 (L K : Ln) (a : Option Addr) (n c n3 : Nat) (kd p e m0 m1 m2 m3 : Int) (l3 : List Int) (w : World) (t1 : (kd == 1) = false) (t2 : (kd == 2) = false) (t3 : (kd == 3) = true) (HT : Hid (∀ W, Below w.heap.size w W → Calls (Tri Try.prog) 36 #[.agg (lnA L (.slice a n c)), .int .i64 p] W fun z w2 => ∃ a3 c3, z = .returned (.tuple #[.agg (lnA K (.slice a3 n3 c3)), .agg #[.int .i64 m0, .int .i64 m1, .int .i64 m2, .int .i64 m3], .int .i64 e]) ∧ Row w2 (.slice a3 n3 c3) l3 ∧ Sl a3 n3 c3 ∧ (∀ x, a3 = some x → W.heap.size ≤ x.block) ∧ Below W.heap.size W w2)) : Calls (Tri Try.prog) 33 #[.agg (lnA L (.slice a n c)), .int .i64 kd, .int .i64 p] w fun z w2 => ∃ a3 c3, z = .returned (.tuple #[.agg (lnA K (.slice a3 n3 c3)), .agg #[.int .i64 m0, .int .i64 m1, .int .i64 m2, .int .i64 m3], .int .i64 e]) ∧ Row w2 (.slice a3 n3 c3) l3 ∧ Sl a3 n3 c3 ∧ (∀ x, a3 = some x → w.heap.size ≤ x.block) ∧ Below w.heap.size w w2 := by
  have HD := hide (DK.new w (lnA L (.slice a n c)))
  go_enter (Tri.at (by decide) Try.func33), Try.ntmps33
  go_wp2_with fail
  refine (unhide HT _ (unhide HD).bel).mono ?_
  rintro z w2 ⟨a3, c3, rfl, hR, hG, hfr, hb⟩
  have HF : Hid (∀ x, a3 = some x → w.heap.size + 1 + 1 < x.block) := hide (fun x hx => Nat.lt_of_lt_of_le (show Blk _ _ _ _ from (unhide HD).b2).lt (hfr x hx))
  have HR := hide hR
  have HG := hide hG
  replace HD := hide ((unhide HD).keep hb)
  clear hb hR hfr HT hG
  have HB := hide (unhide HD).bel
  have H2 := hide (unhide HD).b1
  have H3 := hide (unhide HD).b2
  clear HD
  go_wp2_with (refine store_blk rfl 53 _ _ rfl (show Blk _ _ _ _ from unhide H2) rfl rfl size53 rfl rfl rfl ?_)
  intro W5 k2 kp
  replace HB := hide (kp.bel (by omega) (unhide HB))
  replace H3 := hide (kp.blk (by omega) (unhide H3))
  replace HR := hide (kp.row (fun x hx => by have := unhide HF x hx; omega) (unhide HR))
  replace H2 := hide k2
  clear kp k2
  go_wp2_with (refine store_blk rfl 65 _ _ rfl (show Blk _ _ _ _ from unhide H3) rfl rfl size65s rfl rfl rfl ?_)
  intro W6 k3 kp
  have k4 := kp.bel (by omega) (unhide HB)
  have k2 := kp.blk (by omega) (unhide H2)
  have k5 := kp.row (fun x hx => by have := unhide HF x hx; omega) (unhide HR)
  have k6 : ∀ x, a3 = some x → w.heap.size ≤ x.block := fun x hx => by have := unhide HF x hx; omega
  have k7 := unhide HG
  clear kp HB H2 H3 HR HF HG
  go_wp2_with fail
  exact bodyPost_ret (v := .tuple #[.agg (lnA K (.slice a3 n3 c3)), .agg #[.int .i64 m0, .int .i64 m1, .int .i64 m2, .int .i64 m3], .int .i64 e]) (res_cct3 rfl (show Blk _ _ _ _ from k2) row53 size53 rfl rfl k3 row65s size65s rfl rfl rfl) rfl ⟨a3, c3, rfl, k5, k7, k6, k4⟩
set_option maxHeartbeats 4000000 in
theorem dok_4 (L K : Ln) (a : Option Addr) (n c n3 : Nat) (kd p e m0 m1 m2 m3 : Int) (l3 : List Int) (w : World) (t1 : (kd == 1) = false) (t2 : (kd == 2) = false) (t3 : (kd == 3) = false) (HT : Hid (∀ W, Below w.heap.size w W → Calls (Tri Try.prog) 37 #[.agg (lnA L (.slice a n c)), .int .i64 p] W fun z w2 => ∃ a3 c3, z = .returned (.tuple #[.agg (lnA K (.slice a3 n3 c3)), .agg #[.int .i64 m0, .int .i64 m1, .int .i64 m2, .int .i64 m3], .int .i64 e]) ∧ Row w2 (.slice a3 n3 c3) l3 ∧ Sl a3 n3 c3 ∧ (∀ x, a3 = some x → W.heap.size ≤ x.block) ∧ Below W.heap.size W w2)) : Calls (Tri Try.prog) 33 #[.agg (lnA L (.slice a n c)), .int .i64 kd, .int .i64 p] w fun z w2 => ∃ a3 c3, z = .returned (.tuple #[.agg (lnA K (.slice a3 n3 c3)), .agg #[.int .i64 m0, .int .i64 m1, .int .i64 m2, .int .i64 m3], .int .i64 e]) ∧ Row w2 (.slice a3 n3 c3) l3 ∧ Sl a3 n3 c3 ∧ (∀ x, a3 = some x → w.heap.size ≤ x.block) ∧ Below w.heap.size w w2 := by
  have HD := hide (DK.new w (lnA L (.slice a n c)))
  go_enter (Tri.at (by decide) Try.func33), Try.ntmps33
  go_wp2_with fail
  refine (unhide HT _ (unhide HD).bel).mono ?_
  rintro z w2 ⟨a3, c3, rfl, hR, hG, hfr, hb⟩
  have HF : Hid (∀ x, a3 = some x → w.heap.size + 1 + 1 < x.block) := hide (fun x hx => Nat.lt_of_lt_of_le (show Blk _ _ _ _ from (unhide HD).b2).lt (hfr x hx))
  have HR := hide hR
  have HG := hide hG
  replace HD := hide ((unhide HD).keep hb)
  clear hb hR hfr HT hG
  have HB := hide (unhide HD).bel
  have H2 := hide (unhide HD).b1
  have H3 := hide (unhide HD).b2
  clear HD
  go_wp2_with (refine store_blk rfl 53 _ _ rfl (show Blk _ _ _ _ from unhide H2) rfl rfl size53 rfl rfl rfl ?_)
  intro W5 k2 kp
  replace HB := hide (kp.bel (by omega) (unhide HB))
  replace H3 := hide (kp.blk (by omega) (unhide H3))
  replace HR := hide (kp.row (fun x hx => by have := unhide HF x hx; omega) (unhide HR))
  replace H2 := hide k2
  clear kp k2
  go_wp2_with (refine store_blk rfl 65 _ _ rfl (show Blk _ _ _ _ from unhide H3) rfl rfl size65s rfl rfl rfl ?_)
  intro W6 k3 kp
  have k4 := kp.bel (by omega) (unhide HB)
  have k2 := kp.blk (by omega) (unhide H2)
  have k5 := kp.row (fun x hx => by have := unhide HF x hx; omega) (unhide HR)
  have k6 : ∀ x, a3 = some x → w.heap.size ≤ x.block := fun x hx => by have := unhide HF x hx; omega
  have k7 := unhide HG
  clear kp HB H2 H3 HR HF HG
  go_wp2_with fail
  exact bodyPost_ret (v := .tuple #[.agg (lnA K (.slice a3 n3 c3)), .agg #[.int .i64 m0, .int .i64 m1, .int .i64 m2, .int .i64 m3], .int .i64 e]) (res_cct3 rfl (show Blk _ _ _ _ from k2) row53 size53 rfl rfl k3 row65s size65s rfl rfl rfl) rfl ⟨a3, c3, rfl, k5, k7, k6, k4⟩
def kOf (kd : Int) : Nat := if kd = 1 then 1 else if kd = 2 then 2 else if kd = 3 then 3 else 4
theorem dok_any {L : Ln} {a : Option Addr} {n c : Nat} {l : List Int} {kd p : Int} {w : World} (hR : Row w (.slice a n c) l) (hS : Sl a n c) (hl : l.length ≤ 17592186044000) : Calls (Tri Try.prog) 33 #[.agg (lnA L (.slice a n c)), .int .i64 kd, .int .i64 p] w fun z w2 => ∃ a3 c3, z = .returned (.tuple #[.agg #[.int .i64 ((stepR (kOf kd) L l p).K).id, .int .i64 ((stepR (kOf kd) L l p).K).st, .int .i64 ((stepR (kOf kd) L l p).K).be, .int .i64 ((stepR (kOf kd) L l p).K).out, .int .i64 ((stepR (kOf kd) L l p).K).rt, .int .i64 ((stepR (kOf kd) L l p).K).gr, .int .i64 ((stepR (kOf kd) L l p).K).due, .int .i64 ((stepR (kOf kd) L l p).K).inc, .int .i64 ((stepR (kOf kd) L l p).K).got, .int .i64 ((stepR (kOf kd) L l p).K).adj, .int .i64 ((stepR (kOf kd) L l p).K).wri, .int .i64 ((stepR (kOf kd) L l p).K).rcv, .slice a3 (stepR (kOf kd) L l p).l.length c3], .agg #[.int .i64 (stepR (kOf kd) L l p).m.i, .int .i64 (stepR (kOf kd) L l p).m.p, .int .i64 (stepR (kOf kd) L l p).m.w, .int .i64 (stepR (kOf kd) L l p).m.r], .int .i64 (stepE (kOf kd) L l p)]) ∧ Row w2 (.slice a3 (stepR (kOf kd) L l p).l.length c3) (stepR (kOf kd) L l p).l ∧ Sl a3 (stepR (kOf kd) L l p).l.length c3 ∧ (∀ x, a3 = some x → w.heap.size ≤ x.block) ∧ Below w.heap.size w w2 := by
  by_cases h1 : kd = 1
  · rw [show kOf kd = 1 by unfold kOf; rw [if_pos h1]]
    exact dok_1 L _ a n c _ kd p _ _ _ _ _ _ w (by simpa using h1) (hide (fun W hb => step_1 (hR.below hb (Nat.le_refl _)) hS hl))
  have t1 : (kd == 1) = false := by simpa using h1
  by_cases h2 : kd = 2
  · rw [show kOf kd = 2 by unfold kOf; rw [if_neg h1, if_pos h2]]
    exact dok_2 L _ a n c _ kd p _ _ _ _ _ _ w t1 (by simpa using h2) (hide (fun W hb => step_2 (hR.below hb (Nat.le_refl _)) hS hl))
  have t2 : (kd == 2) = false := by simpa using h2
  by_cases h3 : kd = 3
  · rw [show kOf kd = 3 by unfold kOf; rw [if_neg h1, if_neg h2, if_pos h3]]
    exact dok_3 L _ a n c _ kd p _ _ _ _ _ _ w t1 t2 (by simpa using h3) (hide (fun W hb => step_3 (hR.below hb (Nat.le_refl _)) hS hl))
  have t3 : (kd == 3) = false := by simpa using h3
  rw [show kOf kd = 4 by unfold kOf; rw [if_neg h1, if_neg h2, if_neg h3]]
  exact dok_4 L _ a n c _ kd p _ _ _ _ _ _ w t1 t2 t3 (hide (fun W hb => step_4 (hR.below hb (Nat.le_refl _)) hS hl))
end Go.Proofs.Ytpeoabopeihadaa.Mn
