/- Step, Pay, Write and Recover around what they do. -/
import Derived.Test.YtpeoabopeihadaaUM
import Derived.Test.YtpeoabopeihadaaUL
set_option linter.unusedVariables false
set_option linter.unusedSimpArgs false
set_option linter.unusedSectionVars false
namespace Go.Proofs.Ytpeoabopeihadaa.Mn
open Go.RowKit
attribute [local simp] Tri.typeInfo Tri.sizeOf Tri.underlying Tri.runUnderlying Tri.isAgg Tri.zeroValue Tri.depth Tri.stoodInHeld Tri.eqGuardType Tri.call15 Tri.call26 Tri.call27 Tri.call31 Tri.call33 Tri.call36 Tri.call37 Tri.call44 Tri.call46 Tri.call49 Tri.call52 Tri.call54 Tri.call65 Tri.call66 Tri.call68 Tri.call69 Tri.call70 Tri.call72 Tri.call73 Tri.call74 Tri.call75 Tri.call81 Tri.call82 Tri.call83 Tri.call84 Tri.call85 Tri.call86 Tri.call87 Tri.call88 Tri.call95 Tri.call99 Tri.call100 Tri.call101 Tri.call106 Tri.call116 Tri.call117 Tri.call118 Tri.call119 Tri.call120 Tri.call122 Tri.call123 Tri.call124 Tri.call125 Tri.call126 Tri.call143 Tri.call144 Tri.call145 Tri.call146 Tri.call147 Tri.call156 Tri.call157 Tri.call159 Tri.call160 Tri.call161 Tri.call162 Tri.call163 Tri.call164 Tri.call165 Tri.call175 Tri.call176 Tri.call186 Tri.call188 Tri.call205
theorem row65s : isRowB (Tri Try.prog) 65 = true := by kernel_rfl
theorem size65s : ((Tri Try.prog).info? 65).map (·.size) = some 4 := by kernel_rfl
theorem res_cct3 {fn : Func} {tmps : Array Value} {W : World} {s0 b0 n0 s1 b1 n1 : Nat} {ty0 T0 ty1 T1 : TypeId} {cs0 cs1 : Array Value} (hs0 : tmps.getD s0 undef = .pointer (some ⟨b0, 0, none⟩)) (hB0 : Blk W b0 cs0 T0) (hr0 : isRowB (Tri Try.prog) ty0 = true) (hi0 : ((Tri Try.prog).info? ty0).map (·.size) = some n0) (hn0 : cs0.size = n0) (hs1 : tmps.getD s1 undef = .pointer (some ⟨b1, 0, none⟩)) (hB1 : Blk W b1 cs1 T1) (hr1 : isRowB (Tri Try.prog) ty1 = true) (hi1 : ((Tri Try.prog).info? ty1).map (·.size) = some n1) (hn1 : cs1.size = n1) {t2 : Nat} {v2 : Value} (hv2 : tmps.getD t2 undef = v2) (hf : fn.results = #[.cell s0 ty0, .cell s1 ty1, .tmp t2]) : (results fn tmps).run (Tri Try.prog) W = .ok (.tuple #[.agg cs0, .agg cs1, v2]) W := by
  have gs0 : tmps[s0]?.getD undef = .pointer (some ⟨b0, 0, none⟩) := by simpa using hs0
  have gl0 := load_var hB0 hr0 hi0 hn0
  have gs1 : tmps[s1]?.getD undef = .pointer (some ⟨b1, 0, none⟩) := by simpa using hs1
  have gl1 := load_var hB1 hr1 hi1 hn1
  have gv2 : tmps[t2]?.getD undef = v2 := by simpa using hv2
  unfold results
  rw [hf]
  simp [Sem.run_bind, Sem.run_pure, Result.andThen_ok, asAddr, gs0, gl0, gs1, gl1, gv2]
set_option maxHeartbeats 4000000 in
theorem outer_38 (L K : Ln) (a : Option Addr) (n c n3 : Nat) (p e m0 m1 m2 m3 : Int) (l3 : List Int) (w : World) (HT : Hid (∀ W, Below w.heap.size w W → W.cell? ⟨w.heap.size + 1, 0, none⟩ = some (.int .i64 p) → Calls (Tri Try.prog) 86 #[.agg #[.func (.func 123) #[] #[.pointer (some ⟨w.heap.size + 1, 0, none⟩)], .func (.func 124) #[] #[.pointer (some ⟨w.heap.size + 1, 0, none⟩)], .func (.func 85) #[] #[]], .agg (lnA L (.slice a n c))] W fun z w2 => ∃ a3 c3, z = .returned (.tuple #[.agg (lnA K (.slice a3 n3 c3)), .agg #[.int .i64 m0, .int .i64 m1, .int .i64 m2, .int .i64 m3], .int .i64 e]) ∧ Row w2 (.slice a3 n3 c3) l3 ∧ Sl a3 n3 c3 ∧ (∀ x, a3 = some x → W.heap.size ≤ x.block) ∧ Below W.heap.size W w2)) : Calls (Tri Try.prog) 68 #[.agg (lnA L (.slice a n c)), .int .i64 p] w fun z w2 => ∃ a3 c3, z = .returned (.tuple #[.agg (lnA K (.slice a3 n3 c3)), .agg #[.int .i64 m0, .int .i64 m1, .int .i64 m2, .int .i64 m3], .int .i64 e]) ∧ Row w2 (.slice a3 n3 c3) l3 ∧ Sl a3 n3 c3 ∧ (∀ x, a3 = some x → w.heap.size ≤ x.block) ∧ Below w.heap.size w w2 := by
  have HB : Hid (Below w.heap.size w ((((w.alloc (.cells (lnA L (.slice a n c)) 53)).alloc (.cells #[.int .i64 p] 2)).alloc (.cells lnZ 53)).alloc (.cells #[.int .i64 0, .int .i64 0, .int .i64 0, .int .i64 0] 65))) := hide ((((below1L w _).alloc (by simp) _).alloc (by simp; omega) _).alloc (by simp; omega) _)
  have HP : Hid (((((w.alloc (.cells (lnA L (.slice a n c)) 53)).alloc (.cells #[.int .i64 p] 2)).alloc (.cells lnZ 53)).alloc (.cells #[.int .i64 0, .int .i64 0, .int .i64 0, .int .i64 0] 65)).cell? ⟨w.heap.size + 1, 0, none⟩ = some (.int .i64 p)) := hide (cell_old (cell_old (by simp) _) _)
  have H2 : Hid (Blk ((((w.alloc (.cells (lnA L (.slice a n c)) 53)).alloc (.cells #[.int .i64 p] 2)).alloc (.cells lnZ 53)).alloc (.cells #[.int .i64 0, .int .i64 0, .int .i64 0, .int .i64 0] 65)) (w.heap.size + 1 + 1) lnZ 53) := hide (by have h := (Blk.new ((w.alloc (.cells (lnA L (.slice a n c)) 53)).alloc (.cells #[.int .i64 p] 2)) lnZ 53).alloc (.cells #[.int .i64 0, .int .i64 0, .int .i64 0, .int .i64 0] 65); simpa using h)
  have H3 : Hid (Blk ((((w.alloc (.cells (lnA L (.slice a n c)) 53)).alloc (.cells #[.int .i64 p] 2)).alloc (.cells lnZ 53)).alloc (.cells #[.int .i64 0, .int .i64 0, .int .i64 0, .int .i64 0] 65)) (w.heap.size + 1 + 1 + 1) #[.int .i64 0, .int .i64 0, .int .i64 0, .int .i64 0] 65) := hide (by have h := Blk.new (((w.alloc (.cells (lnA L (.slice a n c)) 53)).alloc (.cells #[.int .i64 p] 2)).alloc (.cells lnZ 53)) #[.int .i64 0, .int .i64 0, .int .i64 0, .int .i64 0] 65; simpa using h)
  go_enter (Tri.at (by decide) Try.func68), Try.ntmps68
  go_wp2_with fail
  refine (unhide HT _ (unhide HB) (unhide HP)).mono ?_
  rintro z w2 ⟨a3, c3, rfl, hR, hG, hfr, hb⟩
  have HF : Hid (∀ x, a3 = some x → w.heap.size + 1 + 1 + 1 < x.block) := hide (fun x hx => Nat.lt_of_lt_of_le (unhide H3).lt (hfr x hx))
  have HR := hide hR
  have HG := hide hG
  replace HB := hide (below_via (unhide HB) hb)
  replace H2 := hide ((unhide H2).keep hb)
  replace H3 := hide ((unhide H3).keep hb)
  clear hb hR hfr HP HT hG
  go_wp2_with (refine store_blk rfl 53 _ _ rfl (show Blk _ _ _ _ from unhide H2) rfl rfl size53 rfl rfl rfl ?_)
  intro W5 k2 kp
  replace HB := hide (kp.bel (by omega) (unhide HB))
  replace H3 := hide (kp.blk (by omega) (unhide H3))
  replace HR := hide (kp.row (fun x hx => by have := unhide HF x hx; omega) (unhide HR))
  replace H2 := hide k2
  clear kp k2
  go_wp2_with (refine store_blk rfl 65 _ _ rfl (show Blk _ _ _ _ from unhide H3) rfl rfl size65s rfl rfl rfl ?_)
  intro W6 k3 kp
  have k4 := kp.bel (by omega) (unhide HB)
  have k2 := kp.blk (by omega) (unhide H2)
  have k5 := kp.row (fun x hx => by have := unhide HF x hx; omega) (unhide HR)
  have k6 : ∀ x, a3 = some x → w.heap.size ≤ x.block := fun x hx => by have := unhide HF x hx; omega
  have k7 := unhide HG
  clear kp HB H2 H3 HR HF HG
  go_wp2_with fail
  exact bodyPost_ret (v := .tuple #[.agg (lnA K (.slice a3 n3 c3)), .agg #[.int .i64 m0, .int .i64 m1, .int .i64 m2, .int .i64 m3], .int .i64 e]) (res_cct3 rfl (show Blk _ _ _ _ from k2) row53 size53 rfl rfl k3 row65s size65s rfl rfl rfl) rfl ⟨a3, c3, rfl, k5, k7, k6, k4⟩
set_option maxHeartbeats 4000000 in
theorem outer_72 (L K : Ln) (a : Option Addr) (n c n3 : Nat) (p e m0 m1 m2 m3 : Int) (l3 : List Int) (w : World) (HT : Hid (∀ W, Below w.heap.size w W → W.cell? ⟨w.heap.size + 1, 0, none⟩ = some (.int .i64 p) → Calls (Tri Try.prog) 86 #[.agg #[.func (.func 99) #[] #[.pointer (some ⟨w.heap.size + 1, 0, none⟩)], .func (.func 100) #[] #[.pointer (some ⟨w.heap.size + 1, 0, none⟩)], .func (.func 85) #[] #[]], .agg (lnA L (.slice a n c))] W fun z w2 => ∃ a3 c3, z = .returned (.tuple #[.agg (lnA K (.slice a3 n3 c3)), .agg #[.int .i64 m0, .int .i64 m1, .int .i64 m2, .int .i64 m3], .int .i64 e]) ∧ Row w2 (.slice a3 n3 c3) l3 ∧ Sl a3 n3 c3 ∧ (∀ x, a3 = some x → W.heap.size ≤ x.block) ∧ Below W.heap.size W w2)) : Calls (Tri Try.prog) 44 #[.agg (lnA L (.slice a n c)), .int .i64 p] w fun z w2 => ∃ a3 c3, z = .returned (.tuple #[.agg (lnA K (.slice a3 n3 c3)), .agg #[.int .i64 m0, .int .i64 m1, .int .i64 m2, .int .i64 m3], .int .i64 e]) ∧ Row w2 (.slice a3 n3 c3) l3 ∧ Sl a3 n3 c3 ∧ (∀ x, a3 = some x → w.heap.size ≤ x.block) ∧ Below w.heap.size w w2 := by
  have HB : Hid (Below w.heap.size w ((((w.alloc (.cells (lnA L (.slice a n c)) 53)).alloc (.cells #[.int .i64 p] 2)).alloc (.cells lnZ 53)).alloc (.cells #[.int .i64 0, .int .i64 0, .int .i64 0, .int .i64 0] 65))) := hide ((((below1L w _).alloc (by simp) _).alloc (by simp; omega) _).alloc (by simp; omega) _)
  have HP : Hid (((((w.alloc (.cells (lnA L (.slice a n c)) 53)).alloc (.cells #[.int .i64 p] 2)).alloc (.cells lnZ 53)).alloc (.cells #[.int .i64 0, .int .i64 0, .int .i64 0, .int .i64 0] 65)).cell? ⟨w.heap.size + 1, 0, none⟩ = some (.int .i64 p)) := hide (cell_old (cell_old (by simp) _) _)
  have H2 : Hid (Blk ((((w.alloc (.cells (lnA L (.slice a n c)) 53)).alloc (.cells #[.int .i64 p] 2)).alloc (.cells lnZ 53)).alloc (.cells #[.int .i64 0, .int .i64 0, .int .i64 0, .int .i64 0] 65)) (w.heap.size + 1 + 1) lnZ 53) := hide (by have h := (Blk.new ((w.alloc (.cells (lnA L (.slice a n c)) 53)).alloc (.cells #[.int .i64 p] 2)) lnZ 53).alloc (.cells #[.int .i64 0, .int .i64 0, .int .i64 0, .int .i64 0] 65); simpa using h)
  have H3 : Hid (Blk ((((w.alloc (.cells (lnA L (.slice a n c)) 53)).alloc (.cells #[.int .i64 p] 2)).alloc (.cells lnZ 53)).alloc (.cells #[.int .i64 0, .int .i64 0, .int .i64 0, .int .i64 0] 65)) (w.heap.size + 1 + 1 + 1) #[.int .i64 0, .int .i64 0, .int .i64 0, .int .i64 0] 65) := hide (by have h := Blk.new (((w.alloc (.cells (lnA L (.slice a n c)) 53)).alloc (.cells #[.int .i64 p] 2)).alloc (.cells lnZ 53)) #[.int .i64 0, .int .i64 0, .int .i64 0, .int .i64 0] 65; simpa using h)
  go_enter (Tri.at (by decide) Try.func44), Try.ntmps44
  go_wp2_with fail
  refine (unhide HT _ (unhide HB) (unhide HP)).mono ?_
  rintro z w2 ⟨a3, c3, rfl, hR, hG, hfr, hb⟩
  have HF : Hid (∀ x, a3 = some x → w.heap.size + 1 + 1 + 1 < x.block) := hide (fun x hx => Nat.lt_of_lt_of_le (unhide H3).lt (hfr x hx))
  have HR := hide hR
  have HG := hide hG
  replace HB := hide (below_via (unhide HB) hb)
  replace H2 := hide ((unhide H2).keep hb)
  replace H3 := hide ((unhide H3).keep hb)
  clear hb hR hfr HP HT hG
  go_wp2_with (refine store_blk rfl 53 _ _ rfl (show Blk _ _ _ _ from unhide H2) rfl rfl size53 rfl rfl rfl ?_)
  intro W5 k2 kp
  replace HB := hide (kp.bel (by omega) (unhide HB))
  replace H3 := hide (kp.blk (by omega) (unhide H3))
  replace HR := hide (kp.row (fun x hx => by have := unhide HF x hx; omega) (unhide HR))
  replace H2 := hide k2
  clear kp k2
  go_wp2_with (refine store_blk rfl 65 _ _ rfl (show Blk _ _ _ _ from unhide H3) rfl rfl size65s rfl rfl rfl ?_)
  intro W6 k3 kp
  have k4 := kp.bel (by omega) (unhide HB)
  have k2 := kp.blk (by omega) (unhide H2)
  have k5 := kp.row (fun x hx => by have := unhide HF x hx; omega) (unhide HR)
  have k6 : ∀ x, a3 = some x → w.heap.size ≤ x.block := fun x hx => by have := unhide HF x hx; omega
  have k7 := unhide HG
  clear kp HB H2 H3 HR HF HG
  go_wp2_with fail
  exact bodyPost_ret (v := .tuple #[.agg (lnA K (.slice a3 n3 c3)), .agg #[.int .i64 m0, .int .i64 m1, .int .i64 m2, .int .i64 m3], .int .i64 e]) (res_cct3 rfl (show Blk _ _ _ _ from k2) row53 size53 rfl rfl k3 row65s size65s rfl rfl rfl) rfl ⟨a3, c3, rfl, k5, k7, k6, k4⟩
set_option maxHeartbeats 4000000 in
theorem outer_40 (L K : Ln) (a : Option Addr) (n c n3 : Nat) (p e m0 m1 m2 m3 : Int) (l3 : List Int) (w : World) (HT : Hid (∀ W, Below w.heap.size w W → W.cell? ⟨w.heap.size + 1, 0, none⟩ = some (.int .i64 p) → Calls (Tri Try.prog) 86 #[.agg #[.func (.func 81) #[] #[.pointer (some ⟨w.heap.size + 1, 0, none⟩)], .func (.func 83) #[] #[.pointer (some ⟨w.heap.size + 1, 0, none⟩)], .func (.func 85) #[] #[]], .agg (lnA L (.slice a n c))] W fun z w2 => ∃ a3 c3, z = .returned (.tuple #[.agg (lnA K (.slice a3 n3 c3)), .agg #[.int .i64 m0, .int .i64 m1, .int .i64 m2, .int .i64 m3], .int .i64 e]) ∧ Row w2 (.slice a3 n3 c3) l3 ∧ Sl a3 n3 c3 ∧ (∀ x, a3 = some x → W.heap.size ≤ x.block) ∧ Below W.heap.size W w2)) : Calls (Tri Try.prog) 36 #[.agg (lnA L (.slice a n c)), .int .i64 p] w fun z w2 => ∃ a3 c3, z = .returned (.tuple #[.agg (lnA K (.slice a3 n3 c3)), .agg #[.int .i64 m0, .int .i64 m1, .int .i64 m2, .int .i64 m3], .int .i64 e]) ∧ Row w2 (.slice a3 n3 c3) l3 ∧ Sl a3 n3 c3 ∧ (∀ x, a3 = some x → w.heap.size ≤ x.block) ∧ Below w.heap.size w w2 := by
  have HB : Hid (Below w.heap.size w ((((w.alloc (.cells (lnA L (.slice a n c)) 53)).alloc (.cells #[.int .i64 p] 2)).alloc (.cells lnZ 53)).alloc (.cells #[.int .i64 0, .int .i64 0, .int .i64 0, .int .i64 0] 65))) := hide ((((below1L w _).alloc (by simp) _).alloc (by simp; omega) _).alloc (by simp; omega) _)
  have HP : Hid (((((w.alloc (.cells (lnA L (.slice a n c)) 53)).alloc (.cells #[.int .i64 p] 2)).alloc (.cells lnZ 53)).alloc (.cells #[.int .i64 0, .int .i64 0, .int .i64 0, .int .i64 0] 65)).cell? ⟨w.heap.size + 1, 0, none⟩ = some (.int .i64 p)) := hide (cell_old (cell_old (by simp) _) _)
  have H2 : Hid (Blk ((((w.alloc (.cells (lnA L (.slice a n c)) 53)).alloc (.cells #[.int .i64 p] 2)).alloc (.cells lnZ 53)).alloc (.cells #[.int .i64 0, .int .i64 0, .int .i64 0, .int .i64 0] 65)) (w.heap.size + 1 + 1) lnZ 53) := hide (by have h := (Blk.new ((w.alloc (.cells (lnA L (.slice a n c)) 53)).alloc (.cells #[.int .i64 p] 2)) lnZ 53).alloc (.cells #[.int .i64 0, .int .i64 0, .int .i64 0, .int .i64 0] 65); simpa using h)
  have H3 : Hid (Blk ((((w.alloc (.cells (lnA L (.slice a n c)) 53)).alloc (.cells #[.int .i64 p] 2)).alloc (.cells lnZ 53)).alloc (.cells #[.int .i64 0, .int .i64 0, .int .i64 0, .int .i64 0] 65)) (w.heap.size + 1 + 1 + 1) #[.int .i64 0, .int .i64 0, .int .i64 0, .int .i64 0] 65) := hide (by have h := Blk.new (((w.alloc (.cells (lnA L (.slice a n c)) 53)).alloc (.cells #[.int .i64 p] 2)).alloc (.cells lnZ 53)) #[.int .i64 0, .int .i64 0, .int .i64 0, .int .i64 0] 65; simpa using h)
  go_enter (Tri.at (by decide) Try.func36), Try.ntmps36
  go_wp2_with fail
  refine (unhide HT _ (unhide HB) (unhide HP)).mono ?_
  rintro z w2 ⟨a3, c3, rfl, hR, hG, hfr, hb⟩
  have HF : Hid (∀ x, a3 = some x → w.heap.size + 1 + 1 + 1 < x.block) := hide (fun x hx => Nat.lt_of_lt_of_le (unhide H3).lt (hfr x hx))
  have HR := hide hR
  have HG := hide hG
  replace HB := hide (below_via (unhide HB) hb)
  replace H2 := hide ((unhide H2).keep hb)
  replace H3 := hide ((unhide H3).keep hb)
  clear hb hR hfr HP HT hG
  go_wp2_with (refine store_blk rfl 53 _ _ rfl (show Blk _ _ _ _ from unhide H2) rfl rfl size53 rfl rfl rfl ?_)
  intro W5 k2 kp
  replace HB := hide (kp.bel (by omega) (unhide HB))
  replace H3 := hide (kp.blk (by omega) (unhide H3))
  replace HR := hide (kp.row (fun x hx => by have := unhide HF x hx; omega) (unhide HR))
  replace H2 := hide k2
  clear kp k2
  go_wp2_with (refine store_blk rfl 65 _ _ rfl (show Blk _ _ _ _ from unhide H3) rfl rfl size65s rfl rfl rfl ?_)
  intro W6 k3 kp
  have k4 := kp.bel (by omega) (unhide HB)
  have k2 := kp.blk (by omega) (unhide H2)
  have k5 := kp.row (fun x hx => by have := unhide HF x hx; omega) (unhide HR)
  have k6 : ∀ x, a3 = some x → w.heap.size ≤ x.block := fun x hx => by have := unhide HF x hx; omega
  have k7 := unhide HG
  clear kp HB H2 H3 HR HF HG
  go_wp2_with fail
  exact bodyPost_ret (v := .tuple #[.agg (lnA K (.slice a3 n3 c3)), .agg #[.int .i64 m0, .int .i64 m1, .int .i64 m2, .int .i64 m3], .int .i64 e]) (res_cct3 rfl (show Blk _ _ _ _ from k2) row53 size53 rfl rfl k3 row65s size65s rfl rfl rfl) rfl ⟨a3, c3, rfl, k5, k7, k6, k4⟩
set_option maxHeartbeats 4000000 in
theorem outer_41 (L K : Ln) (a : Option Addr) (n c n3 : Nat) (p e m0 m1 m2 m3 : Int) (l3 : List Int) (w : World) (HT : Hid (∀ W, Below w.heap.size w W → W.cell? ⟨w.heap.size + 1, 0, none⟩ = some (.int .i64 p) → Calls (Tri Try.prog) 86 #[.agg #[.func (.func 87) #[] #[.pointer (some ⟨w.heap.size + 1, 0, none⟩)], .func (.func 88) #[] #[.pointer (some ⟨w.heap.size + 1, 0, none⟩)], .func (.func 85) #[] #[]], .agg (lnA L (.slice a n c))] W fun z w2 => ∃ a3 c3, z = .returned (.tuple #[.agg (lnA K (.slice a3 n3 c3)), .agg #[.int .i64 m0, .int .i64 m1, .int .i64 m2, .int .i64 m3], .int .i64 e]) ∧ Row w2 (.slice a3 n3 c3) l3 ∧ Sl a3 n3 c3 ∧ (∀ x, a3 = some x → W.heap.size ≤ x.block) ∧ Below W.heap.size W w2)) : Calls (Tri Try.prog) 37 #[.agg (lnA L (.slice a n c)), .int .i64 p] w fun z w2 => ∃ a3 c3, z = .returned (.tuple #[.agg (lnA K (.slice a3 n3 c3)), .agg #[.int .i64 m0, .int .i64 m1, .int .i64 m2, .int .i64 m3], .int .i64 e]) ∧ Row w2 (.slice a3 n3 c3) l3 ∧ Sl a3 n3 c3 ∧ (∀ x, a3 = some x → w.heap.size ≤ x.block) ∧ Below w.heap.size w w2 := by
  have HB : Hid (Below w.heap.size w ((((w.alloc (.cells (lnA L (.slice a n c)) 53)).alloc (.cells #[.int .i64 p] 2)).alloc (.cells lnZ 53)).alloc (.cells #[.int .i64 0, .int .i64 0, .int .i64 0, .int .i64 0] 65))) := hide ((((below1L w _).alloc (by simp) _).alloc (by simp; omega) _).alloc (by simp; omega) _)
  have HP : Hid (((((w.alloc (.cells (lnA L (.slice a n c)) 53)).alloc (.cells #[.int .i64 p] 2)).alloc (.cells lnZ 53)).alloc (.cells #[.int .i64 0, .int .i64 0, .int .i64 0, .int .i64 0] 65)).cell? ⟨w.heap.size + 1, 0, none⟩ = some (.int .i64 p)) := hide (cell_old (cell_old (by simp) _) _)
  have H2 : Hid (Blk ((((w.alloc (.cells (lnA L (.slice a n c)) 53)).alloc (.cells #[.int .i64 p] 2)).alloc (.cells lnZ 53)).alloc (.cells #[.int .i64 0, .int .i64 0, .int .i64 0, .int .i64 0] 65)) (w.heap.size + 1 + 1) lnZ 53) := hide (by have h := (Blk.new ((w.alloc (.cells (lnA L (.slice a n c)) 53)).alloc (.cells #[.int .i64 p] 2)) lnZ 53).alloc (.cells #[.int .i64 0, .int .i64 0, .int .i64 0, .int .i64 0] 65); simpa using h)
  have H3 : Hid (Blk ((((w.alloc (.cells (lnA L (.slice a n c)) 53)).alloc (.cells #[.int .i64 p] 2)).alloc (.cells lnZ 53)).alloc (.cells #[.int .i64 0, .int .i64 0, .int .i64 0, .int .i64 0] 65)) (w.heap.size + 1 + 1 + 1) #[.int .i64 0, .int .i64 0, .int .i64 0, .int .i64 0] 65) := hide (by have h := Blk.new (((w.alloc (.cells (lnA L (.slice a n c)) 53)).alloc (.cells #[.int .i64 p] 2)).alloc (.cells lnZ 53)) #[.int .i64 0, .int .i64 0, .int .i64 0, .int .i64 0] 65; simpa using h)
  go_enter (Tri.at (by decide) Try.func37), Try.ntmps37
  go_wp2_with fail
  refine (unhide HT _ (unhide HB) (unhide HP)).mono ?_
  rintro z w2 ⟨a3, c3, rfl, hR, hG, hfr, hb⟩
  have HF : Hid (∀ x, a3 = some x → w.heap.size + 1 + 1 + 1 < x.block) := hide (fun x hx => Nat.lt_of_lt_of_le (unhide H3).lt (hfr x hx))
  have HR := hide hR
  have HG := hide hG
  replace HB := hide (below_via (unhide HB) hb)
  replace H2 := hide ((unhide H2).keep hb)
  replace H3 := hide ((unhide H3).keep hb)
  clear hb hR hfr HP HT hG
  go_wp2_with (refine store_blk rfl 53 _ _ rfl (show Blk _ _ _ _ from unhide H2) rfl rfl size53 rfl rfl rfl ?_)
  intro W5 k2 kp
  replace HB := hide (kp.bel (by omega) (unhide HB))
  replace H3 := hide (kp.blk (by omega) (unhide H3))
  replace HR := hide (kp.row (fun x hx => by have := unhide HF x hx; omega) (unhide HR))
  replace H2 := hide k2
  clear kp k2
  go_wp2_with (refine store_blk rfl 65 _ _ rfl (show Blk _ _ _ _ from unhide H3) rfl rfl size65s rfl rfl rfl ?_)
  intro W6 k3 kp
  have k4 := kp.bel (by omega) (unhide HB)
  have k2 := kp.blk (by omega) (unhide H2)
  have k5 := kp.row (fun x hx => by have := unhide HF x hx; omega) (unhide HR)
  have k6 : ∀ x, a3 = some x → w.heap.size ≤ x.block := fun x hx => by have := unhide HF x hx; omega
  have k7 := unhide HG
  clear kp HB H2 H3 HR HF HG
  go_wp2_with fail
  exact bodyPost_ret (v := .tuple #[.agg (lnA K (.slice a3 n3 c3)), .agg #[.int .i64 m0, .int .i64 m1, .int .i64 m2, .int .i64 m3], .int .i64 e]) (res_cct3 rfl (show Blk _ _ _ _ from k2) row53 size53 rfl rfl k3 row65s size65s rfl rfl rfl) rfl ⟨a3, c3, rfl, k5, k7, k6, k4⟩
set_option maxHeartbeats 8000000 in
theorem take_g (fc fd : Nat) (hfc : ∀ (args : Array Value) (w : World), (_root_.Go.callFunc fc args).run (Tri Try.prog) w = .ok (.enter fc args) w) (hfd : ∀ (args : Array Value) (w : World), (_root_.Go.callFunc fd args).run (Tri Try.prog) w = .ok (.enter fd args) w) (L : Ln) (a : Option Addr) (n c pb : Nat) (w : World) (K : Ln) (a2 : Option Addr) (n2 c2 : Nat) (m0 m1 m2 m3 : Int) (HC : Hid (∀ w1, Below w.heap.size w w1 → Calls (Tri Try.prog) fc #[.agg (lnA L (.slice a n c)), .pointer (some ⟨pb, 0, none⟩)] w1 fun z w2 => z = .returned (.int .i64 0) ∧ Below w1.heap.size w1 w2)) (HD : Hid (∀ w1, Below w.heap.size w w1 → Calls (Tri Try.prog) fd #[.agg (lnA L (.slice a n c)), .pointer (some ⟨pb, 0, none⟩)] w1 fun z w2 => z = .returned (.tuple #[.agg (lnA K (.slice a2 n2 c2)), .agg #[.int .i64 m0, .int .i64 m1, .int .i64 m2, .int .i64 m3]]) ∧ Below w1.heap.size w1 w2)) (n3 : Nat) (l3 : List Int) (G : Option Addr → Nat → Prop) (HE : Hid (∀ w1, Below w.heap.size w w1 → Calls (Tri Try.prog) 85 #[.agg (lnA K (.slice a2 n2 c2))] w1 fun z w2 => ∃ a3 c3, z = .returned (.tuple #[.agg (lnA K (.slice a3 n3 c3)), .int .i64 0]) ∧ Row w2 (.slice a3 n3 c3) l3 ∧ G a3 c3 ∧ (∀ x, a3 = some x → w1.heap.size ≤ x.block) ∧ Below w1.heap.size w1 w2)) : Calls (Tri Try.prog) 86 #[.agg #[.func (.func fc) #[] #[.pointer (some ⟨pb, 0, none⟩)], .func (.func fd) #[] #[.pointer (some ⟨pb, 0, none⟩)], .func (.func 85) #[] #[]], .agg (lnA L (.slice a n c))] w fun z w2 => ∃ a3 c3, z = .returned (.tuple #[.agg (lnA K (.slice a3 n3 c3)), .agg #[.int .i64 m0, .int .i64 m1, .int .i64 m2, .int .i64 m3], .int .i64 0]) ∧ Row w2 (.slice a3 n3 c3) l3 ∧ G a3 c3 ∧ (∀ x, a3 = some x → w.heap.size ≤ x.block) ∧ Below w.heap.size w w2 := by
  have HT := hide (TK.new w #[.func (.func fc) #[] #[.pointer (some ⟨pb, 0, none⟩)], .func (.func fd) #[] #[.pointer (some ⟨pb, 0, none⟩)], .func (.func 85) #[] #[]] (lnA L (.slice a n c)))
  go_enter (Tri.at (by decide) Try.func86), Try.ntmps86
  go_wp2_with fail
  refine (unhide HC _ (unhide HT).bel).mono ?_
  rintro z w1 ⟨rfl, hb⟩
  replace HT := hide ((unhide HT).keep hb)
  clear hb HC
  have t0 : ((0 : Int) != 0) = false := rfl
  have x0 := (show Blk _ _ _ _ from (unhide HT).b0).at 0 _ rfl
  have x1 := (show Blk _ _ _ _ from (unhide HT).b0).at 1 _ rfl
  have x2 := (show Blk _ _ _ _ from (unhide HT).b0).at 2 _ rfl
  have y0 := (show Blk _ _ _ _ from (unhide HT).b1).at 0 _ rfl
  have y1 := (show Blk _ _ _ _ from (unhide HT).b1).at 1 _ rfl
  have y2 := (show Blk _ _ _ _ from (unhide HT).b1).at 2 _ rfl
  have y3 := (show Blk _ _ _ _ from (unhide HT).b1).at 3 _ rfl
  have y4 := (show Blk _ _ _ _ from (unhide HT).b1).at 4 _ rfl
  have y5 := (show Blk _ _ _ _ from (unhide HT).b1).at 5 _ rfl
  have y6 := (show Blk _ _ _ _ from (unhide HT).b1).at 6 _ rfl
  have y7 := (show Blk _ _ _ _ from (unhide HT).b1).at 7 _ rfl
  have y8 := (show Blk _ _ _ _ from (unhide HT).b1).at 8 _ rfl
  have y9 := (show Blk _ _ _ _ from (unhide HT).b1).at 9 _ rfl
  have y10 := (show Blk _ _ _ _ from (unhide HT).b1).at 10 _ rfl
  have y11 := (show Blk _ _ _ _ from (unhide HT).b1).at 11 _ rfl
  have y12 := (show Blk _ _ _ _ from (unhide HT).b1).at 12 _ rfl
  go_wp2_with fail
  refine (unhide HD _ (unhide HT).bel).mono ?_
  rintro z w2 ⟨rfl, hb⟩
  replace HT := hide ((unhide HT).keep hb)
  clear hb HD
  clear x0 x1 x2 y0 y1 y2 y3 y4 y5 y6 y7 y8 y9 y10 y11 y12
  have sz : w.heap.size + 1 + 1 + 1 + 1 + 1 < w2.heap.size := (show Blk _ _ _ _ from (unhide HT).b5).lt
  replace HT : Hid (TK w ((w2.alloc (.cells (lnA K (.slice a2 n2 c2)) 53)).alloc (.cells #[.int .i64 m0, .int .i64 m1, .int .i64 m2, .int .i64 m3] 65)) #[.func (.func fc) #[] #[.pointer (some ⟨pb, 0, none⟩)], .func (.func fd) #[] #[.pointer (some ⟨pb, 0, none⟩)], .func (.func 85) #[] #[]] (lnA L (.slice a n c))) := hide ((unhide HT).keep ((below1L w2 _).alloc (by simp) _))
  have HM : Hid (Blk ((w2.alloc (.cells (lnA K (.slice a2 n2 c2)) 53)).alloc (.cells #[.int .i64 m0, .int .i64 m1, .int .i64 m2, .int .i64 m3] 65)) (w2.heap.size + 1) #[.int .i64 m0, .int .i64 m1, .int .i64 m2, .int .i64 m3] 65) := hide (by have h := Blk.new (w2.alloc (.cells (lnA K (.slice a2 n2 c2)) 53)) #[.int .i64 m0, .int .i64 m1, .int .i64 m2, .int .i64 m3] 65; simpa using h)
  have x0 := (show Blk _ _ _ _ from (unhide HT).b0).at 0 _ rfl
  have x1 := (show Blk _ _ _ _ from (unhide HT).b0).at 1 _ rfl
  have x2 := (show Blk _ _ _ _ from (unhide HT).b0).at 2 _ rfl
  go_wp2_with fail
  refine (unhide HE _ (unhide HT).bel).mono ?_
  rintro z w3 ⟨a3, c3, rfl, hR, hG, hfr, hb⟩
  have HR := hide hR
  have HF : Hid (∀ x, a3 = some x → w2.heap.size + 1 + 1 ≤ x.block) := hide (by simpa using hfr)
  clear hR hfr
  have sz3 : w2.heap.size + 1 < w3.heap.size := ((unhide HM).keep hb).lt
  replace HT : Hid (TK w (w3.alloc (.cells (lnA K (.slice a3 n3 c3)) 53)) #[.func (.func fc) #[] #[.pointer (some ⟨pb, 0, none⟩)], .func (.func fd) #[] #[.pointer (some ⟨pb, 0, none⟩)], .func (.func 85) #[] #[]] (lnA L (.slice a n c))) := hide (((unhide HT).keep hb).keep (below1L w3 _))
  replace HM : Hid (Blk (w3.alloc (.cells (lnA K (.slice a3 n3 c3)) 53)) (w2.heap.size + 1) #[.int .i64 m0, .int .i64 m1, .int .i64 m2, .int .i64 m3] 65) := hide (((unhide HM).keep hb).alloc _)
  clear hb HE x0 x1 x2
  have y0 := (show Blk _ _ _ _ from unhide HM).at 0 _ rfl
  have y1 := (show Blk _ _ _ _ from unhide HM).at 1 _ rfl
  have y2 := (show Blk _ _ _ _ from unhide HM).at 2 _ rfl
  have y3 := (show Blk _ _ _ _ from unhide HM).at 3 _ rfl
  have p0 := (show Blk _ _ _ _ from (unhide HT).b2).at 0 _ rfl
  have p1 := (show Blk _ _ _ _ from (unhide HT).b2).at 1 _ rfl
  have p2 := (show Blk _ _ _ _ from (unhide HT).b2).at 2 _ rfl
  have p3 := (show Blk _ _ _ _ from (unhide HT).b2).at 3 _ rfl
  have p4 := (show Blk _ _ _ _ from (unhide HT).b2).at 4 _ rfl
  have p5 := (show Blk _ _ _ _ from (unhide HT).b2).at 5 _ rfl
  have p6 := (show Blk _ _ _ _ from (unhide HT).b2).at 6 _ rfl
  have p7 := (show Blk _ _ _ _ from (unhide HT).b2).at 7 _ rfl
  have p8 := (show Blk _ _ _ _ from (unhide HT).b2).at 8 _ rfl
  have p9 := (show Blk _ _ _ _ from (unhide HT).b2).at 9 _ rfl
  have p10 := (show Blk _ _ _ _ from (unhide HT).b2).at 10 _ rfl
  have p11 := (show Blk _ _ _ _ from (unhide HT).b2).at 11 _ rfl
  have p12 := (show Blk _ _ _ _ from (unhide HT).b2).at 12 _ rfl
  have q0 := (show Blk _ _ _ _ from (unhide HT).b3).at 0 _ rfl
  have q1 := (show Blk _ _ _ _ from (unhide HT).b3).at 1 _ rfl
  have q2 := (show Blk _ _ _ _ from (unhide HT).b3).at 2 _ rfl
  have q3 := (show Blk _ _ _ _ from (unhide HT).b3).at 3 _ rfl
  have u0 := (show Blk _ _ _ _ from (unhide HT).b2).fz 0
  have u1 := (show Blk _ _ _ _ from (unhide HT).b2).fz 1
  have u2 := (show Blk _ _ _ _ from (unhide HT).b2).fz 2
  have u3 := (show Blk _ _ _ _ from (unhide HT).b2).fz 3
  have u4 := (show Blk _ _ _ _ from (unhide HT).b2).fz 4
  have u5 := (show Blk _ _ _ _ from (unhide HT).b2).fz 5
  have u6 := (show Blk _ _ _ _ from (unhide HT).b2).fz 6
  have u7 := (show Blk _ _ _ _ from (unhide HT).b2).fz 7
  have u8 := (show Blk _ _ _ _ from (unhide HT).b2).fz 8
  have u9 := (show Blk _ _ _ _ from (unhide HT).b2).fz 9
  have u10 := (show Blk _ _ _ _ from (unhide HT).b2).fz 10
  have u11 := (show Blk _ _ _ _ from (unhide HT).b2).fz 11
  have u12 := (show Blk _ _ _ _ from (unhide HT).b2).fz 12
  have v0 := (show Blk _ _ _ _ from (unhide HT).b3).fz 0
  have v1 := (show Blk _ _ _ _ from (unhide HT).b3).fz 1
  have v2 := (show Blk _ _ _ _ from (unhide HT).b3).fz 2
  have v3 := (show Blk _ _ _ _ from (unhide HT).b3).fz 3
  go_wp2_with fail
  go_region
  clear y0 y1 y2 y3 p0 p1 p2 p3 p4 p5 p6 p7 p8 p9 p10 p11 p12 q0 q1 q2 q3 u0 u1 u2 u3 u4 u5 u6 u7 u8 u9 u10 u11 u12 v0 v1 v2 v3
  have k2 : Blk (putM (putL (w3.alloc (.cells (lnA K (.slice a3 n3 c3)) 53)) (w.heap.size + 1 + 1) (.int .i64 K.id) (.int .i64 K.st) (.int .i64 K.be) (.int .i64 K.out) (.int .i64 K.rt) (.int .i64 K.gr) (.int .i64 K.due) (.int .i64 K.inc) (.int .i64 K.got) (.int .i64 K.adj) (.int .i64 K.wri) (.int .i64 K.rcv) (.slice a3 n3 c3)) (w.heap.size + 1 + 1 + 1) (.int .i64 m0) (.int .i64 m1) (.int .i64 m2) (.int .i64 m3)).drew (w.heap.size + 1 + 1) (lnA K (.slice a3 n3 c3)) 53 := (((show Blk _ _ _ _ from (unhide HT).b2).wrL (.int .i64 K.id) (.int .i64 K.st) (.int .i64 K.be) (.int .i64 K.out) (.int .i64 K.rt) (.int .i64 K.gr) (.int .i64 K.due) (.int .i64 K.inc) (.int .i64 K.got) (.int .i64 K.adj) (.int .i64 K.wri) (.int .i64 K.rcv) (.slice a3 n3 c3)).offM (by omega) (.int .i64 m0) (.int .i64 m1) (.int .i64 m2) (.int .i64 m3)).drew
  have k3 : Blk (putM (putL (w3.alloc (.cells (lnA K (.slice a3 n3 c3)) 53)) (w.heap.size + 1 + 1) (.int .i64 K.id) (.int .i64 K.st) (.int .i64 K.be) (.int .i64 K.out) (.int .i64 K.rt) (.int .i64 K.gr) (.int .i64 K.due) (.int .i64 K.inc) (.int .i64 K.got) (.int .i64 K.adj) (.int .i64 K.wri) (.int .i64 K.rcv) (.slice a3 n3 c3)) (w.heap.size + 1 + 1 + 1) (.int .i64 m0) (.int .i64 m1) (.int .i64 m2) (.int .i64 m3)).drew (w.heap.size + 1 + 1 + 1) #[.int .i64 m0, .int .i64 m1, .int .i64 m2, .int .i64 m3] 65 := (((show Blk _ _ _ _ from (unhide HT).b3).offL (by omega) (.int .i64 K.id) (.int .i64 K.st) (.int .i64 K.be) (.int .i64 K.out) (.int .i64 K.rt) (.int .i64 K.gr) (.int .i64 K.due) (.int .i64 K.inc) (.int .i64 K.got) (.int .i64 K.adj) (.int .i64 K.wri) (.int .i64 K.rcv) (.slice a3 n3 c3)).wrM (.int .i64 m0) (.int .i64 m1) (.int .i64 m2) (.int .i64 m3)).drew
  have k4 : Below w.heap.size w (putM (putL (w3.alloc (.cells (lnA K (.slice a3 n3 c3)) 53)) (w.heap.size + 1 + 1) (.int .i64 K.id) (.int .i64 K.st) (.int .i64 K.be) (.int .i64 K.out) (.int .i64 K.rt) (.int .i64 K.gr) (.int .i64 K.due) (.int .i64 K.inc) (.int .i64 K.got) (.int .i64 K.adj) (.int .i64 K.wri) (.int .i64 K.rcv) (.slice a3 n3 c3)) (w.heap.size + 1 + 1 + 1) (.int .i64 m0) (.int .i64 m1) (.int .i64 m2) (.int .i64 m3)).drew := below_drew (below_putM (below_putL (unhide HT).bel (by omega) (.int .i64 K.id) (.int .i64 K.st) (.int .i64 K.be) (.int .i64 K.out) (.int .i64 K.rt) (.int .i64 K.gr) (.int .i64 K.due) (.int .i64 K.inc) (.int .i64 K.got) (.int .i64 K.adj) (.int .i64 K.wri) (.int .i64 K.rcv) (.slice a3 n3 c3)) (by omega) (.int .i64 m0) (.int .i64 m1) (.int .i64 m2) (.int .i64 m3))
  have r1 : Row (putL (w3.alloc (.cells (lnA K (.slice a3 n3 c3)) 53)) (w.heap.size + 1 + 1) (.int .i64 K.id) (.int .i64 K.st) (.int .i64 K.be) (.int .i64 K.out) (.int .i64 K.rt) (.int .i64 K.gr) (.int .i64 K.due) (.int .i64 K.inc) (.int .i64 K.got) (.int .i64 K.adj) (.int .i64 K.wri) (.int .i64 K.rcv) (.slice a3 n3 c3)) (.slice a3 n3 c3) l3 := Row.offL ((unhide HR).alloc _) (fun x hx => by have := unhide HF x hx; omega) (.int .i64 K.id) (.int .i64 K.st) (.int .i64 K.be) (.int .i64 K.out) (.int .i64 K.rt) (.int .i64 K.gr) (.int .i64 K.due) (.int .i64 K.inc) (.int .i64 K.got) (.int .i64 K.adj) (.int .i64 K.wri) (.int .i64 K.rcv) (.slice a3 n3 c3)
  have r2 : Row (putM (putL (w3.alloc (.cells (lnA K (.slice a3 n3 c3)) 53)) (w.heap.size + 1 + 1) (.int .i64 K.id) (.int .i64 K.st) (.int .i64 K.be) (.int .i64 K.out) (.int .i64 K.rt) (.int .i64 K.gr) (.int .i64 K.due) (.int .i64 K.inc) (.int .i64 K.got) (.int .i64 K.adj) (.int .i64 K.wri) (.int .i64 K.rcv) (.slice a3 n3 c3)) (w.heap.size + 1 + 1 + 1) (.int .i64 m0) (.int .i64 m1) (.int .i64 m2) (.int .i64 m3)) (.slice a3 n3 c3) l3 := Row.offM r1 (fun x hx => by have := unhide HF x hx; omega) (.int .i64 m0) (.int .i64 m1) (.int .i64 m2) (.int .i64 m3)
  have k5 : Row (putM (putL (w3.alloc (.cells (lnA K (.slice a3 n3 c3)) 53)) (w.heap.size + 1 + 1) (.int .i64 K.id) (.int .i64 K.st) (.int .i64 K.be) (.int .i64 K.out) (.int .i64 K.rt) (.int .i64 K.gr) (.int .i64 K.due) (.int .i64 K.inc) (.int .i64 K.got) (.int .i64 K.adj) (.int .i64 K.wri) (.int .i64 K.rcv) (.slice a3 n3 c3)) (w.heap.size + 1 + 1 + 1) (.int .i64 m0) (.int .i64 m1) (.int .i64 m2) (.int .i64 m3)).drew (.slice a3 n3 c3) l3 := Row.drew r2
  clear r1 r2
  have k6 : ∀ x, a3 = some x → w.heap.size ≤ x.block := fun x hx => by have := unhide HF x hx; omega
  clear HR HF
  generalize (putM (putL (w3.alloc (.cells (lnA K (.slice a3 n3 c3)) 53)) (w.heap.size + 1 + 1) (.int .i64 K.id) (.int .i64 K.st) (.int .i64 K.be) (.int .i64 K.out) (.int .i64 K.rt) (.int .i64 K.gr) (.int .i64 K.due) (.int .i64 K.inc) (.int .i64 K.got) (.int .i64 K.adj) (.int .i64 K.wri) (.int .i64 K.rcv) (.slice a3 n3 c3)) (w.heap.size + 1 + 1 + 1) (.int .i64 m0) (.int .i64 m1) (.int .i64 m2) (.int .i64 m3)).drew = W at *
  clear HT
  have p0 := k2.at 0 _ rfl
  have p1 := k2.at 1 _ rfl
  have p2 := k2.at 2 _ rfl
  have p3 := k2.at 3 _ rfl
  have p4 := k2.at 4 _ rfl
  have p5 := k2.at 5 _ rfl
  have p6 := k2.at 6 _ rfl
  have p7 := k2.at 7 _ rfl
  have p8 := k2.at 8 _ rfl
  have p9 := k2.at 9 _ rfl
  have p10 := k2.at 10 _ rfl
  have p11 := k2.at 11 _ rfl
  have p12 := k2.at 12 _ rfl
  have q0 := k3.at 0 _ rfl
  have q1 := k3.at 1 _ rfl
  have q2 := k3.at 2 _ rfl
  have q3 := k3.at 3 _ rfl
  go_wp2_with fail
  exact bodyPost_ret (v := .tuple #[.agg (lnA K (.slice a3 n3 c3)), .agg #[.int .i64 m0, .int .i64 m1, .int .i64 m2, .int .i64 m3], .int .i64 0]) (by simp [results, Try.results86, go_sem, p0, p1, p2, p3, p4, p5, p6, p7, p8, p9, p10, p11, p12, q0, q1, q2, q3]) rfl ⟨a3, c3, rfl, k5, hG, k6, k4⟩
end Go.Proofs.Ytpeoabopeihadaa.Mn
