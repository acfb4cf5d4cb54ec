/- The world ahead of checks. -/
import Derived.Test.YtpeoabopeihadaaYL
set_option linter.unusedVariables false
set_option linter.unusedSimpArgs false
set_option linter.unusedSectionVars false
namespace Go.Proofs.Ytpeoabopeihadaa.Mn
open Go.RowKit
attribute [local simp] Tri.typeInfo Tri.sizeOf Tri.underlying Tri.runUnderlying Tri.isAgg Tri.zeroValue Tri.depth Tri.stoodInHeld Tri.eqGuardType Tri.call15 Tri.call27 Tri.call31 Tri.call32 Tri.call38 Tri.call39 Tri.call40 Tri.call41 Tri.call43 Tri.call44 Tri.call45 Tri.call46 Tri.call49 Tri.call52 Tri.call54 Tri.call65 Tri.call69 Tri.call70 Tri.call72 Tri.call73 Tri.call74 Tri.call75 Tri.call82 Tri.call86 Tri.call89 Tri.call90 Tri.call91 Tri.call92 Tri.call93 Tri.call94 Tri.call95 Tri.call96 Tri.call97 Tri.call98 Tri.call99 Tri.call100 Tri.call102 Tri.call103 Tri.call104 Tri.call106 Tri.call116 Tri.call117 Tri.call118 Tri.call119 Tri.call120 Tri.call122 Tri.call126 Tri.call130 Tri.call131 Tri.call132 Tri.call143 Tri.call144 Tri.call145 Tri.call146 Tri.call147 Tri.call156 Tri.call157 Tri.call159 Tri.call160 Tri.call161 Tri.call162 Tri.call163 Tri.call164 Tri.call165 Tri.call175 Tri.call176 Tri.call186 Tri.call188 Tri.call205
theorem cu_st {L : Ln} {a : Option Addr} {n c cb : Nat} {cf : Array Value} {w : World} (hF : Blk w cb cf 115) : Hid (Below w.heap.size w (((w.alloc (.cells (lnA L (.slice a n c)) 53)).alloc (.cells #[.int .i64 0, .int .i64 0, .int .i64 0, .int .i64 0, .int .i64 0, .int .i64 0, .int .i64 0, .int .i64 0, .int .i64 0, .int .i64 0, .int .i64 0, .int .i64 0, .slice none 0 0, .int .i64 0] 123)).alloc (.cells #[.int .i64 0, .int .i64 0, .int .i64 0, .int .i64 0, .int .i64 0, .int .i64 0, .int .i64 0, .int .i64 0, .int .i64 0, .int .i64 0, .int .i64 0, .int .i64 0, .slice none 0 0, .int .i64 0] 123))) ∧ Hid (Blk (((w.alloc (.cells (lnA L (.slice a n c)) 53)).alloc (.cells #[.int .i64 0, .int .i64 0, .int .i64 0, .int .i64 0, .int .i64 0, .int .i64 0, .int .i64 0, .int .i64 0, .int .i64 0, .int .i64 0, .int .i64 0, .int .i64 0, .slice none 0 0, .int .i64 0] 123)).alloc (.cells #[.int .i64 0, .int .i64 0, .int .i64 0, .int .i64 0, .int .i64 0, .int .i64 0, .int .i64 0, .int .i64 0, .int .i64 0, .int .i64 0, .int .i64 0, .int .i64 0, .slice none 0 0, .int .i64 0] 123)) w.heap.size (lnA L (.slice a n c)) 53) ∧ Hid (Blk (((w.alloc (.cells (lnA L (.slice a n c)) 53)).alloc (.cells #[.int .i64 0, .int .i64 0, .int .i64 0, .int .i64 0, .int .i64 0, .int .i64 0, .int .i64 0, .int .i64 0, .int .i64 0, .int .i64 0, .int .i64 0, .int .i64 0, .slice none 0 0, .int .i64 0] 123)).alloc (.cells #[.int .i64 0, .int .i64 0, .int .i64 0, .int .i64 0, .int .i64 0, .int .i64 0, .int .i64 0, .int .i64 0, .int .i64 0, .int .i64 0, .int .i64 0, .int .i64 0, .slice none 0 0, .int .i64 0] 123)) (w.heap.size + 1) #[.int .i64 0, .int .i64 0, .int .i64 0, .int .i64 0, .int .i64 0, .int .i64 0, .int .i64 0, .int .i64 0, .int .i64 0, .int .i64 0, .int .i64 0, .int .i64 0, .slice none 0 0, .int .i64 0] 123) ∧ Hid (Blk (((w.alloc (.cells (lnA L (.slice a n c)) 53)).alloc (.cells #[.int .i64 0, .int .i64 0, .int .i64 0, .int .i64 0, .int .i64 0, .int .i64 0, .int .i64 0, .int .i64 0, .int .i64 0, .int .i64 0, .int .i64 0, .int .i64 0, .slice none 0 0, .int .i64 0] 123)).alloc (.cells #[.int .i64 0, .int .i64 0, .int .i64 0, .int .i64 0, .int .i64 0, .int .i64 0, .int .i64 0, .int .i64 0, .int .i64 0, .int .i64 0, .int .i64 0, .int .i64 0, .slice none 0 0, .int .i64 0] 123)) (w.heap.size + 1 + 1) #[.int .i64 0, .int .i64 0, .int .i64 0, .int .i64 0, .int .i64 0, .int .i64 0, .int .i64 0, .int .i64 0, .int .i64 0, .int .i64 0, .int .i64 0, .int .i64 0, .slice none 0 0, .int .i64 0] 123) ∧ Hid (Blk (((w.alloc (.cells (lnA L (.slice a n c)) 53)).alloc (.cells #[.int .i64 0, .int .i64 0, .int .i64 0, .int .i64 0, .int .i64 0, .int .i64 0, .int .i64 0, .int .i64 0, .int .i64 0, .int .i64 0, .int .i64 0, .int .i64 0, .slice none 0 0, .int .i64 0] 123)).alloc (.cells #[.int .i64 0, .int .i64 0, .int .i64 0, .int .i64 0, .int .i64 0, .int .i64 0, .int .i64 0, .int .i64 0, .int .i64 0, .int .i64 0, .int .i64 0, .int .i64 0, .slice none 0 0, .int .i64 0] 123)) cb cf 115) := by
  refine ⟨hide (((below1L w _).alloc (by simp) _).alloc (by simp; omega) _), hide (((Blk.new w (lnA L (.slice a n c)) 53).alloc _).alloc _), hide ?_, hide ?_, hide (((hF.alloc _).alloc _).alloc _)⟩
  · have h := (Blk.new (w.alloc (.cells (lnA L (.slice a n c)) 53)) #[.int .i64 0, .int .i64 0, .int .i64 0, .int .i64 0, .int .i64 0, .int .i64 0, .int .i64 0, .int .i64 0, .int .i64 0, .int .i64 0, .int .i64 0, .int .i64 0, .slice none 0 0, .int .i64 0] 123).alloc (.cells #[.int .i64 0, .int .i64 0, .int .i64 0, .int .i64 0, .int .i64 0, .int .i64 0, .int .i64 0, .int .i64 0, .int .i64 0, .int .i64 0, .int .i64 0, .int .i64 0, .slice none 0 0, .int .i64 0] 123)
    simpa using h
  · have h := Blk.new ((w.alloc (.cells (lnA L (.slice a n c)) 53)).alloc (.cells #[.int .i64 0, .int .i64 0, .int .i64 0, .int .i64 0, .int .i64 0, .int .i64 0, .int .i64 0, .int .i64 0, .int .i64 0, .int .i64 0, .int .i64 0, .int .i64 0, .slice none 0 0, .int .i64 0] 123)) #[.int .i64 0, .int .i64 0, .int .i64 0, .int .i64 0, .int .i64 0, .int .i64 0, .int .i64 0, .int .i64 0, .int .i64 0, .int .i64 0, .int .i64 0, .int .i64 0, .slice none 0 0, .int .i64 0] 123
    simpa using h
theorem ts_st {L : Ln} {a : Option Addr} {n c cb : Nat} {cf : Array Value} {w : World} (hF : Blk w cb cf 115) : Hid (Below w.heap.size w (((w.alloc (.cells (lnA L (.slice a n c)) 53)).alloc (.cells #[.int .i64 0, .bool false] 139)).alloc (.cells #[.int .i64 0, .bool false] 139))) ∧ Hid (Blk (((w.alloc (.cells (lnA L (.slice a n c)) 53)).alloc (.cells #[.int .i64 0, .bool false] 139)).alloc (.cells #[.int .i64 0, .bool false] 139)) w.heap.size (lnA L (.slice a n c)) 53) ∧ Hid (Blk (((w.alloc (.cells (lnA L (.slice a n c)) 53)).alloc (.cells #[.int .i64 0, .bool false] 139)).alloc (.cells #[.int .i64 0, .bool false] 139)) (w.heap.size + 1) #[.int .i64 0, .bool false] 139) ∧ Hid (Blk (((w.alloc (.cells (lnA L (.slice a n c)) 53)).alloc (.cells #[.int .i64 0, .bool false] 139)).alloc (.cells #[.int .i64 0, .bool false] 139)) (w.heap.size + 1 + 1) #[.int .i64 0, .bool false] 139) ∧ Hid (Blk (((w.alloc (.cells (lnA L (.slice a n c)) 53)).alloc (.cells #[.int .i64 0, .bool false] 139)).alloc (.cells #[.int .i64 0, .bool false] 139)) cb cf 115) := by
  refine ⟨hide (((below1L w _).alloc (by simp) _).alloc (by simp; omega) _), hide (((Blk.new w (lnA L (.slice a n c)) 53).alloc _).alloc _), hide ?_, hide ?_, hide (((hF.alloc _).alloc _).alloc _)⟩
  · have h := (Blk.new (w.alloc (.cells (lnA L (.slice a n c)) 53)) #[.int .i64 0, .bool false] 139).alloc (.cells #[.int .i64 0, .bool false] 139)
    simpa using h
  · have h := Blk.new ((w.alloc (.cells (lnA L (.slice a n c)) 53)).alloc (.cells #[.int .i64 0, .bool false] 139)) #[.int .i64 0, .bool false] 139
    simpa using h
set_option maxHeartbeats 4000000 in
theorem cu_0 {L : Ln} {a : Option Addr} {n c : Nat} {w : World} {cb mb fb0 : Nat} {e0 : Int} (hF : Blk w cb #[.func (.func 92) #[] #[], .func (.func 93) #[] #[], .func (.func 131) #[] #[.pointer (some ⟨mb, 0, none⟩)]] 115) (HC0 : Hid (∀ W, Below w.heap.size w W → Calls (Tri Try.prog) 92 #[.agg (lnA L (.slice a n c))] W fun z w2 => z = .returned (.int .i64 e0) ∧ Below W.heap.size W w2))  (h0 : (e0 != 0) = true) : Calls (Tri Try.prog) 89 #[.agg (lnA L (.slice a n c)), .func (.func 90) #[] #[.pointer (some ⟨fb0, 0, none⟩)], .slice (some ⟨cb, 0, none⟩) 3 3] w fun z w2 => z = .returned (.tuple #[.agg #[.int .i64 0, .int .i64 0, .int .i64 0, .int .i64 0, .int .i64 0, .int .i64 0, .int .i64 0, .int .i64 0, .int .i64 0, .int .i64 0, .int .i64 0, .int .i64 0, .slice none 0 0, .int .i64 0], .int .i64 e0]) ∧ Below w.heap.size w w2 := by
  obtain ⟨HB, HK, HZ, HO, HF⟩ := cu_st (L := L) (a := a) (n := n) (c := c) hF
  clear hF
  go_enter (Tri.at (by decide) Try.func89), Try.ntmps89
  go_wp2_with fail
  refine wp_loop_rounds 4 ?_
  rw [rounds_succ]
  have x0 := (show Blk _ _ _ _ from unhide HF).at 0 _ rfl
  obtain ⟨q0, q1, q2, q3, q4, q5, q6, q7, q8, q9, q10, q11, q12⟩ := Blk.c13 (show Blk _ _ _ _ from unhide HK)
  go_wp2_with fail
  refine (unhide HC0 _ (unhide HB)).mono ?_
  rintro z w1 ⟨rfl, hb⟩
  replace HB := hide (below_via (unhide HB) hb)
  replace HK := hide ((show Blk _ _ _ _ from unhide HK).keep hb)
  replace HZ := hide ((show Blk _ _ _ _ from unhide HZ).keep hb)
  replace HO := hide ((show Blk _ _ _ _ from unhide HO).keep hb)
  replace HF := hide ((show Blk _ _ _ _ from unhide HF).keep hb)
  clear hb x0 HC0 q0 q1 q2 q3 q4 q5 q6 q7 q8 q9 q10 q11 q12
  obtain ⟨y0, y1, y2, y3, y4, y5, y6, y7, y8, y9, y10, y11, y12, y13⟩ := Blk.c14 (show Blk _ _ _ _ from unhide HZ)
  obtain ⟨v0, v1, v2, v3, v4, v5, v6, v7, v8, v9, v10, v11, v12, v13⟩ := Blk.z14 (show Blk _ _ _ _ from unhide HZ)
  obtain ⟨o0, o1, o2, o3, o4, o5, o6, o7, o8, o9, o10, o11, o12, o13⟩ := Blk.c14 (show Blk _ _ _ _ from unhide HO)
  go_wp2_with fail
  clear y0 v0 o0 y1 v1 o1 y2 v2 o2 y3 v3 o3 y4 v4 o4 y5 v5 o5 y6 v6 o6 y7 v7 o7 y8 v8 o8 y9 v9 o9 y10 v10 o10 y11 v11 o11 y12 v12 o12 y13 v13 o13
  generalize hW : World.setCell _ _ _ = W
  have k2 : Blk W (w.heap.size + 1) #[.int .i64 0, .int .i64 0, .int .i64 0, .int .i64 0, .int .i64 0, .int .i64 0, .int .i64 0, .int .i64 0, .int .i64 0, .int .i64 0, .int .i64 0, .int .i64 0, .slice none 0 0, .int .i64 0] 123 := by rw [← hW]; exact (show Blk _ _ _ _ from unhide HZ).wr14 _ _ _ _ _ _ _ _ _ _ _ _ _ _
  have k4 : Below w.heap.size w W := by rw [← hW]; exact below_putN (by omega) [_, _, _, _, _, _, _, _, _, _, _, _, _, _] 0 (unhide HB)
  clear hW
  obtain ⟨p0, p1, p2, p3, p4, p5, p6, p7, p8, p9, p10, p11, p12, p13⟩ := k2.c14
  exact bodyPost_ret (v := .tuple #[.agg #[.int .i64 0, .int .i64 0, .int .i64 0, .int .i64 0, .int .i64 0, .int .i64 0, .int .i64 0, .int .i64 0, .int .i64 0, .int .i64 0, .int .i64 0, .int .i64 0, .slice none 0 0, .int .i64 0], .int .i64 e0]) (by simp [results, Try.results89, go_sem, p0, p1, p2, p3, p4, p5, p6, p7, p8, p9, p10, p11, p12, p13]) rfl ⟨rfl, k4⟩
set_option maxHeartbeats 4000000 in
theorem cu_1 {L : Ln} {a : Option Addr} {n c : Nat} {w : World} {cb mb fb0 : Nat} {e0 e1 : Int} (hF : Blk w cb #[.func (.func 92) #[] #[], .func (.func 93) #[] #[], .func (.func 131) #[] #[.pointer (some ⟨mb, 0, none⟩)]] 115) (HC0 : Hid (∀ W, Below w.heap.size w W → Calls (Tri Try.prog) 92 #[.agg (lnA L (.slice a n c))] W fun z w2 => z = .returned (.int .i64 e0) ∧ Below W.heap.size W w2)) (HC1 : Hid (∀ W, Below w.heap.size w W → Calls (Tri Try.prog) 93 #[.agg (lnA L (.slice a n c))] W fun z w2 => z = .returned (.int .i64 e1) ∧ Below W.heap.size W w2)) (h0 : e0 = 0) (h1 : (e1 != 0) = true) : Calls (Tri Try.prog) 89 #[.agg (lnA L (.slice a n c)), .func (.func 90) #[] #[.pointer (some ⟨fb0, 0, none⟩)], .slice (some ⟨cb, 0, none⟩) 3 3] w fun z w2 => z = .returned (.tuple #[.agg #[.int .i64 0, .int .i64 0, .int .i64 0, .int .i64 0, .int .i64 0, .int .i64 0, .int .i64 0, .int .i64 0, .int .i64 0, .int .i64 0, .int .i64 0, .int .i64 0, .slice none 0 0, .int .i64 0], .int .i64 e1]) ∧ Below w.heap.size w w2 := by
  obtain ⟨HB, HK, HZ, HO, HF⟩ := cu_st (L := L) (a := a) (n := n) (c := c) hF
  clear hF
  go_enter (Tri.at (by decide) Try.func89), Try.ntmps89
  go_wp2_with fail
  refine wp_loop_rounds 4 ?_
  rw [rounds_succ]
  have x0 := (show Blk _ _ _ _ from unhide HF).at 0 _ rfl
  obtain ⟨q0, q1, q2, q3, q4, q5, q6, q7, q8, q9, q10, q11, q12⟩ := Blk.c13 (show Blk _ _ _ _ from unhide HK)
  go_wp2_with fail
  refine (unhide HC0 _ (unhide HB)).mono ?_
  rintro z w1 ⟨rfl, hb⟩
  replace HB := hide (below_via (unhide HB) hb)
  replace HK := hide ((show Blk _ _ _ _ from unhide HK).keep hb)
  replace HZ := hide ((show Blk _ _ _ _ from unhide HZ).keep hb)
  replace HO := hide ((show Blk _ _ _ _ from unhide HO).keep hb)
  replace HF := hide ((show Blk _ _ _ _ from unhide HF).keep hb)
  clear hb x0 HC0 q0 q1 q2 q3 q4 q5 q6 q7 q8 q9 q10 q11 q12
  subst h0
  have t0 : ((0 : Int) != 0) = false := rfl
  go_wp2_with fail
  rw [rounds_succ]
  have x0 := (show Blk _ _ _ _ from unhide HF).at 1 _ rfl
  obtain ⟨q0, q1, q2, q3, q4, q5, q6, q7, q8, q9, q10, q11, q12⟩ := Blk.c13 (show Blk _ _ _ _ from unhide HK)
  go_wp2_with fail
  refine (unhide HC1 _ (unhide HB)).mono ?_
  rintro z w2 ⟨rfl, hb⟩
  replace HB := hide (below_via (unhide HB) hb)
  replace HK := hide ((show Blk _ _ _ _ from unhide HK).keep hb)
  replace HZ := hide ((show Blk _ _ _ _ from unhide HZ).keep hb)
  replace HO := hide ((show Blk _ _ _ _ from unhide HO).keep hb)
  replace HF := hide ((show Blk _ _ _ _ from unhide HF).keep hb)
  clear hb x0 HC1 q0 q1 q2 q3 q4 q5 q6 q7 q8 q9 q10 q11 q12
  obtain ⟨y0, y1, y2, y3, y4, y5, y6, y7, y8, y9, y10, y11, y12, y13⟩ := Blk.c14 (show Blk _ _ _ _ from unhide HZ)
  obtain ⟨v0, v1, v2, v3, v4, v5, v6, v7, v8, v9, v10, v11, v12, v13⟩ := Blk.z14 (show Blk _ _ _ _ from unhide HZ)
  obtain ⟨o0, o1, o2, o3, o4, o5, o6, o7, o8, o9, o10, o11, o12, o13⟩ := Blk.c14 (show Blk _ _ _ _ from unhide HO)
  go_wp2_with fail
  clear y0 v0 o0 y1 v1 o1 y2 v2 o2 y3 v3 o3 y4 v4 o4 y5 v5 o5 y6 v6 o6 y7 v7 o7 y8 v8 o8 y9 v9 o9 y10 v10 o10 y11 v11 o11 y12 v12 o12 y13 v13 o13
  generalize hW : World.setCell _ _ _ = W
  have k2 : Blk W (w.heap.size + 1) #[.int .i64 0, .int .i64 0, .int .i64 0, .int .i64 0, .int .i64 0, .int .i64 0, .int .i64 0, .int .i64 0, .int .i64 0, .int .i64 0, .int .i64 0, .int .i64 0, .slice none 0 0, .int .i64 0] 123 := by rw [← hW]; exact (show Blk _ _ _ _ from unhide HZ).wr14 _ _ _ _ _ _ _ _ _ _ _ _ _ _
  have k4 : Below w.heap.size w W := by rw [← hW]; exact below_putN (by omega) [_, _, _, _, _, _, _, _, _, _, _, _, _, _] 0 (unhide HB)
  clear hW
  obtain ⟨p0, p1, p2, p3, p4, p5, p6, p7, p8, p9, p10, p11, p12, p13⟩ := k2.c14
  exact bodyPost_ret (v := .tuple #[.agg #[.int .i64 0, .int .i64 0, .int .i64 0, .int .i64 0, .int .i64 0, .int .i64 0, .int .i64 0, .int .i64 0, .int .i64 0, .int .i64 0, .int .i64 0, .int .i64 0, .slice none 0 0, .int .i64 0], .int .i64 e1]) (by simp [results, Try.results89, go_sem, p0, p1, p2, p3, p4, p5, p6, p7, p8, p9, p10, p11, p12, p13]) rfl ⟨rfl, k4⟩
set_option maxHeartbeats 4000000 in
theorem cu_2 {L : Ln} {a : Option Addr} {n c : Nat} {w : World} {cb mb fb0 : Nat} {e0 e1 e2 : Int} (hF : Blk w cb #[.func (.func 92) #[] #[], .func (.func 93) #[] #[], .func (.func 131) #[] #[.pointer (some ⟨mb, 0, none⟩)]] 115) (HC0 : Hid (∀ W, Below w.heap.size w W → Calls (Tri Try.prog) 92 #[.agg (lnA L (.slice a n c))] W fun z w2 => z = .returned (.int .i64 e0) ∧ Below W.heap.size W w2)) (HC1 : Hid (∀ W, Below w.heap.size w W → Calls (Tri Try.prog) 93 #[.agg (lnA L (.slice a n c))] W fun z w2 => z = .returned (.int .i64 e1) ∧ Below W.heap.size W w2)) (HC2 : Hid (∀ W, Below w.heap.size w W → Calls (Tri Try.prog) 131 #[.agg (lnA L (.slice a n c)), .pointer (some ⟨mb, 0, none⟩)] W fun z w2 => z = .returned (.int .i64 e2) ∧ Below W.heap.size W w2)) (h0 : e0 = 0) (h1 : e1 = 0) (h2 : (e2 != 0) = true) : Calls (Tri Try.prog) 89 #[.agg (lnA L (.slice a n c)), .func (.func 90) #[] #[.pointer (some ⟨fb0, 0, none⟩)], .slice (some ⟨cb, 0, none⟩) 3 3] w fun z w2 => z = .returned (.tuple #[.agg #[.int .i64 0, .int .i64 0, .int .i64 0, .int .i64 0, .int .i64 0, .int .i64 0, .int .i64 0, .int .i64 0, .int .i64 0, .int .i64 0, .int .i64 0, .int .i64 0, .slice none 0 0, .int .i64 0], .int .i64 e2]) ∧ Below w.heap.size w w2 := by
  obtain ⟨HB, HK, HZ, HO, HF⟩ := cu_st (L := L) (a := a) (n := n) (c := c) hF
  clear hF
  go_enter (Tri.at (by decide) Try.func89), Try.ntmps89
  go_wp2_with fail
  refine wp_loop_rounds 4 ?_
  rw [rounds_succ]
  have x0 := (show Blk _ _ _ _ from unhide HF).at 0 _ rfl
  obtain ⟨q0, q1, q2, q3, q4, q5, q6, q7, q8, q9, q10, q11, q12⟩ := Blk.c13 (show Blk _ _ _ _ from unhide HK)
  go_wp2_with fail
  refine (unhide HC0 _ (unhide HB)).mono ?_
  rintro z w1 ⟨rfl, hb⟩
  replace HB := hide (below_via (unhide HB) hb)
  replace HK := hide ((show Blk _ _ _ _ from unhide HK).keep hb)
  replace HZ := hide ((show Blk _ _ _ _ from unhide HZ).keep hb)
  replace HO := hide ((show Blk _ _ _ _ from unhide HO).keep hb)
  replace HF := hide ((show Blk _ _ _ _ from unhide HF).keep hb)
  clear hb x0 HC0 q0 q1 q2 q3 q4 q5 q6 q7 q8 q9 q10 q11 q12
  subst h0
  have t0 : ((0 : Int) != 0) = false := rfl
  go_wp2_with fail
  rw [rounds_succ]
  have x0 := (show Blk _ _ _ _ from unhide HF).at 1 _ rfl
  obtain ⟨q0, q1, q2, q3, q4, q5, q6, q7, q8, q9, q10, q11, q12⟩ := Blk.c13 (show Blk _ _ _ _ from unhide HK)
  go_wp2_with fail
  refine (unhide HC1 _ (unhide HB)).mono ?_
  rintro z w2 ⟨rfl, hb⟩
  replace HB := hide (below_via (unhide HB) hb)
  replace HK := hide ((show Blk _ _ _ _ from unhide HK).keep hb)
  replace HZ := hide ((show Blk _ _ _ _ from unhide HZ).keep hb)
  replace HO := hide ((show Blk _ _ _ _ from unhide HO).keep hb)
  replace HF := hide ((show Blk _ _ _ _ from unhide HF).keep hb)
  clear hb x0 HC1 q0 q1 q2 q3 q4 q5 q6 q7 q8 q9 q10 q11 q12
  subst h1
  have t1 : ((0 : Int) != 0) = false := rfl
  go_wp2_with fail
  rw [rounds_succ]
  have x0 := (show Blk _ _ _ _ from unhide HF).at 2 _ rfl
  obtain ⟨q0, q1, q2, q3, q4, q5, q6, q7, q8, q9, q10, q11, q12⟩ := Blk.c13 (show Blk _ _ _ _ from unhide HK)
  go_wp2_with fail
  refine (unhide HC2 _ (unhide HB)).mono ?_
  rintro z w3 ⟨rfl, hb⟩
  replace HB := hide (below_via (unhide HB) hb)
  replace HK := hide ((show Blk _ _ _ _ from unhide HK).keep hb)
  replace HZ := hide ((show Blk _ _ _ _ from unhide HZ).keep hb)
  replace HO := hide ((show Blk _ _ _ _ from unhide HO).keep hb)
  replace HF := hide ((show Blk _ _ _ _ from unhide HF).keep hb)
  clear hb x0 HC2 q0 q1 q2 q3 q4 q5 q6 q7 q8 q9 q10 q11 q12
  obtain ⟨y0, y1, y2, y3, y4, y5, y6, y7, y8, y9, y10, y11, y12, y13⟩ := Blk.c14 (show Blk _ _ _ _ from unhide HZ)
  obtain ⟨v0, v1, v2, v3, v4, v5, v6, v7, v8, v9, v10, v11, v12, v13⟩ := Blk.z14 (show Blk _ _ _ _ from unhide HZ)
  obtain ⟨o0, o1, o2, o3, o4, o5, o6, o7, o8, o9, o10, o11, o12, o13⟩ := Blk.c14 (show Blk _ _ _ _ from unhide HO)
  go_wp2_with fail
  clear y0 v0 o0 y1 v1 o1 y2 v2 o2 y3 v3 o3 y4 v4 o4 y5 v5 o5 y6 v6 o6 y7 v7 o7 y8 v8 o8 y9 v9 o9 y10 v10 o10 y11 v11 o11 y12 v12 o12 y13 v13 o13
  generalize hW : World.setCell _ _ _ = W
  have k2 : Blk W (w.heap.size + 1) #[.int .i64 0, .int .i64 0, .int .i64 0, .int .i64 0, .int .i64 0, .int .i64 0, .int .i64 0, .int .i64 0, .int .i64 0, .int .i64 0, .int .i64 0, .int .i64 0, .slice none 0 0, .int .i64 0] 123 := by rw [← hW]; exact (show Blk _ _ _ _ from unhide HZ).wr14 _ _ _ _ _ _ _ _ _ _ _ _ _ _
  have k4 : Below w.heap.size w W := by rw [← hW]; exact below_putN (by omega) [_, _, _, _, _, _, _, _, _, _, _, _, _, _] 0 (unhide HB)
  clear hW
  obtain ⟨p0, p1, p2, p3, p4, p5, p6, p7, p8, p9, p10, p11, p12, p13⟩ := k2.c14
  exact bodyPost_ret (v := .tuple #[.agg #[.int .i64 0, .int .i64 0, .int .i64 0, .int .i64 0, .int .i64 0, .int .i64 0, .int .i64 0, .int .i64 0, .int .i64 0, .int .i64 0, .int .i64 0, .int .i64 0, .slice none 0 0, .int .i64 0], .int .i64 e2]) (by simp [results, Try.results89, go_sem, p0, p1, p2, p3, p4, p5, p6, p7, p8, p9, p10, p11, p12, p13]) rfl ⟨rfl, k4⟩
set_option maxHeartbeats 4000000 in
theorem ts_y {L : Ln} {a : Option Addr} {n c : Nat} {w : World} {cb mb fb0 : Nat} {e0 e1 e2 : Int} (hF : Blk w cb #[.func (.func 92) #[] #[], .func (.func 93) #[] #[], .func (.func 131) #[] #[.pointer (some ⟨mb, 0, none⟩)]] 115) (HC0 : Hid (∀ W, Below w.heap.size w W → Calls (Tri Try.prog) 92 #[.agg (lnA L (.slice a n c))] W fun z w2 => z = .returned (.int .i64 e0) ∧ Below W.heap.size W w2)) (HC1 : Hid (∀ W, Below w.heap.size w W → Calls (Tri Try.prog) 93 #[.agg (lnA L (.slice a n c))] W fun z w2 => z = .returned (.int .i64 e1) ∧ Below W.heap.size W w2)) (HC2 : Hid (∀ W, Below w.heap.size w W → Calls (Tri Try.prog) 131 #[.agg (lnA L (.slice a n c)), .pointer (some ⟨mb, 0, none⟩)] W fun z w2 => z = .returned (.int .i64 e2) ∧ Below W.heap.size W w2)) {m e : Int} {B : Bool} (HD : Hid (∀ W, Below w.heap.size w W → Calls (Tri Try.prog) 103 #[.agg (lnA L (.slice a n c)), .pointer (some ⟨fb0, 0, none⟩)] W fun z w2 => z = .returned (.tuple #[.agg #[.int .i64 m, .bool B], .int .i64 e]) ∧ Below W.heap.size W w2)) (h0 : e0 = 0) (h1 : e1 = 0) (h2 : e2 = 0) (he : e = 0) : Calls (Tri Try.prog) 102 #[.agg (lnA L (.slice a n c)), .func (.func 103) #[] #[.pointer (some ⟨fb0, 0, none⟩)], .slice (some ⟨cb, 0, none⟩) 3 3] w fun z w2 => z = .returned (.tuple #[.agg #[.int .i64 m, .bool B], .int .i64 0]) ∧ Below w.heap.size w w2 := by
  obtain ⟨HB, HK, HZ, HO, HF⟩ := ts_st (L := L) (a := a) (n := n) (c := c) hF
  clear hF
  go_enter (Tri.at (by decide) Try.func102), Try.ntmps102
  go_wp2_with fail
  refine wp_loop_rounds 4 ?_
  rw [rounds_succ]
  have x0 := (show Blk _ _ _ _ from unhide HF).at 0 _ rfl
  obtain ⟨q0, q1, q2, q3, q4, q5, q6, q7, q8, q9, q10, q11, q12⟩ := Blk.c13 (show Blk _ _ _ _ from unhide HK)
  go_wp2_with fail
  refine (unhide HC0 _ (unhide HB)).mono ?_
  rintro z w1 ⟨rfl, hb⟩
  replace HB := hide (below_via (unhide HB) hb)
  replace HK := hide ((show Blk _ _ _ _ from unhide HK).keep hb)
  replace HZ := hide ((show Blk _ _ _ _ from unhide HZ).keep hb)
  replace HO := hide ((show Blk _ _ _ _ from unhide HO).keep hb)
  replace HF := hide ((show Blk _ _ _ _ from unhide HF).keep hb)
  clear hb x0 HC0 q0 q1 q2 q3 q4 q5 q6 q7 q8 q9 q10 q11 q12
  subst h0
  have t0 : ((0 : Int) != 0) = false := rfl
  go_wp2_with fail
  rw [rounds_succ]
  have x0 := (show Blk _ _ _ _ from unhide HF).at 1 _ rfl
  obtain ⟨q0, q1, q2, q3, q4, q5, q6, q7, q8, q9, q10, q11, q12⟩ := Blk.c13 (show Blk _ _ _ _ from unhide HK)
  go_wp2_with fail
  refine (unhide HC1 _ (unhide HB)).mono ?_
  rintro z w2 ⟨rfl, hb⟩
  replace HB := hide (below_via (unhide HB) hb)
  replace HK := hide ((show Blk _ _ _ _ from unhide HK).keep hb)
  replace HZ := hide ((show Blk _ _ _ _ from unhide HZ).keep hb)
  replace HO := hide ((show Blk _ _ _ _ from unhide HO).keep hb)
  replace HF := hide ((show Blk _ _ _ _ from unhide HF).keep hb)
  clear hb x0 HC1 q0 q1 q2 q3 q4 q5 q6 q7 q8 q9 q10 q11 q12
  subst h1
  have t1 : ((0 : Int) != 0) = false := rfl
  go_wp2_with fail
  rw [rounds_succ]
  have x0 := (show Blk _ _ _ _ from unhide HF).at 2 _ rfl
  obtain ⟨q0, q1, q2, q3, q4, q5, q6, q7, q8, q9, q10, q11, q12⟩ := Blk.c13 (show Blk _ _ _ _ from unhide HK)
  go_wp2_with fail
  refine (unhide HC2 _ (unhide HB)).mono ?_
  rintro z w3 ⟨rfl, hb⟩
  replace HB := hide (below_via (unhide HB) hb)
  replace HK := hide ((show Blk _ _ _ _ from unhide HK).keep hb)
  replace HZ := hide ((show Blk _ _ _ _ from unhide HZ).keep hb)
  replace HO := hide ((show Blk _ _ _ _ from unhide HO).keep hb)
  replace HF := hide ((show Blk _ _ _ _ from unhide HF).keep hb)
  clear hb x0 HC2 q0 q1 q2 q3 q4 q5 q6 q7 q8 q9 q10 q11 q12
  subst h2
  have t2 : ((0 : Int) != 0) = false := rfl
  go_wp2_with fail
  rw [rounds_succ]
  obtain ⟨q0, q1, q2, q3, q4, q5, q6, q7, q8, q9, q10, q11, q12⟩ := Blk.c13 (show Blk _ _ _ _ from unhide HK)
  go_wp2_with fail
  refine (unhide HD _ (unhide HB)).mono ?_
  rintro z w9 ⟨rfl, hb⟩
  replace HB := hide (below_via (unhide HB) hb)
  replace HK := hide ((show Blk _ _ _ _ from unhide HK).keep hb)
  replace HZ := hide ((show Blk _ _ _ _ from unhide HZ).keep hb)
  replace HO := hide ((show Blk _ _ _ _ from unhide HO).keep hb)
  replace HF := hide ((show Blk _ _ _ _ from unhide HF).keep hb)
  have bb : Below w9.heap.size w9 (w9.alloc (.cells #[.int .i64 m, .bool B] 139)) := below1L w9 _
  have HA := hide (Blk.new w9 #[.int .i64 m, .bool B] 139)
  replace HB := hide (below_via (unhide HB) bb)
  replace HK := hide ((show Blk _ _ _ _ from unhide HK).keep bb)
  replace HZ := hide ((show Blk _ _ _ _ from unhide HZ).keep bb)
  replace HO := hide ((show Blk _ _ _ _ from unhide HO).keep bb)
  replace HF := hide ((show Blk _ _ _ _ from unhide HF).keep bb)
  clear hb bb HD  q0 q1 q2 q3 q4 q5 q6 q7 q8 q9 q10 q11 q12
  subst he
  have t9 : ((0 : Int) != 0) = false := rfl
  obtain ⟨y0, y1⟩ := Blk.c2 (show Blk _ _ _ _ from unhide HZ)
  obtain ⟨v0, v1⟩ := Blk.z2 (show Blk _ _ _ _ from unhide HZ)
  obtain ⟨g0, g1⟩ := Blk.c2 (show Blk _ _ _ _ from unhide HA)
  go_wp2_with fail
  clear y0 v0 g0 y1 v1 g1
  generalize hW : World.setCell _ _ _ = W
  have k2 : Blk W (w.heap.size + 1) #[.int .i64 m, .bool B] 139 := by rw [← hW]; exact (show Blk _ _ _ _ from unhide HZ).wr2 _ _
  have k4 : Below w.heap.size w W := by rw [← hW]; exact below_putN (by omega) [_, _] 0 (unhide HB)
  clear hW
  obtain ⟨p0, p1⟩ := k2.c2
  exact bodyPost_ret (v := .tuple #[.agg #[.int .i64 m, .bool B], .int .i64 0]) (by simp [results, Try.results102, go_sem, p0, p1]) rfl ⟨rfl, k4⟩
end Go.Proofs.Ytpeoabopeihadaa.Mn
