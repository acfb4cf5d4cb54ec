/- Replace, done. -/
import Derived.Test.YtpeoabopeihadaaYS
import Derived.Test.YtpeoabopeihadaaYM
import Derived.Test.YtpeoabopeihadaaYP
import Derived.Test.YtpeoabopeihadaaYQ
set_option linter.unusedVariables false
set_option linter.unusedSimpArgs false
set_option linter.unusedSectionVars false
namespace Go.Proofs.Ytpeoabopeihadaa.Mn
open Go.RowKit
attribute [local simp] Tri.typeInfo Tri.sizeOf Tri.underlying Tri.runUnderlying Tri.isAgg Tri.zeroValue Tri.depth Tri.stoodInHeld Tri.eqGuardType Tri.call15 Tri.call27 Tri.call31 Tri.call32 Tri.call38 Tri.call39 Tri.call40 Tri.call41 Tri.call43 Tri.call44 Tri.call45 Tri.call46 Tri.call49 Tri.call52 Tri.call54 Tri.call65 Tri.call69 Tri.call70 Tri.call72 Tri.call73 Tri.call74 Tri.call75 Tri.call82 Tri.call86 Tri.call89 Tri.call90 Tri.call91 Tri.call92 Tri.call93 Tri.call94 Tri.call95 Tri.call96 Tri.call97 Tri.call98 Tri.call99 Tri.call100 Tri.call102 Tri.call103 Tri.call104 Tri.call106 Tri.call116 Tri.call117 Tri.call118 Tri.call119 Tri.call120 Tri.call122 Tri.call126 Tri.call130 Tri.call131 Tri.call132 Tri.call143 Tri.call144 Tri.call145 Tri.call146 Tri.call147 Tri.call156 Tri.call157 Tri.call159 Tri.call160 Tri.call161 Tri.call162 Tri.call163 Tri.call164 Tri.call165 Tri.call175 Tri.call176 Tri.call186 Tri.call188 Tri.call205
theorem Blk.put1 {w : World} {g : Nat} {T : TypeId} {c0 c1 c2 c3 c4 c5 c6 c7 c8 c9 c10 c11 c12 : Value} (h : Blk w g #[c0, c1, c2, c3, c4, c5, c6, c7, c8, c9, c10, c11, c12] T) (v : Value) : Blk (w.setCell ⟨g, 1, none⟩ v) g #[c0, v, c2, c3, c4, c5, c6, c7, c8, c9, c10, c11, c12] T := by
  have k := h.set 1 v
  simpa using k
def goneK (L : Ln) : Ln := { adjK L 0 with st := 4 }
theorem rep_e {L : Ln} {a a2 : Option Addr} {n c n2 c2 : Nat} {id fair : Int} {w : World} {e : Int} (HN : Hid (∀ W, Below w.heap.size w W → Calls (Tri Try.prog) 27 #[.int .i64 id, .int .i64 fair, .slice a2 n2 c2] W fun z w2 => z = .returned (.tuple #[.agg lnZ, .int .i64 e]) ∧ Below W.heap.size W w2)) (he : (e != 0) = true) : Calls (Tri Try.prog) 98 #[.agg (lnA L (.slice a n c)), .int .i64 id, .int .i64 fair, .slice a2 n2 c2] w fun z w2 => z = .returned (.tuple #[.agg #[.int .i64 0, .int .i64 0, .int .i64 0, .int .i64 0, .int .i64 0, .int .i64 0, .int .i64 0, .int .i64 0, .int .i64 0, .int .i64 0, .int .i64 0, .int .i64 0, .slice none 0 0, .int .i64 0, .int .i64 0, .int .i64 0, .int .i64 0, .int .i64 0, .int .i64 0, .int .i64 0, .int .i64 0, .int .i64 0, .int .i64 0, .int .i64 0, .int .i64 0, .slice none 0 0, .int .i64 0], .int .i64 e]) ∧ Below w.heap.size w w2 := by
  have HB : Hid (Below w.heap.size w ((w.alloc (.cells (lnA L (.slice a n c)) 53)).alloc (.cells #[.int .i64 0, .int .i64 0, .int .i64 0, .int .i64 0, .int .i64 0, .int .i64 0, .int .i64 0, .int .i64 0, .int .i64 0, .int .i64 0, .int .i64 0, .int .i64 0, .slice none 0 0, .int .i64 0, .int .i64 0, .int .i64 0, .int .i64 0, .int .i64 0, .int .i64 0, .int .i64 0, .int .i64 0, .int .i64 0, .int .i64 0, .int .i64 0, .int .i64 0, .slice none 0 0, .int .i64 0] 131))) := hide ((below1L w _).alloc (by simp) _)
  have HK : Hid (Blk ((w.alloc (.cells (lnA L (.slice a n c)) 53)).alloc (.cells #[.int .i64 0, .int .i64 0, .int .i64 0, .int .i64 0, .int .i64 0, .int .i64 0, .int .i64 0, .int .i64 0, .int .i64 0, .int .i64 0, .int .i64 0, .int .i64 0, .slice none 0 0, .int .i64 0, .int .i64 0, .int .i64 0, .int .i64 0, .int .i64 0, .int .i64 0, .int .i64 0, .int .i64 0, .int .i64 0, .int .i64 0, .int .i64 0, .int .i64 0, .slice none 0 0, .int .i64 0] 131)) w.heap.size (lnA L (.slice a n c)) 53) := hide ((Blk.new w (lnA L (.slice a n c)) 53).alloc _)
  have HZ : Hid (Blk ((w.alloc (.cells (lnA L (.slice a n c)) 53)).alloc (.cells #[.int .i64 0, .int .i64 0, .int .i64 0, .int .i64 0, .int .i64 0, .int .i64 0, .int .i64 0, .int .i64 0, .int .i64 0, .int .i64 0, .int .i64 0, .int .i64 0, .slice none 0 0, .int .i64 0, .int .i64 0, .int .i64 0, .int .i64 0, .int .i64 0, .int .i64 0, .int .i64 0, .int .i64 0, .int .i64 0, .int .i64 0, .int .i64 0, .int .i64 0, .slice none 0 0, .int .i64 0] 131)) (w.heap.size + 1) #[.int .i64 0, .int .i64 0, .int .i64 0, .int .i64 0, .int .i64 0, .int .i64 0, .int .i64 0, .int .i64 0, .int .i64 0, .int .i64 0, .int .i64 0, .int .i64 0, .slice none 0 0, .int .i64 0, .int .i64 0, .int .i64 0, .int .i64 0, .int .i64 0, .int .i64 0, .int .i64 0, .int .i64 0, .int .i64 0, .int .i64 0, .int .i64 0, .int .i64 0, .slice none 0 0, .int .i64 0] 131) := hide (by have h := Blk.new (w.alloc (.cells (lnA L (.slice a n c)) 53)) #[.int .i64 0, .int .i64 0, .int .i64 0, .int .i64 0, .int .i64 0, .int .i64 0, .int .i64 0, .int .i64 0, .int .i64 0, .int .i64 0, .int .i64 0, .int .i64 0, .slice none 0 0, .int .i64 0, .int .i64 0, .int .i64 0, .int .i64 0, .int .i64 0, .int .i64 0, .int .i64 0, .int .i64 0, .int .i64 0, .int .i64 0, .int .i64 0, .int .i64 0, .slice none 0 0, .int .i64 0] 131; simpa using h)
  replace HN := hide (unhide HN _ (unhide HB))
  generalize hU : (w.alloc (.cells (lnA L (.slice a n c)) 53)).alloc (.cells #[.int .i64 0, .int .i64 0, .int .i64 0, .int .i64 0, .int .i64 0, .int .i64 0, .int .i64 0, .int .i64 0, .int .i64 0, .int .i64 0, .int .i64 0, .int .i64 0, .slice none 0 0, .int .i64 0, .int .i64 0, .int .i64 0, .int .i64 0, .int .i64 0, .int .i64 0, .int .i64 0, .int .i64 0, .int .i64 0, .int .i64 0, .int .i64 0, .int .i64 0, .slice none 0 0, .int .i64 0] 131) = U at *
  go_enter (Tri.at (by decide) Try.func98), Try.ntmps98
  go_wp2_with fail
  clear hU
  refine (unhide HN).mono ?_
  rintro z w9 ⟨rfl, hb⟩
  replace HB := hide (below_via (unhide HB) hb)
  replace HK := hide ((show Blk _ _ _ _ from unhide HK).keep hb)
  replace HZ := hide ((show Blk _ _ _ _ from unhide HZ).keep hb)
  clear hb HN
  have HA0 := hide (Blk.new w9 lnZ 53)
  go_wp2_with (refine store_blk rfl 53 _ _ rfl (show Blk _ _ _ _ from unhide HA0) rfl rfl size53 rfl rfl rfl ?_)
  intro W9 kA kp
  have bb : Below w9.heap.size w9 W9 := kp.bel (Nat.le_refl _) (below1L w9 _)
  replace HB := hide (below_via (unhide HB) bb)
  replace HK := hide ((show Blk _ _ _ _ from unhide HK).keep bb)
  replace HZ := hide ((show Blk _ _ _ _ from unhide HZ).keep bb)
  clear bb kA kp HA0
  go_wp2_with (refine store_blk rfl 131 _ _ rfl (show Blk _ _ _ _ from unhide HZ) rfl rfl size131 rfl rfl rfl ?_)
  intro W k2 kp
  have k4 := kp.bel (by omega) (unhide HB)
  clear kp
  go_wp2_with fail
  exact bodyPost_ret (v := .tuple #[.agg #[.int .i64 0, .int .i64 0, .int .i64 0, .int .i64 0, .int .i64 0, .int .i64 0, .int .i64 0, .int .i64 0, .int .i64 0, .int .i64 0, .int .i64 0, .int .i64 0, .slice none 0 0, .int .i64 0, .int .i64 0, .int .i64 0, .int .i64 0, .int .i64 0, .int .i64 0, .int .i64 0, .int .i64 0, .int .i64 0, .int .i64 0, .int .i64 0, .int .i64 0, .slice none 0 0, .int .i64 0], .int .i64 e]) (res_ct rfl k2 row131 size131 rfl rfl rfl) rfl ⟨rfl, k4⟩
set_option maxHeartbeats 2000000 in
theorem rep_o {L : Ln} {a a2 : Option Addr} {n c n2 c2 : Nat} {id fair : Int} {w : World} {M : Ln} {n4 : Nat} {l4 : List Int} (HN : Hid (∀ W, Below w.heap.size w W → Calls (Tri Try.prog) 27 #[.int .i64 id, .int .i64 fair, .slice a2 n2 c2] W fun z w2 => ∃ a4 c4, z = .returned (.tuple #[.agg (lnA M (.slice a4 n4 c4)), .int .i64 0]) ∧ Row w2 (.slice a4 n4 c4) l4 ∧ Sl a4 n4 c4 ∧ (∀ x, a4 = some x → W.heap.size ≤ x.block) ∧ Below W.heap.size W w2)) (HA : Hid (∀ W, Calls (Tri Try.prog) 130 #[.agg (lnA L (.slice a n c)), .int .i64 0, .slice none 0 0] W fun z w2 => ∃ a3 c3, z = .returned (.agg (lnA (adjK L 0) (.slice a3 0 c3))) ∧ Row w2 (.slice a3 0 c3) [] ∧ Sl a3 0 c3 ∧ (∀ x, a3 = some x → W.heap.size ≤ x.block) ∧ Below W.heap.size W w2)) (HI : Hid (∀ W a c, Row W (.slice a 0 c) [] → Calls (Tri Try.prog) 31 #[.agg (lnA (goneK L) (.slice a 0 c))] W fun z w2 => z = .returned (.bool false) ∧ Below W.heap.size W w2)) : Calls (Tri Try.prog) 98 #[.agg (lnA L (.slice a n c)), .int .i64 id, .int .i64 fair, .slice a2 n2 c2] w fun z w2 => z = .returned (.tuple #[.agg #[.int .i64 0, .int .i64 0, .int .i64 0, .int .i64 0, .int .i64 0, .int .i64 0, .int .i64 0, .int .i64 0, .int .i64 0, .int .i64 0, .int .i64 0, .int .i64 0, .slice none 0 0, .int .i64 0, .int .i64 0, .int .i64 0, .int .i64 0, .int .i64 0, .int .i64 0, .int .i64 0, .int .i64 0, .int .i64 0, .int .i64 0, .int .i64 0, .int .i64 0, .slice none 0 0, .int .i64 0], .int .i64 3]) ∧ Below w.heap.size w w2 := by
  have HB : Hid (Below w.heap.size w ((w.alloc (.cells (lnA L (.slice a n c)) 53)).alloc (.cells #[.int .i64 0, .int .i64 0, .int .i64 0, .int .i64 0, .int .i64 0, .int .i64 0, .int .i64 0, .int .i64 0, .int .i64 0, .int .i64 0, .int .i64 0, .int .i64 0, .slice none 0 0, .int .i64 0, .int .i64 0, .int .i64 0, .int .i64 0, .int .i64 0, .int .i64 0, .int .i64 0, .int .i64 0, .int .i64 0, .int .i64 0, .int .i64 0, .int .i64 0, .slice none 0 0, .int .i64 0] 131))) := hide ((below1L w _).alloc (by simp) _)
  have HK : Hid (Blk ((w.alloc (.cells (lnA L (.slice a n c)) 53)).alloc (.cells #[.int .i64 0, .int .i64 0, .int .i64 0, .int .i64 0, .int .i64 0, .int .i64 0, .int .i64 0, .int .i64 0, .int .i64 0, .int .i64 0, .int .i64 0, .int .i64 0, .slice none 0 0, .int .i64 0, .int .i64 0, .int .i64 0, .int .i64 0, .int .i64 0, .int .i64 0, .int .i64 0, .int .i64 0, .int .i64 0, .int .i64 0, .int .i64 0, .int .i64 0, .slice none 0 0, .int .i64 0] 131)) w.heap.size (lnA L (.slice a n c)) 53) := hide ((Blk.new w (lnA L (.slice a n c)) 53).alloc _)
  have HZ : Hid (Blk ((w.alloc (.cells (lnA L (.slice a n c)) 53)).alloc (.cells #[.int .i64 0, .int .i64 0, .int .i64 0, .int .i64 0, .int .i64 0, .int .i64 0, .int .i64 0, .int .i64 0, .int .i64 0, .int .i64 0, .int .i64 0, .int .i64 0, .slice none 0 0, .int .i64 0, .int .i64 0, .int .i64 0, .int .i64 0, .int .i64 0, .int .i64 0, .int .i64 0, .int .i64 0, .int .i64 0, .int .i64 0, .int .i64 0, .int .i64 0, .slice none 0 0, .int .i64 0] 131)) (w.heap.size + 1) #[.int .i64 0, .int .i64 0, .int .i64 0, .int .i64 0, .int .i64 0, .int .i64 0, .int .i64 0, .int .i64 0, .int .i64 0, .int .i64 0, .int .i64 0, .int .i64 0, .slice none 0 0, .int .i64 0, .int .i64 0, .int .i64 0, .int .i64 0, .int .i64 0, .int .i64 0, .int .i64 0, .int .i64 0, .int .i64 0, .int .i64 0, .int .i64 0, .int .i64 0, .slice none 0 0, .int .i64 0] 131) := hide (by have h := Blk.new (w.alloc (.cells (lnA L (.slice a n c)) 53)) #[.int .i64 0, .int .i64 0, .int .i64 0, .int .i64 0, .int .i64 0, .int .i64 0, .int .i64 0, .int .i64 0, .int .i64 0, .int .i64 0, .int .i64 0, .int .i64 0, .slice none 0 0, .int .i64 0, .int .i64 0, .int .i64 0, .int .i64 0, .int .i64 0, .int .i64 0, .int .i64 0, .int .i64 0, .int .i64 0, .int .i64 0, .int .i64 0, .int .i64 0, .slice none 0 0, .int .i64 0] 131; simpa using h)
  replace HN := hide (unhide HN _ (unhide HB))
  generalize hU : (w.alloc (.cells (lnA L (.slice a n c)) 53)).alloc (.cells #[.int .i64 0, .int .i64 0, .int .i64 0, .int .i64 0, .int .i64 0, .int .i64 0, .int .i64 0, .int .i64 0, .int .i64 0, .int .i64 0, .int .i64 0, .int .i64 0, .slice none 0 0, .int .i64 0, .int .i64 0, .int .i64 0, .int .i64 0, .int .i64 0, .int .i64 0, .int .i64 0, .int .i64 0, .int .i64 0, .int .i64 0, .int .i64 0, .int .i64 0, .slice none 0 0, .int .i64 0] 131) = U at *
  go_enter (Tri.at (by decide) Try.func98), Try.ntmps98
  go_wp2_with fail
  clear hU
  refine (unhide HN).mono ?_
  rintro z w9 ⟨a4, c4, rfl, hr4, hs4, hf4, hb⟩
  have HN4 : Hid (∀ x, a4 = some x → w.heap.size + 1 < x.block) := hide (fun x hx => Nat.lt_of_lt_of_le (show Blk _ _ _ _ from unhide HZ).lt (hf4 x hx))
  have HR4 := hide hr4
  have HS4 := hide hs4
  replace HB := hide (below_via (unhide HB) hb)
  replace HK := hide ((show Blk _ _ _ _ from unhide HK).keep hb)
  replace HZ := hide ((show Blk _ _ _ _ from unhide HZ).keep hb)
  clear hb HN hr4 hs4 hf4
  have HA0 := hide (Blk.new w9 lnZ 53)
  go_wp2_with (refine store_blk rfl 53 _ _ rfl (show Blk _ _ _ _ from unhide HA0) rfl rfl size53 rfl rfl rfl ?_)
  intro W9 kA kp
  have bb : Below w9.heap.size w9 W9 := kp.bel (Nat.le_refl _) (below1L w9 _)
  replace HR4 := hide ((unhide HR4).below bb (Nat.le_refl _))
  have HX := hide kA
  replace HB := hide (below_via (unhide HB) bb)
  replace HK := hide ((show Blk _ _ _ _ from unhide HK).keep bb)
  replace HZ := hide ((show Blk _ _ _ _ from unhide HZ).keep bb)
  clear bb kA kp HA0
  have t0 : ((0 : Int) != 0) = false := rfl
  go_wp2_with (refine load_blk rfl 53 _ rfl (show Blk _ _ _ _ from unhide HK) rfl row53 size53 rfl ?_)
  refine (unhide HA W9).mono ?_
  rintro z w10 ⟨a3, c3, rfl, hr3, hs3, hf3, hb⟩
  have HN3 : Hid (∀ x, a3 = some x → w.heap.size + 1 < x.block) := hide (fun x hx => Nat.lt_of_lt_of_le (show Blk _ _ _ _ from unhide HZ).lt (hf3 x hx))
  have HR3 := hide hr3
  have HS3 := hide hs3
  replace HR4 := hide ((unhide HR4).below hb (Nat.le_refl _))
  replace HB := hide (below_via (unhide HB) hb)
  replace HK := hide ((show Blk _ _ _ _ from unhide HK).keep hb)
  replace HZ := hide ((show Blk _ _ _ _ from unhide HZ).keep hb)
  replace HX := hide ((show Blk _ _ _ _ from unhide HX).keep hb)
  clear hb HA hr3 hs3 hf3
  have HO0 := hide (Blk.new w10 lnZ 53)
  go_wp2_with (refine store_blk rfl 53 _ _ rfl (show Blk _ _ _ _ from unhide HO0) rfl rfl size53 rfl rfl rfl ?_)
  intro W10 kO kp
  have bb : Below w10.heap.size w10 W10 := kp.bel (Nat.le_refl _) (below1L w10 _)
  have lz : w.heap.size + 1 < w10.heap.size := (show Blk _ _ _ _ from unhide HZ).lt
  have lx : w9.heap.size < w10.heap.size := (show Blk _ _ _ _ from unhide HX).lt
  have bs : Below w10.heap.size w10 (W10.setCell ⟨w10.heap.size, 1, none⟩ (.int .i64 4)) := bb.setCell (p := ⟨w10.heap.size, 1, none⟩) (Nat.le_refl _) _
  replace HR4 := hide ((unhide HR4).below bs (Nat.le_refl _))
  replace HR3 := hide ((unhide HR3).below bs (Nat.le_refl _))
  replace HB := hide (below_via (unhide HB) bs)
  replace HK := hide ((show Blk _ _ _ _ from unhide HK).keep bs)
  replace HZ := hide ((show Blk _ _ _ _ from unhide HZ).keep bs)
  replace HX := hide ((show Blk _ _ _ _ from unhide HX).keep bs)
  have HO : Hid (Blk (W10.setCell ⟨w10.heap.size, 1, none⟩ (.int .i64 4)) w10.heap.size (lnA (goneK L) (.slice a3 0 c3)) 53) := hide (kO.put1 _)
  have x1 := kO.at 1 (.int .i64 L.st) rfl
  have f1 := kO.fz 1
  clear bb bs kp HO0 kO
  generalize hU : W10.setCell ⟨w10.heap.size, 1, none⟩ (.int .i64 4) = U1 at *
  go_wp2_with (refine load_blk rfl 53 _ rfl (show Blk _ _ _ _ from unhide HO) rfl row53 size53 rfl ?_)
  clear hU x1 f1
  refine (unhide HI _ _ _ (unhide HR3)).mono ?_
  rintro z w11 ⟨rfl, hb⟩
  replace HR4 := hide ((unhide HR4).below hb (Nat.le_refl _))
  replace HR3 := hide ((unhide HR3).below hb (Nat.le_refl _))
  replace HB := hide (below_via (unhide HB) hb)
  replace HK := hide ((show Blk _ _ _ _ from unhide HK).keep hb)
  replace HZ := hide ((show Blk _ _ _ _ from unhide HZ).keep hb)
  replace HX := hide ((show Blk _ _ _ _ from unhide HX).keep hb)
  replace HO := hide ((show Blk _ _ _ _ from unhide HO).keep hb)
  clear hb HI
  go_wp2_with (refine store_blk rfl 131 _ _ rfl (show Blk _ _ _ _ from unhide HZ) rfl rfl size131 rfl rfl rfl ?_)
  intro W k2 kp
  have k4 := kp.bel (by omega) (unhide HB)
  clear kp
  go_wp2_with fail
  exact bodyPost_ret (v := .tuple #[.agg #[.int .i64 0, .int .i64 0, .int .i64 0, .int .i64 0, .int .i64 0, .int .i64 0, .int .i64 0, .int .i64 0, .int .i64 0, .int .i64 0, .int .i64 0, .int .i64 0, .slice none 0 0, .int .i64 0, .int .i64 0, .int .i64 0, .int .i64 0, .int .i64 0, .int .i64 0, .int .i64 0, .int .i64 0, .int .i64 0, .int .i64 0, .int .i64 0, .int .i64 0, .slice none 0 0, .int .i64 0], .int .i64 3]) (res_ct rfl k2 row131 size131 rfl rfl rfl) rfl ⟨rfl, k4⟩
set_option maxHeartbeats 2000000 in
theorem rep_y {L : Ln} {a a2 : Option Addr} {n c n2 c2 : Nat} {id fair : Int} {w : World} {M : Ln} {n4 : Nat} {l4 : List Int} (HN : Hid (∀ W, Below w.heap.size w W → Calls (Tri Try.prog) 27 #[.int .i64 id, .int .i64 fair, .slice a2 n2 c2] W fun z w2 => ∃ a4 c4, z = .returned (.tuple #[.agg (lnA M (.slice a4 n4 c4)), .int .i64 0]) ∧ Row w2 (.slice a4 n4 c4) l4 ∧ Sl a4 n4 c4 ∧ (∀ x, a4 = some x → W.heap.size ≤ x.block) ∧ Below W.heap.size W w2)) (HA : Hid (∀ W, Calls (Tri Try.prog) 130 #[.agg (lnA L (.slice a n c)), .int .i64 0, .slice none 0 0] W fun z w2 => ∃ a3 c3, z = .returned (.agg (lnA (adjK L 0) (.slice a3 0 c3))) ∧ Row w2 (.slice a3 0 c3) [] ∧ Sl a3 0 c3 ∧ (∀ x, a3 = some x → W.heap.size ≤ x.block) ∧ Below W.heap.size W w2)) (HI : Hid (∀ W a c, Row W (.slice a 0 c) [] → Calls (Tri Try.prog) 31 #[.agg (lnA (goneK L) (.slice a 0 c))] W fun z w2 => z = .returned (.bool true) ∧ Below W.heap.size W w2)) (b1 : 0 ≤ L.gr) (b2 : L.gr ≤ 1125899906842624) (b3 : 0 ≤ fair) (b4 : fair ≤ 10000000000000) : Calls (Tri Try.prog) 98 #[.agg (lnA L (.slice a n c)), .int .i64 id, .int .i64 fair, .slice a2 n2 c2] w fun z w2 => ∃ a3 c3 a4 c4, z = .returned (.tuple #[.agg #[.int .i64 (goneK L).id, .int .i64 (goneK L).st, .int .i64 (goneK L).be, .int .i64 (goneK L).out, .int .i64 (goneK L).rt, .int .i64 (goneK L).gr, .int .i64 (goneK L).due, .int .i64 (goneK L).inc, .int .i64 (goneK L).got, .int .i64 (goneK L).adj, .int .i64 (goneK L).wri, .int .i64 (goneK L).rcv, .slice a3 0 c3, .int .i64 M.id, .int .i64 M.st, .int .i64 M.be, .int .i64 M.out, .int .i64 M.rt, .int .i64 M.gr, .int .i64 M.due, .int .i64 M.inc, .int .i64 M.got, .int .i64 M.adj, .int .i64 M.wri, .int .i64 M.rcv, .slice a4 n4 c4, .int .i64 (fair - L.gr)], .int .i64 0]) ∧ Row w2 (.slice a3 0 c3) [] ∧ Sl a3 0 c3 ∧ (∀ x, a3 = some x → w.heap.size ≤ x.block) ∧ Row w2 (.slice a4 n4 c4) l4 ∧ Sl a4 n4 c4 ∧ (∀ x, a4 = some x → w.heap.size ≤ x.block) ∧ Below w.heap.size w w2 := by
  have HB : Hid (Below w.heap.size w ((w.alloc (.cells (lnA L (.slice a n c)) 53)).alloc (.cells #[.int .i64 0, .int .i64 0, .int .i64 0, .int .i64 0, .int .i64 0, .int .i64 0, .int .i64 0, .int .i64 0, .int .i64 0, .int .i64 0, .int .i64 0, .int .i64 0, .slice none 0 0, .int .i64 0, .int .i64 0, .int .i64 0, .int .i64 0, .int .i64 0, .int .i64 0, .int .i64 0, .int .i64 0, .int .i64 0, .int .i64 0, .int .i64 0, .int .i64 0, .slice none 0 0, .int .i64 0] 131))) := hide ((below1L w _).alloc (by simp) _)
  have HK : Hid (Blk ((w.alloc (.cells (lnA L (.slice a n c)) 53)).alloc (.cells #[.int .i64 0, .int .i64 0, .int .i64 0, .int .i64 0, .int .i64 0, .int .i64 0, .int .i64 0, .int .i64 0, .int .i64 0, .int .i64 0, .int .i64 0, .int .i64 0, .slice none 0 0, .int .i64 0, .int .i64 0, .int .i64 0, .int .i64 0, .int .i64 0, .int .i64 0, .int .i64 0, .int .i64 0, .int .i64 0, .int .i64 0, .int .i64 0, .int .i64 0, .slice none 0 0, .int .i64 0] 131)) w.heap.size (lnA L (.slice a n c)) 53) := hide ((Blk.new w (lnA L (.slice a n c)) 53).alloc _)
  have HZ : Hid (Blk ((w.alloc (.cells (lnA L (.slice a n c)) 53)).alloc (.cells #[.int .i64 0, .int .i64 0, .int .i64 0, .int .i64 0, .int .i64 0, .int .i64 0, .int .i64 0, .int .i64 0, .int .i64 0, .int .i64 0, .int .i64 0, .int .i64 0, .slice none 0 0, .int .i64 0, .int .i64 0, .int .i64 0, .int .i64 0, .int .i64 0, .int .i64 0, .int .i64 0, .int .i64 0, .int .i64 0, .int .i64 0, .int .i64 0, .int .i64 0, .slice none 0 0, .int .i64 0] 131)) (w.heap.size + 1) #[.int .i64 0, .int .i64 0, .int .i64 0, .int .i64 0, .int .i64 0, .int .i64 0, .int .i64 0, .int .i64 0, .int .i64 0, .int .i64 0, .int .i64 0, .int .i64 0, .slice none 0 0, .int .i64 0, .int .i64 0, .int .i64 0, .int .i64 0, .int .i64 0, .int .i64 0, .int .i64 0, .int .i64 0, .int .i64 0, .int .i64 0, .int .i64 0, .int .i64 0, .slice none 0 0, .int .i64 0] 131) := hide (by have h := Blk.new (w.alloc (.cells (lnA L (.slice a n c)) 53)) #[.int .i64 0, .int .i64 0, .int .i64 0, .int .i64 0, .int .i64 0, .int .i64 0, .int .i64 0, .int .i64 0, .int .i64 0, .int .i64 0, .int .i64 0, .int .i64 0, .slice none 0 0, .int .i64 0, .int .i64 0, .int .i64 0, .int .i64 0, .int .i64 0, .int .i64 0, .int .i64 0, .int .i64 0, .int .i64 0, .int .i64 0, .int .i64 0, .int .i64 0, .slice none 0 0, .int .i64 0] 131; simpa using h)
  replace HN := hide (unhide HN _ (unhide HB))
  generalize hU : (w.alloc (.cells (lnA L (.slice a n c)) 53)).alloc (.cells #[.int .i64 0, .int .i64 0, .int .i64 0, .int .i64 0, .int .i64 0, .int .i64 0, .int .i64 0, .int .i64 0, .int .i64 0, .int .i64 0, .int .i64 0, .int .i64 0, .slice none 0 0, .int .i64 0, .int .i64 0, .int .i64 0, .int .i64 0, .int .i64 0, .int .i64 0, .int .i64 0, .int .i64 0, .int .i64 0, .int .i64 0, .int .i64 0, .int .i64 0, .slice none 0 0, .int .i64 0] 131) = U at *
  go_enter (Tri.at (by decide) Try.func98), Try.ntmps98
  go_wp2_with fail
  clear hU
  refine (unhide HN).mono ?_
  rintro z w9 ⟨a4, c4, rfl, hr4, hs4, hf4, hb⟩
  have HN4 : Hid (∀ x, a4 = some x → w.heap.size + 1 < x.block) := hide (fun x hx => Nat.lt_of_lt_of_le (show Blk _ _ _ _ from unhide HZ).lt (hf4 x hx))
  have HR4 := hide hr4
  have HS4 := hide hs4
  replace HB := hide (below_via (unhide HB) hb)
  replace HK := hide ((show Blk _ _ _ _ from unhide HK).keep hb)
  replace HZ := hide ((show Blk _ _ _ _ from unhide HZ).keep hb)
  clear hb HN hr4 hs4 hf4
  have HA0 := hide (Blk.new w9 lnZ 53)
  go_wp2_with (refine store_blk rfl 53 _ _ rfl (show Blk _ _ _ _ from unhide HA0) rfl rfl size53 rfl rfl rfl ?_)
  intro W9 kA kp
  have bb : Below w9.heap.size w9 W9 := kp.bel (Nat.le_refl _) (below1L w9 _)
  replace HR4 := hide ((unhide HR4).below bb (Nat.le_refl _))
  have HX := hide kA
  replace HB := hide (below_via (unhide HB) bb)
  replace HK := hide ((show Blk _ _ _ _ from unhide HK).keep bb)
  replace HZ := hide ((show Blk _ _ _ _ from unhide HZ).keep bb)
  clear bb kA kp HA0
  have t0 : ((0 : Int) != 0) = false := rfl
  go_wp2_with (refine load_blk rfl 53 _ rfl (show Blk _ _ _ _ from unhide HK) rfl row53 size53 rfl ?_)
  refine (unhide HA W9).mono ?_
  rintro z w10 ⟨a3, c3, rfl, hr3, hs3, hf3, hb⟩
  have HN3 : Hid (∀ x, a3 = some x → w.heap.size + 1 < x.block) := hide (fun x hx => Nat.lt_of_lt_of_le (show Blk _ _ _ _ from unhide HZ).lt (hf3 x hx))
  have HR3 := hide hr3
  have HS3 := hide hs3
  replace HR4 := hide ((unhide HR4).below hb (Nat.le_refl _))
  replace HB := hide (below_via (unhide HB) hb)
  replace HK := hide ((show Blk _ _ _ _ from unhide HK).keep hb)
  replace HZ := hide ((show Blk _ _ _ _ from unhide HZ).keep hb)
  replace HX := hide ((show Blk _ _ _ _ from unhide HX).keep hb)
  clear hb HA hr3 hs3 hf3
  have HO0 := hide (Blk.new w10 lnZ 53)
  go_wp2_with (refine store_blk rfl 53 _ _ rfl (show Blk _ _ _ _ from unhide HO0) rfl rfl size53 rfl rfl rfl ?_)
  intro W10 kO kp
  have bb : Below w10.heap.size w10 W10 := kp.bel (Nat.le_refl _) (below1L w10 _)
  have lz : w.heap.size + 1 < w10.heap.size := (show Blk _ _ _ _ from unhide HZ).lt
  have lx : w9.heap.size < w10.heap.size := (show Blk _ _ _ _ from unhide HX).lt
  have bs : Below w10.heap.size w10 (W10.setCell ⟨w10.heap.size, 1, none⟩ (.int .i64 4)) := bb.setCell (p := ⟨w10.heap.size, 1, none⟩) (Nat.le_refl _) _
  replace HR4 := hide ((unhide HR4).below bs (Nat.le_refl _))
  replace HR3 := hide ((unhide HR3).below bs (Nat.le_refl _))
  replace HB := hide (below_via (unhide HB) bs)
  replace HK := hide ((show Blk _ _ _ _ from unhide HK).keep bs)
  replace HZ := hide ((show Blk _ _ _ _ from unhide HZ).keep bs)
  replace HX := hide ((show Blk _ _ _ _ from unhide HX).keep bs)
  have HO : Hid (Blk (W10.setCell ⟨w10.heap.size, 1, none⟩ (.int .i64 4)) w10.heap.size (lnA (goneK L) (.slice a3 0 c3)) 53) := hide (kO.put1 _)
  have x1 := kO.at 1 (.int .i64 L.st) rfl
  have f1 := kO.fz 1
  clear bb bs kp HO0 kO
  generalize hU : W10.setCell ⟨w10.heap.size, 1, none⟩ (.int .i64 4) = U1 at *
  go_wp2_with (refine load_blk rfl 53 _ rfl (show Blk _ _ _ _ from unhide HO) rfl row53 size53 rfl ?_)
  clear hU x1 f1
  refine (unhide HI _ _ _ (unhide HR3)).mono ?_
  rintro z w11 ⟨rfl, hb⟩
  replace HR4 := hide ((unhide HR4).below hb (Nat.le_refl _))
  replace HR3 := hide ((unhide HR3).below hb (Nat.le_refl _))
  replace HB := hide (below_via (unhide HB) hb)
  replace HK := hide ((show Blk _ _ _ _ from unhide HK).keep hb)
  replace HZ := hide ((show Blk _ _ _ _ from unhide HZ).keep hb)
  replace HX := hide ((show Blk _ _ _ _ from unhide HX).keep hb)
  replace HO := hide ((show Blk _ _ _ _ from unhide HO).keep hb)
  clear hb HI
  have x5 := (show Blk _ _ _ _ from unhide HK).at 5 (.int .i64 L.gr) rfl
  go_wp2_with (first | refine load_blk rfl 53 _ rfl (show Blk _ _ _ _ from unhide HO) rfl row53 size53 rfl ?_ | refine load_blk rfl 53 _ rfl (show Blk _ _ _ _ from unhide HX) rfl row53 size53 rfl ?_ | refine store_blk rfl 131 _ _ rfl (show Blk _ _ _ _ from unhide HZ) rfl rfl size131 rfl rfl rfl ?_)
  intro W k2 kp
  have k4 := kp.bel (by omega) (unhide HB)
  have k53 := kp.row (fun x hx => by have := unhide HN3 x hx; omega) (unhide HR3)
  have k63 := hide (show ∀ x, a3 = some x → w.heap.size ≤ x.block from fun x hx => by have := unhide HN3 x hx; omega)
  have k73 := unhide HS3
  have k54 := kp.row (fun x hx => by have := unhide HN4 x hx; omega) (unhide HR4)
  have k64 := hide (show ∀ x, a4 = some x → w.heap.size ≤ x.block from fun x hx => by have := unhide HN4 x hx; omega)
  have k74 := unhide HS4
  clear kp
  go_wp2_with fail
  exact bodyPost_ret (v := .tuple #[.agg #[.int .i64 (goneK L).id, .int .i64 (goneK L).st, .int .i64 (goneK L).be, .int .i64 (goneK L).out, .int .i64 (goneK L).rt, .int .i64 (goneK L).gr, .int .i64 (goneK L).due, .int .i64 (goneK L).inc, .int .i64 (goneK L).got, .int .i64 (goneK L).adj, .int .i64 (goneK L).wri, .int .i64 (goneK L).rcv, .slice a3 0 c3, .int .i64 M.id, .int .i64 M.st, .int .i64 M.be, .int .i64 M.out, .int .i64 M.rt, .int .i64 M.gr, .int .i64 M.due, .int .i64 M.inc, .int .i64 M.got, .int .i64 M.adj, .int .i64 M.wri, .int .i64 M.rcv, .slice a4 n4 c4, .int .i64 (fair - L.gr)], .int .i64 0]) (res_ct rfl k2 row131 size131 rfl rfl rfl) rfl ⟨a3, c3, a4, c4, rfl, k53, k73, unhide k63, k54, k74, unhide k64, k4⟩
section
variable {ops : Array Oper} {Q : Exit → Act → World → Prop} {md : Region.Mode} {S : World → Prop} {fuel : Nat} {listed : Array Bool} {a : Act} {w : World}
theorem anyH_op {i : Nat} {o : Oper} (hr : Region.ready md ops listed = [i]) (ho : ops[i]? = some o) (hg : o.guard = none) (h : o.wp (Tri Try.prog) a w (fun a' w' => S w' ∧ wpAnyH (Tri Try.prog) md ops Q S fuel (listed.setIfInBounds i true) a' w') Q) : wpAnyH (Tri Try.prog) md ops Q S (fuel + 1) listed a w :=
  wpAnyH_all hr (by simp) (fun j hj => by
    have e : j = i := by simpa using hj
    subst e
    refine wpOp_step ho (fun K' hK => ?_)
    rw [if_pos (by simp [Region.wanted, hg])]
    exact Oper.wp_mono hK h)
theorem anyH_store {i : Nat} {op : Oper} (hr : Region.ready md ops listed = [i]) (ho : ops[i]? = some op) (hg : op.guard = none) (ty : TypeId) (x y : Operand) (hop : op.op = .store ty x y) {b : Nat} {T : TypeId} {old cells : Array Value} (hB : Blk w b old T) (hx : a.eval x = .pointer (some ⟨b, 0, none⟩)) (hy : a.eval y = .agg cells) {n : Nat} (hi : ((Tri Try.prog).info? ty).map (·.size) = some n) (ho' : old.size = n) (hn : cells.size = n) (h1 : cells.toList.all (·.oneCell') = true)
    (h : ∀ W, Blk W b cells T → Past w W b → S W ∧ wpAnyH (Tri Try.prog) md ops Q S fuel (listed.setIfInBounds i true) (a.put op.dst undef) W) : wpAnyH (Tri Try.prog) md ops Q S (fuel + 1) listed a w :=
  anyH_op hr ho hg (storeO_blk ty x y hop hB hx hy hi ho' hn h1 h)
theorem anyH_assign {i : Nat} {op : Oper} (hr : Region.ready md ops listed = [i]) (ho : ops[i]? = some op) (hg : op.guard = none) (x : Operand) (hop : op.op = .assign x) {v : Value} (hx : a.eval x = v) (hS : S w) (h : wpAnyH (Tri Try.prog) md ops Q S fuel (listed.setIfInBounds i true) (a.put op.dst v) w) : wpAnyH (Tri Try.prog) md ops Q S (fuel + 1) listed a w :=
  anyH_op hr ho hg (Go.BigFrame.wp_assign x hop ⟨hS, by rw [hx]; exact h⟩)
end
theorem rpl_st (w : World) (L : Ln) (a a2 : Option Addr) (n c n2 c2 : Nat) (id fair : Int) : Hid (Below w.heap.size w (((((((w.alloc (.cells (lnA L (.slice a n c)) 53)).alloc (.cells #[.int .i64 id] 3)).alloc (.cells #[.int .i64 fair] 2)).alloc (.cells #[.slice a2 n2 c2] 22)).alloc (.cells lnZ 53)).alloc (.cells lnZ 53)).alloc (.cells #[.func (.func 92) #[] #[], .func (.func 93) #[] #[]] 115))) ∧ Hid (Blk (((((((w.alloc (.cells (lnA L (.slice a n c)) 53)).alloc (.cells #[.int .i64 id] 3)).alloc (.cells #[.int .i64 fair] 2)).alloc (.cells #[.slice a2 n2 c2] 22)).alloc (.cells lnZ 53)).alloc (.cells lnZ 53)).alloc (.cells #[.func (.func 92) #[] #[], .func (.func 93) #[] #[]] 115)) (w.heap.size + 1) #[.int .i64 id] 3) ∧ Hid (Blk (((((((w.alloc (.cells (lnA L (.slice a n c)) 53)).alloc (.cells #[.int .i64 id] 3)).alloc (.cells #[.int .i64 fair] 2)).alloc (.cells #[.slice a2 n2 c2] 22)).alloc (.cells lnZ 53)).alloc (.cells lnZ 53)).alloc (.cells #[.func (.func 92) #[] #[], .func (.func 93) #[] #[]] 115)) (w.heap.size + 1 + 1) #[.int .i64 fair] 2) ∧ Hid (Blk (((((((w.alloc (.cells (lnA L (.slice a n c)) 53)).alloc (.cells #[.int .i64 id] 3)).alloc (.cells #[.int .i64 fair] 2)).alloc (.cells #[.slice a2 n2 c2] 22)).alloc (.cells lnZ 53)).alloc (.cells lnZ 53)).alloc (.cells #[.func (.func 92) #[] #[], .func (.func 93) #[] #[]] 115)) (w.heap.size + 1 + 1 + 1) #[.slice a2 n2 c2] 22) ∧ Hid (Blk (((((((w.alloc (.cells (lnA L (.slice a n c)) 53)).alloc (.cells #[.int .i64 id] 3)).alloc (.cells #[.int .i64 fair] 2)).alloc (.cells #[.slice a2 n2 c2] 22)).alloc (.cells lnZ 53)).alloc (.cells lnZ 53)).alloc (.cells #[.func (.func 92) #[] #[], .func (.func 93) #[] #[]] 115)) (w.heap.size + 1 + 1 + 1 + 1) lnZ 53) ∧ Hid (Blk (((((((w.alloc (.cells (lnA L (.slice a n c)) 53)).alloc (.cells #[.int .i64 id] 3)).alloc (.cells #[.int .i64 fair] 2)).alloc (.cells #[.slice a2 n2 c2] 22)).alloc (.cells lnZ 53)).alloc (.cells lnZ 53)).alloc (.cells #[.func (.func 92) #[] #[], .func (.func 93) #[] #[]] 115)) (w.heap.size + 1 + 1 + 1 + 1 + 1) lnZ 53) ∧ Hid (Blk (((((((w.alloc (.cells (lnA L (.slice a n c)) 53)).alloc (.cells #[.int .i64 id] 3)).alloc (.cells #[.int .i64 fair] 2)).alloc (.cells #[.slice a2 n2 c2] 22)).alloc (.cells lnZ 53)).alloc (.cells lnZ 53)).alloc (.cells #[.func (.func 92) #[] #[], .func (.func 93) #[] #[]] 115)) (w.heap.size + 1 + 1 + 1 + 1 + 1 + 1) #[.func (.func 92) #[] #[], .func (.func 93) #[] #[]] 115) := by
  refine ⟨hide (((((((below1L w _).alloc (by simp; try omega) _).alloc (by simp; try omega) _).alloc (by simp; try omega) _).alloc (by simp; try omega) _).alloc (by simp; try omega) _).alloc (by simp; try omega) _), hide ?_, hide ?_, hide ?_, hide ?_, hide ?_, hide ?_⟩
  · have h := (((((Blk.new (w.alloc (.cells (lnA L (.slice a n c)) 53)) #[.int .i64 id] 3).alloc (.cells #[.int .i64 fair] 2)).alloc (.cells #[.slice a2 n2 c2] 22)).alloc (.cells lnZ 53)).alloc (.cells lnZ 53)).alloc (.cells #[.func (.func 92) #[] #[], .func (.func 93) #[] #[]] 115)
    simpa using h
  · have h := ((((Blk.new ((w.alloc (.cells (lnA L (.slice a n c)) 53)).alloc (.cells #[.int .i64 id] 3)) #[.int .i64 fair] 2).alloc (.cells #[.slice a2 n2 c2] 22)).alloc (.cells lnZ 53)).alloc (.cells lnZ 53)).alloc (.cells #[.func (.func 92) #[] #[], .func (.func 93) #[] #[]] 115)
    simpa using h
  · have h := (((Blk.new (((w.alloc (.cells (lnA L (.slice a n c)) 53)).alloc (.cells #[.int .i64 id] 3)).alloc (.cells #[.int .i64 fair] 2)) #[.slice a2 n2 c2] 22).alloc (.cells lnZ 53)).alloc (.cells lnZ 53)).alloc (.cells #[.func (.func 92) #[] #[], .func (.func 93) #[] #[]] 115)
    simpa using h
  · have h := ((Blk.new ((((w.alloc (.cells (lnA L (.slice a n c)) 53)).alloc (.cells #[.int .i64 id] 3)).alloc (.cells #[.int .i64 fair] 2)).alloc (.cells #[.slice a2 n2 c2] 22)) lnZ 53).alloc (.cells lnZ 53)).alloc (.cells #[.func (.func 92) #[] #[], .func (.func 93) #[] #[]] 115)
    simpa using h
  · have h := (Blk.new (((((w.alloc (.cells (lnA L (.slice a n c)) 53)).alloc (.cells #[.int .i64 id] 3)).alloc (.cells #[.int .i64 fair] 2)).alloc (.cells #[.slice a2 n2 c2] 22)).alloc (.cells lnZ 53)) lnZ 53).alloc (.cells #[.func (.func 92) #[] #[], .func (.func 93) #[] #[]] 115)
    simpa using h
  · have h := Blk.new ((((((w.alloc (.cells (lnA L (.slice a n c)) 53)).alloc (.cells #[.int .i64 id] 3)).alloc (.cells #[.int .i64 fair] 2)).alloc (.cells #[.slice a2 n2 c2] 22)).alloc (.cells lnZ 53)).alloc (.cells lnZ 53)) #[.func (.func 92) #[] #[], .func (.func 93) #[] #[]] 115
    simpa using h
set_option maxHeartbeats 4000000 in
theorem out_43 {L : Ln} {a a2 : Option Addr} {n c n2 c2 : Nat} {id fair : Int} {w : World} {K M : Ln} {n3 n4 : Nat} {l3 l4 : List Int} {m e : Int} (HT : Hid (∀ W cb fb0 fb1 fb2, Below w.heap.size w W → Blk W cb #[.func (.func 92) #[] #[], .func (.func 93) #[] #[]] 115 → W.cell? ⟨fb0, 0, none⟩ = some (.int .i64 id) → W.cell? ⟨fb1, 0, none⟩ = some (.int .i64 fair) → W.cell? ⟨fb2, 0, none⟩ = some (.slice a2 n2 c2) → Calls (Tri Try.prog) 96 #[.agg (lnA L (.slice a n c)), .func (.func 97) #[] #[.pointer (some ⟨fb0, 0, none⟩), .pointer (some ⟨fb1, 0, none⟩), .pointer (some ⟨fb2, 0, none⟩)], .slice (some ⟨cb, 0, none⟩) 2 2] W fun z w2 => ∃ a3 c3 a4 c4, z = .returned (.tuple #[.agg #[.int .i64 K.id, .int .i64 K.st, .int .i64 K.be, .int .i64 K.out, .int .i64 K.rt, .int .i64 K.gr, .int .i64 K.due, .int .i64 K.inc, .int .i64 K.got, .int .i64 K.adj, .int .i64 K.wri, .int .i64 K.rcv, .slice a3 n3 c3, .int .i64 M.id, .int .i64 M.st, .int .i64 M.be, .int .i64 M.out, .int .i64 M.rt, .int .i64 M.gr, .int .i64 M.due, .int .i64 M.inc, .int .i64 M.got, .int .i64 M.adj, .int .i64 M.wri, .int .i64 M.rcv, .slice a4 n4 c4, .int .i64 m], .int .i64 e]) ∧ Row w2 (.slice a3 n3 c3) l3 ∧ Sl a3 n3 c3 ∧ (∀ x, a3 = some x → W.heap.size ≤ x.block) ∧ Row w2 (.slice a4 n4 c4) l4 ∧ Sl a4 n4 c4 ∧ (∀ x, a4 = some x → W.heap.size ≤ x.block) ∧ Below W.heap.size W w2)) : Calls (Tri Try.prog) 43 #[.agg (lnA L (.slice a n c)), .int .i64 id, .int .i64 fair, .slice a2 n2 c2] w fun z w2 => ∃ a3 c3 a4 c4, z = .returned (.tuple #[.agg (lnA K (.slice a3 n3 c3)), .agg (lnA M (.slice a4 n4 c4)), .int .i64 m, .int .i64 e]) ∧ Row w2 (.slice a3 n3 c3) l3 ∧ Sl a3 n3 c3 ∧ (∀ x, a3 = some x → w.heap.size ≤ x.block) ∧ Row w2 (.slice a4 n4 c4) l4 ∧ Sl a4 n4 c4 ∧ (∀ x, a4 = some x → w.heap.size ≤ x.block) ∧ Below w.heap.size w w2 := by
  obtain ⟨HB, H1, H2, H3, H4, H5, H6⟩ := rpl_st w L a a2 n c n2 c2 id fair
  go_enter (Tri.at (by decide) Try.func43), Try.ntmps43
  go_wp2_with fail
  generalize hU : (((((((w.alloc (.cells (lnA L (.slice a n c)) 53)).alloc (.cells #[.int .i64 id] 3)).alloc (.cells #[.int .i64 fair] 2)).alloc (.cells #[.slice a2 n2 c2] 22)).alloc (.cells lnZ 53)).alloc (.cells lnZ 53)).alloc (.cells #[.func (.func 92) #[] #[], .func (.func 93) #[] #[]] 115)) = U at *
  clear hU
  refine (unhide HT U _ _ _ _ (unhide HB) (unhide H6) ((show Blk _ _ _ _ from unhide H1).at 0 _ rfl) ((show Blk _ _ _ _ from unhide H2).at 0 _ rfl) ((show Blk _ _ _ _ from unhide H3).at 0 _ rfl)).mono ?_
  rintro z w9 ⟨a3, c3, a4, c4, rfl, hr3, hs3, hf3, hr4, hs4, hf4, hb⟩
  have HN3 : Hid (∀ x, a3 = some x → w.heap.size + 1 + 1 + 1 + 1 + 1 < x.block) := hide (fun x hx => Nat.lt_of_lt_of_le (show Blk _ _ _ _ from unhide H5).lt (hf3 x hx))
  have HR3 := hide hr3
  have HS3 := hide hs3
  have HN4 : Hid (∀ x, a4 = some x → w.heap.size + 1 + 1 + 1 + 1 + 1 < x.block) := hide (fun x hx => Nat.lt_of_lt_of_le (show Blk _ _ _ _ from unhide H5).lt (hf4 x hx))
  have HR4 := hide hr4
  have HS4 := hide hs4
  replace HB := hide (below_via (unhide HB) hb)
  replace H4 := hide ((show Blk _ _ _ _ from unhide H4).keep hb)
  replace H5 := hide ((show Blk _ _ _ _ from unhide H5).keep hb)
  clear hb HT H1 H2 H3 H6 hr3 hs3 hf3 hr4 hs4 hf4
  have HA0 := hide (Blk.new w9 #[.int .i64 0, .int .i64 0, .int .i64 0, .int .i64 0, .int .i64 0, .int .i64 0, .int .i64 0, .int .i64 0, .int .i64 0, .int .i64 0, .int .i64 0, .int .i64 0, .slice none 0 0, .int .i64 0, .int .i64 0, .int .i64 0, .int .i64 0, .int .i64 0, .int .i64 0, .int .i64 0, .int .i64 0, .int .i64 0, .int .i64 0, .int .i64 0, .int .i64 0, .slice none 0 0, .int .i64 0] 131)
  go_wp2_with (refine store_blk rfl 131 _ _ rfl (show Blk _ _ _ _ from unhide HA0) rfl rfl size131 rfl rfl rfl ?_)
  intro W9 kA kp
  have bb : Below w9.heap.size w9 W9 := kp.bel (Nat.le_refl _) (below1L w9 _)
  have l5 := (show Blk _ _ _ _ from unhide H5).lt
  replace HR3 := hide ((unhide HR3).below bb (Nat.le_refl _))
  replace HR4 := hide ((unhide HR4).below bb (Nat.le_refl _))
  replace HB := hide (below_via (unhide HB) bb)
  replace H4 := hide ((show Blk _ _ _ _ from unhide H4).keep bb)
  replace H5 := hide ((show Blk _ _ _ _ from unhide H5).keep bb)
  have HA := hide kA
  clear bb kA kp HA0
  go_wp2_with fail
  refine wp_region_held_drew (S := fun W => Blk W (w9.heap.size) #[.int .i64 K.id, .int .i64 K.st, .int .i64 K.be, .int .i64 K.out, .int .i64 K.rt, .int .i64 K.gr, .int .i64 K.due, .int .i64 K.inc, .int .i64 K.got, .int .i64 K.adj, .int .i64 K.wri, .int .i64 K.rcv, .slice a3 n3 c3, .int .i64 M.id, .int .i64 M.st, .int .i64 M.be, .int .i64 M.out, .int .i64 M.rt, .int .i64 M.gr, .int .i64 M.due, .int .i64 M.inc, .int .i64 M.got, .int .i64 M.adj, .int .i64 M.wri, .int .i64 M.rcv, .slice a4 n4 c4, .int .i64 m] 131) (by kernel_rfl) (show Blk _ _ _ _ from unhide HA) (fun hS => ?_)
  clear HA
  replace HB := hide (below_drew (unhide HB))
  replace H4 := hide ((show Blk _ _ _ _ from unhide H4).drew)
  replace H5 := hide ((show Blk _ _ _ _ from unhide H5).drew)
  replace HR3 := hide (unhide HR3).drew
  replace HR4 := hide (unhide HR4).drew
  generalize hV : W9.drew = V0 at *
  clear hV
  refine wpAnyH_take (i := 0) (v := .pointer (some ⟨w9.heap.size, 0, none⟩)) rfl (by kernel_rfl) (by kernel_rfl) (by kernel_rfl) (fun _ _ _ h => h) (Or.inl ⟨by rfl, fun W hS => by go_simp⟩) hS ?_
  refine wpAnyH_take (i := 1) (v := .agg (lnA K (.slice a3 n3 c3))) rfl (by kernel_rfl) (by kernel_rfl) (by kernel_rfl) (fun _ _ _ h => h) (Or.inl ⟨by rfl, fun W hS => by have cc0 := hS.at 0 (.int .i64 K.id) rfl; have cc1 := hS.at 1 (.int .i64 K.st) rfl; have cc2 := hS.at 2 (.int .i64 K.be) rfl; have cc3 := hS.at 3 (.int .i64 K.out) rfl; have cc4 := hS.at 4 (.int .i64 K.rt) rfl; have cc5 := hS.at 5 (.int .i64 K.gr) rfl; have cc6 := hS.at 6 (.int .i64 K.due) rfl; have cc7 := hS.at 7 (.int .i64 K.inc) rfl; have cc8 := hS.at 8 (.int .i64 K.got) rfl; have cc9 := hS.at 9 (.int .i64 K.adj) rfl; have cc10 := hS.at 10 (.int .i64 K.wri) rfl; have cc11 := hS.at 11 (.int .i64 K.rcv) rfl; have cc12 := hS.at 12 (.slice a3 n3 c3) rfl; go_simp⟩) hS ?_
  refine wpAnyH_take (i := 2) (v := .pointer (some ⟨w9.heap.size, 13, none⟩)) rfl (by kernel_rfl) (by kernel_rfl) (by kernel_rfl) (fun _ _ _ h => h) (Or.inl ⟨by rfl, fun W hS => by go_simp⟩) hS ?_
  refine wpAnyH_take (i := 3) (v := .agg (lnA M (.slice a4 n4 c4))) rfl (by kernel_rfl) (by kernel_rfl) (by kernel_rfl) (fun _ _ _ h => h) (Or.inl ⟨by rfl, fun W hS => by have cc13 := hS.at 13 (.int .i64 M.id) rfl; have cc14 := hS.at 14 (.int .i64 M.st) rfl; have cc15 := hS.at 15 (.int .i64 M.be) rfl; have cc16 := hS.at 16 (.int .i64 M.out) rfl; have cc17 := hS.at 17 (.int .i64 M.rt) rfl; have cc18 := hS.at 18 (.int .i64 M.gr) rfl; have cc19 := hS.at 19 (.int .i64 M.due) rfl; have cc20 := hS.at 20 (.int .i64 M.inc) rfl; have cc21 := hS.at 21 (.int .i64 M.got) rfl; have cc22 := hS.at 22 (.int .i64 M.adj) rfl; have cc23 := hS.at 23 (.int .i64 M.wri) rfl; have cc24 := hS.at 24 (.int .i64 M.rcv) rfl; have cc25 := hS.at 25 (.slice a4 n4 c4) rfl; go_simp⟩) hS ?_
  refine wpAnyH_take (i := 4) (v := .pointer (some ⟨w9.heap.size, 26, none⟩)) rfl (by kernel_rfl) (by kernel_rfl) (by kernel_rfl) (fun _ _ _ h => h) (Or.inl ⟨by rfl, fun W hS => by go_simp⟩) hS ?_
  refine wpAnyH_take (i := 5) (v := .int .i64 m) rfl (by kernel_rfl) (by kernel_rfl) (by kernel_rfl) (fun _ _ _ h => h) (Or.inl ⟨by rfl, fun W hS => by have cc := hS.at 26 (.int .i64 m) rfl; go_simp⟩) hS ?_
  refine wpAnyH_take (i := 6) (v := .int .i64 e) rfl (by kernel_rfl) (by kernel_rfl) (by kernel_rfl) (fun _ _ _ h => h) (Or.inl ⟨by rfl, fun W hS => by go_simp⟩) hS ?_
  refine anyH_store (cells := (lnA K (.slice a3 n3 c3))) (i := 7) (by kernel_rfl) rfl rfl 53 _ _ rfl (show Blk _ _ _ _ from unhide H4) (by kernel_rfl) (by kernel_rfl) size53 rfl rfl rfl (fun W7 k7 kp => ?_)
  have hSA := kp.blk (show w9.heap.size ≠ w.heap.size + 1 + 1 + 1 + 1 by omega) hS
  replace HB := hide (kp.bel (by omega) (unhide HB))
  replace H5 := hide (kp.blk (by omega) (unhide H5))
  replace HR3 := hide (kp.row (fun x hx => by have := unhide HN3 x hx; omega) (unhide HR3))
  replace HR4 := hide (kp.row (fun x hx => by have := unhide HN4 x hx; omega) (unhide HR4))
  replace H4 := hide k7
  clear kp k7 hS
  refine ⟨hSA, ?_⟩
  have hS := hSA
  clear hSA
  refine anyH_store (cells := (lnA M (.slice a4 n4 c4))) (i := 8) (by kernel_rfl) rfl rfl 53 _ _ rfl (show Blk _ _ _ _ from unhide H5) (by kernel_rfl) (by kernel_rfl) size53 rfl rfl rfl (fun W8 k7 kp => ?_)
  have hSA := kp.blk (show w9.heap.size ≠ w.heap.size + 1 + 1 + 1 + 1 + 1 by omega) hS
  replace HB := hide (kp.bel (by omega) (unhide HB))
  replace H4 := hide (kp.blk (by omega) (unhide H4))
  replace HR3 := hide (kp.row (fun x hx => by have := unhide HN3 x hx; omega) (unhide HR3))
  replace HR4 := hide (kp.row (fun x hx => by have := unhide HN4 x hx; omega) (unhide HR4))
  replace H5 := hide k7
  clear kp k7 hS
  refine ⟨hSA, ?_⟩
  have hS := hSA
  clear hSA
  refine anyH_assign (v := .int .i64 m) (i := 9) (by kernel_rfl) rfl rfl _ rfl (by kernel_rfl) hS ?_
  refine anyH_assign (v := .int .i64 e) (i := 10) (by kernel_rfl) rfl rfl _ rfl (by kernel_rfl) hS ?_
  refine wpAnyH_done (by kernel_rfl) ?_ _
  replace hS := hide hS
  go_wp2_with fail
  have k63 : ∀ x, a3 = some x → w.heap.size ≤ x.block := fun x hx => by have := unhide HN3 x hx; omega
  have k64 : ∀ x, a4 = some x → w.heap.size ≤ x.block := fun x hx => by have := unhide HN4 x hx; omega
  exact bodyPost_ret (v := .tuple #[.agg (lnA K (.slice a3 n3 c3)), .agg (lnA M (.slice a4 n4 c4)), .int .i64 m, .int .i64 e]) (res_cctt (fn := Try.f43) (s0 := 8) (s1 := 9) (t2 := 10) (t3 := 11) (v2 := .int .i64 m) (v3 := .int .i64 e) (by kernel_rfl) (show Blk _ _ _ _ from unhide H4) row53 size53 rfl (by kernel_rfl) (show Blk _ _ _ _ from unhide H5) row53 size53 rfl (by kernel_rfl) (by kernel_rfl) rfl) rfl ⟨a3, c3, a4, c4, rfl, unhide HR3, unhide HS3, k63, unhide HR4, unhide HS4, k64, unhide HB⟩
theorem NewE.only {id out : Int} {l : List Int} {r e s f : Int} (h : NewE id out l r e) (k : NewE id out l s f) : r = s ∧ e = f := by
  rcases h with ⟨h1, h2, h3⟩ | ⟨h1, h⟩ <;> rcases k with ⟨k1, k2, k3⟩ | ⟨k1, k⟩
  · exact ⟨h2.trans k2.symm, h3.trans k3.symm⟩
  · rw [h1] at k1; cases k1
  · rw [h1] at k1; cases k1
  · exact h.only k
def RplR (L : Ln) (l : List Int) (id fair : Int) (fl : List Int) (K M : Ln) (l3 l4 : List Int) (m e : Int) : Prop := (e ≠ 0 ∧ K = zL0 ∧ M = zL0 ∧ l3 = [] ∧ l4 = [] ∧ m = 0) ∨ (e = 0 ∧ rightB L l = true ∧ L.st = 1 ∧ rightB (goneK L) [] = true ∧ ∃ r, NewE id fair fl r 0 ∧ K = goneK L ∧ M = newK id fair r ∧ l3 = [] ∧ l4 = fl ∧ m = fair - L.gr)
theorem rpl_zero {w w2 : World} {z : Ending} {e : Int} (hz : z = .returned (.tuple #[.agg #[.int .i64 0, .int .i64 0, .int .i64 0, .int .i64 0, .int .i64 0, .int .i64 0, .int .i64 0, .int .i64 0, .int .i64 0, .int .i64 0, .int .i64 0, .int .i64 0, .slice none 0 0, .int .i64 0, .int .i64 0, .int .i64 0, .int .i64 0, .int .i64 0, .int .i64 0, .int .i64 0, .int .i64 0, .int .i64 0, .int .i64 0, .int .i64 0, .int .i64 0, .slice none 0 0, .int .i64 0], .int .i64 e]) ∧ Below w.heap.size w w2) : (fun z w2 => ∃ a3 c3 a4 c4, z = .returned (.tuple #[.agg #[.int .i64 zL0.id, .int .i64 zL0.st, .int .i64 zL0.be, .int .i64 zL0.out, .int .i64 zL0.rt, .int .i64 zL0.gr, .int .i64 zL0.due, .int .i64 zL0.inc, .int .i64 zL0.got, .int .i64 zL0.adj, .int .i64 zL0.wri, .int .i64 zL0.rcv, .slice a3 0 c3, .int .i64 zL0.id, .int .i64 zL0.st, .int .i64 zL0.be, .int .i64 zL0.out, .int .i64 zL0.rt, .int .i64 zL0.gr, .int .i64 zL0.due, .int .i64 zL0.inc, .int .i64 zL0.got, .int .i64 zL0.adj, .int .i64 zL0.wri, .int .i64 zL0.rcv, .slice a4 0 c4, .int .i64 0], .int .i64 e]) ∧ Row w2 (.slice a3 0 c3) [] ∧ Sl a3 0 c3 ∧ (∀ x, a3 = some x → w.heap.size ≤ x.block) ∧ Row w2 (.slice a4 0 c4) [] ∧ Sl a4 0 c4 ∧ (∀ x, a4 = some x → w.heap.size ≤ x.block) ∧ Below w.heap.size w w2) z w2 := ⟨none, 0, none, 0, hz.1, .inl ⟨none, 0, rfl, rfl⟩, Sl.nil, fun x hx => (nomatch hx), .inl ⟨none, 0, rfl, rfl⟩, Sl.nil, fun x hx => (nomatch hx), hz.2⟩
theorem new_yes {r : Int} {a2 : Option Addr} {n2 c2 : Nat} {id fair : Int} {fl : List Int} {w : World} (hf : In64 fair) (hF : Row w (.slice a2 n2 c2) fl) (hS : Sl a2 n2 c2) (hl : fl.length ≤ 1000000) (hN : NewE id fair fl r 0) : Hid (∀ W, Below w.heap.size w W → Calls (Tri Try.prog) 27 #[.int .i64 id, .int .i64 fair, .slice a2 n2 c2] W fun z w2 => ∃ a4 c4, z = .returned (.tuple #[.agg (lnA (newK id fair r) (.slice a4 fl.length c4)), .int .i64 0]) ∧ Row w2 (.slice a4 fl.length c4) fl ∧ Sl a4 fl.length c4 ∧ (∀ x, a4 = some x → W.heap.size ≤ x.block) ∧ Below W.heap.size W w2) := hide (fun W hb => (new_any hf (hF.below hb (Nat.le_refl _)) hS hl).mono (fun z w2 ⟨r', e', h1, h2, h3⟩ => by
  obtain ⟨rfl, rfl⟩ := hN.only h1
  rcases h2 with ⟨c, _⟩ | ⟨_, a', c', p1, p2, p3, p4⟩
  · exact absurd rfl c
  · exact ⟨a', c', p1, p2, p3, p4, h3⟩))
theorem new_no {r e : Int} {a2 : Option Addr} {n2 c2 : Nat} {id fair : Int} {fl : List Int} {w : World} (hf : In64 fair) (hF : Row w (.slice a2 n2 c2) fl) (hS : Sl a2 n2 c2) (hl : fl.length ≤ 1000000) (hN : NewE id fair fl r e) (he : e ≠ 0) : Hid (∀ W, Below w.heap.size w W → Calls (Tri Try.prog) 27 #[.int .i64 id, .int .i64 fair, .slice a2 n2 c2] W fun z w2 => z = .returned (.tuple #[.agg lnZ, .int .i64 e]) ∧ Below W.heap.size W w2) := hide (fun W hb => (new_any hf (hF.below hb (Nat.le_refl _)) hS hl).mono (fun z w2 ⟨r', e', h1, h2, h3⟩ => by
  obtain ⟨rfl, rfl⟩ := hN.only h1
  rcases h2 with ⟨_, p⟩ | ⟨c, _⟩
  · exact ⟨p, h3⟩
  · exact absurd c he))
theorem new_none {e : Int} {a2 : Option Addr} {n2 c2 : Nat} {id fair : Int} {fl : List Int} {w : World} (hf : In64 fair) (hF : Row w (.slice a2 n2 c2) fl) (hS : Sl a2 n2 c2) (hl : fl.length ≤ 1000000) (hN : ∀ r e, ¬ NewE id fair fl r e) : Hid (∀ W, Below w.heap.size w W → Calls (Tri Try.prog) 27 #[.int .i64 id, .int .i64 fair, .slice a2 n2 c2] W fun z w2 => z = .returned (.tuple #[.agg lnZ, .int .i64 e]) ∧ Below W.heap.size W w2) := hide (fun W hb => (new_any hf (hF.below hb (Nat.le_refl _)) hS hl).mono (fun z w2 ⟨r', e', h1, h2, h3⟩ => absurd h1 (hN r' e')))
theorem out_0 {L : Ln} {a a2 : Option Addr} {n c n2 c2 : Nat} {id fair : Int} {l fl : List Int} {w : World} (hR : Row w (.slice a n c) l) (t : ¬ rightB L l = true) : Calls (Tri Try.prog) 43 #[.agg (lnA L (.slice a n c)), .int .i64 id, .int .i64 fair, .slice a2 n2 c2] w fun z w2 => ∃ a3 c3 a4 c4, z = .returned (.tuple #[.agg (lnA zL0 (.slice a3 0 c3)), .agg (lnA zL0 (.slice a4 0 c4)), .int .i64 0, .int .i64 2]) ∧ Row w2 (.slice a3 0 c3) [] ∧ Sl a3 0 c3 ∧ (∀ x, a3 = some x → w.heap.size ≤ x.block) ∧ Row w2 (.slice a4 0 c4) [] ∧ Sl a4 0 c4 ∧ (∀ x, a4 = some x → w.heap.size ≤ x.block) ∧ Below w.heap.size w w2 :=
  out_43 (hide (fun W cb fb0 fb1 fb2 hb hBk h1 h2 h3 => by
    have e0 : Hid (∀ W', Below W.heap.size W W' → Calls (Tri Try.prog) 92 #[.agg (lnA L (.slice a n c))] W' fun z w2 => z = .returned (.int .i64 (rtE L l)) ∧ Below W'.heap.size W' w2) := hide (fun W' hb' => isr_any ((hR.below hb (Nat.le_refl _)).below hb' (Nat.le_refl _)))
    have e1 : Hid (∀ W', Below W.heap.size W W' → Calls (Tri Try.prog) 93 #[.agg (lnA L (.slice a n c))] W' fun z w2 => z = .returned (.int .i64 (lvE L)) ∧ Below W'.heap.size W' w2) := hide (fun W' hb' => isl_any L _ W')
    have r0 : rtE L l = 2 := if_neg t
    rw [r0] at e0
    exact (rp_0 (mb := 0) hBk e0 rfl).mono fun z w2 h => rpl_zero h))
theorem out_1 {L : Ln} {a a2 : Option Addr} {n c n2 c2 : Nat} {id fair : Int} {l fl : List Int} {w : World} (hR : Row w (.slice a n c) l) (t : rightB L l = true) (t1 : ¬ L.st = 1) : Calls (Tri Try.prog) 43 #[.agg (lnA L (.slice a n c)), .int .i64 id, .int .i64 fair, .slice a2 n2 c2] w fun z w2 => ∃ a3 c3 a4 c4, z = .returned (.tuple #[.agg (lnA zL0 (.slice a3 0 c3)), .agg (lnA zL0 (.slice a4 0 c4)), .int .i64 0, .int .i64 12]) ∧ Row w2 (.slice a3 0 c3) [] ∧ Sl a3 0 c3 ∧ (∀ x, a3 = some x → w.heap.size ≤ x.block) ∧ Row w2 (.slice a4 0 c4) [] ∧ Sl a4 0 c4 ∧ (∀ x, a4 = some x → w.heap.size ≤ x.block) ∧ Below w.heap.size w w2 :=
  out_43 (hide (fun W cb fb0 fb1 fb2 hb hBk h1 h2 h3 => by
    have e0 : Hid (∀ W', Below W.heap.size W W' → Calls (Tri Try.prog) 92 #[.agg (lnA L (.slice a n c))] W' fun z w2 => z = .returned (.int .i64 (rtE L l)) ∧ Below W'.heap.size W' w2) := hide (fun W' hb' => isr_any ((hR.below hb (Nat.le_refl _)).below hb' (Nat.le_refl _)))
    have e1 : Hid (∀ W', Below W.heap.size W W' → Calls (Tri Try.prog) 93 #[.agg (lnA L (.slice a n c))] W' fun z w2 => z = .returned (.int .i64 (lvE L)) ∧ Below W'.heap.size W' w2) := hide (fun W' hb' => isl_any L _ W')
    have r0 : rtE L l = 0 := if_pos t
    have r1 : lvE L = 12 := if_neg t1
    rw [r1] at e1
    exact (rp_1 (mb := 0) hBk e0 e1 r0 rfl).mono fun z w2 h => rpl_zero h))
theorem out_e {L : Ln} {a a2 : Option Addr} {n c n2 c2 : Nat} {id fair : Int} {l fl : List Int} {w : World} (hR : Row w (.slice a n c) l) (t : rightB L l = true) (t1 : L.st = 1) {e : Int} (he : (e != 0) = true) (HR : Hid (∀ W, Below w.heap.size w W → Calls (Tri Try.prog) 98 #[.agg (lnA L (.slice a n c)), .int .i64 id, .int .i64 fair, .slice a2 n2 c2] W fun z w2 => ∃ a3 c3 a4 c4, z = .returned (.tuple #[.agg #[.int .i64 zL0.id, .int .i64 zL0.st, .int .i64 zL0.be, .int .i64 zL0.out, .int .i64 zL0.rt, .int .i64 zL0.gr, .int .i64 zL0.due, .int .i64 zL0.inc, .int .i64 zL0.got, .int .i64 zL0.adj, .int .i64 zL0.wri, .int .i64 zL0.rcv, .slice a3 0 c3, .int .i64 zL0.id, .int .i64 zL0.st, .int .i64 zL0.be, .int .i64 zL0.out, .int .i64 zL0.rt, .int .i64 zL0.gr, .int .i64 zL0.due, .int .i64 zL0.inc, .int .i64 zL0.got, .int .i64 zL0.adj, .int .i64 zL0.wri, .int .i64 zL0.rcv, .slice a4 0 c4, .int .i64 0], .int .i64 e]) ∧ Row w2 (.slice a3 0 c3) [] ∧ Sl a3 0 c3 ∧ (∀ x, a3 = some x → W.heap.size ≤ x.block) ∧ Row w2 (.slice a4 0 c4) [] ∧ Sl a4 0 c4 ∧ (∀ x, a4 = some x → W.heap.size ≤ x.block) ∧ Below W.heap.size W w2)) : Calls (Tri Try.prog) 43 #[.agg (lnA L (.slice a n c)), .int .i64 id, .int .i64 fair, .slice a2 n2 c2] w fun z w2 => ∃ a3 c3 a4 c4, z = .returned (.tuple #[.agg (lnA zL0 (.slice a3 0 c3)), .agg (lnA zL0 (.slice a4 0 c4)), .int .i64 0, .int .i64 e]) ∧ Row w2 (.slice a3 0 c3) [] ∧ Sl a3 0 c3 ∧ (∀ x, a3 = some x → w.heap.size ≤ x.block) ∧ Row w2 (.slice a4 0 c4) [] ∧ Sl a4 0 c4 ∧ (∀ x, a4 = some x → w.heap.size ≤ x.block) ∧ Below w.heap.size w w2 :=
  out_43 (hide (fun W cb fb0 fb1 fb2 hb hBk h1 h2 h3 => by
    have e0 : Hid (∀ W', Below W.heap.size W W' → Calls (Tri Try.prog) 92 #[.agg (lnA L (.slice a n c))] W' fun z w2 => z = .returned (.int .i64 (rtE L l)) ∧ Below W'.heap.size W' w2) := hide (fun W' hb' => isr_any ((hR.below hb (Nat.le_refl _)).below hb' (Nat.le_refl _)))
    have e1 : Hid (∀ W', Below W.heap.size W W' → Calls (Tri Try.prog) 93 #[.agg (lnA L (.slice a n c))] W' fun z w2 => z = .returned (.int .i64 (lvE L)) ∧ Below W'.heap.size W' w2) := hide (fun W' hb' => isl_any L _ W')
    have r0 : rtE L l = 0 := if_pos t
    have r1 : lvE L = 0 := if_pos t1
    have HD : Hid (∀ W', Below W.heap.size W W' → Calls (Tri Try.prog) 97 #[.agg (lnA L (.slice a n c)), .pointer (some ⟨fb0, 0, none⟩), .pointer (some ⟨fb1, 0, none⟩), .pointer (some ⟨fb2, 0, none⟩)] W' fun z w2 => ∃ a3 c3 a4 c4, z = .returned (.tuple #[.agg #[.int .i64 zL0.id, .int .i64 zL0.st, .int .i64 zL0.be, .int .i64 zL0.out, .int .i64 zL0.rt, .int .i64 zL0.gr, .int .i64 zL0.due, .int .i64 zL0.inc, .int .i64 zL0.got, .int .i64 zL0.adj, .int .i64 zL0.wri, .int .i64 zL0.rcv, .slice a3 0 c3, .int .i64 zL0.id, .int .i64 zL0.st, .int .i64 zL0.be, .int .i64 zL0.out, .int .i64 zL0.rt, .int .i64 zL0.gr, .int .i64 zL0.due, .int .i64 zL0.inc, .int .i64 zL0.got, .int .i64 zL0.adj, .int .i64 zL0.wri, .int .i64 zL0.rcv, .slice a4 0 c4, .int .i64 0], .int .i64 e]) ∧ Row w2 (.slice a3 0 c3) [] ∧ Sl a3 0 c3 ∧ (∀ x, a3 = some x → W'.heap.size ≤ x.block) ∧ Row w2 (.slice a4 0 c4) [] ∧ Sl a4 0 c4 ∧ (∀ x, a4 = some x → W'.heap.size ≤ x.block) ∧ Below W'.heap.size W' w2) := hide (fun W' hb' => clo_97 (hide (fun W2 hb2 => unhide HR W2 (below_via (below_via hb hb') hb2))) ((hb'.cell (p := ⟨_, 0, none⟩) (lt_of_cell h1)).trans h1) ((hb'.cell (p := ⟨_, 0, none⟩) (lt_of_cell h2)).trans h2) ((hb'.cell (p := ⟨_, 0, none⟩) (lt_of_cell h3)).trans h3))
    exact (rp_e (mb := 0) hBk e0 e1 HD r0 r1 he).mono fun z w2 h => rpl_zero h))
theorem out_y {L : Ln} {a a2 : Option Addr} {n c n2 c2 : Nat} {id fair : Int} {l fl : List Int} {w : World} (hR : Row w (.slice a n c) l) (t : rightB L l = true) (t1 : L.st = 1) {r : Int} (HR : Hid (∀ W, Below w.heap.size w W → Calls (Tri Try.prog) 98 #[.agg (lnA L (.slice a n c)), .int .i64 id, .int .i64 fair, .slice a2 n2 c2] W fun z w2 => ∃ a3 c3 a4 c4, z = .returned (.tuple #[.agg #[.int .i64 (goneK L).id, .int .i64 (goneK L).st, .int .i64 (goneK L).be, .int .i64 (goneK L).out, .int .i64 (goneK L).rt, .int .i64 (goneK L).gr, .int .i64 (goneK L).due, .int .i64 (goneK L).inc, .int .i64 (goneK L).got, .int .i64 (goneK L).adj, .int .i64 (goneK L).wri, .int .i64 (goneK L).rcv, .slice a3 0 c3, .int .i64 (newK id fair r).id, .int .i64 (newK id fair r).st, .int .i64 (newK id fair r).be, .int .i64 (newK id fair r).out, .int .i64 (newK id fair r).rt, .int .i64 (newK id fair r).gr, .int .i64 (newK id fair r).due, .int .i64 (newK id fair r).inc, .int .i64 (newK id fair r).got, .int .i64 (newK id fair r).adj, .int .i64 (newK id fair r).wri, .int .i64 (newK id fair r).rcv, .slice a4 fl.length c4, .int .i64 (fair - L.gr)], .int .i64 0]) ∧ Row w2 (.slice a3 0 c3) [] ∧ Sl a3 0 c3 ∧ (∀ x, a3 = some x → W.heap.size ≤ x.block) ∧ Row w2 (.slice a4 fl.length c4) fl ∧ Sl a4 fl.length c4 ∧ (∀ x, a4 = some x → W.heap.size ≤ x.block) ∧ Below W.heap.size W w2)) : Calls (Tri Try.prog) 43 #[.agg (lnA L (.slice a n c)), .int .i64 id, .int .i64 fair, .slice a2 n2 c2] w fun z w2 => ∃ a3 c3 a4 c4, z = .returned (.tuple #[.agg (lnA (goneK L) (.slice a3 0 c3)), .agg (lnA (newK id fair r) (.slice a4 fl.length c4)), .int .i64 (fair - L.gr), .int .i64 0]) ∧ Row w2 (.slice a3 0 c3) [] ∧ Sl a3 0 c3 ∧ (∀ x, a3 = some x → w.heap.size ≤ x.block) ∧ Row w2 (.slice a4 fl.length c4) fl ∧ Sl a4 fl.length c4 ∧ (∀ x, a4 = some x → w.heap.size ≤ x.block) ∧ Below w.heap.size w w2 :=
  out_43 (hide (fun W cb fb0 fb1 fb2 hb hBk h1 h2 h3 => by
    have e0 : Hid (∀ W', Below W.heap.size W W' → Calls (Tri Try.prog) 92 #[.agg (lnA L (.slice a n c))] W' fun z w2 => z = .returned (.int .i64 (rtE L l)) ∧ Below W'.heap.size W' w2) := hide (fun W' hb' => isr_any ((hR.below hb (Nat.le_refl _)).below hb' (Nat.le_refl _)))
    have e1 : Hid (∀ W', Below W.heap.size W W' → Calls (Tri Try.prog) 93 #[.agg (lnA L (.slice a n c))] W' fun z w2 => z = .returned (.int .i64 (lvE L)) ∧ Below W'.heap.size W' w2) := hide (fun W' hb' => isl_any L _ W')
    have r0 : rtE L l = 0 := if_pos t
    have r1 : lvE L = 0 := if_pos t1
    have HD : Hid (∀ W', Below W.heap.size W W' → Calls (Tri Try.prog) 97 #[.agg (lnA L (.slice a n c)), .pointer (some ⟨fb0, 0, none⟩), .pointer (some ⟨fb1, 0, none⟩), .pointer (some ⟨fb2, 0, none⟩)] W' fun z w2 => ∃ a3 c3 a4 c4, z = .returned (.tuple #[.agg #[.int .i64 (goneK L).id, .int .i64 (goneK L).st, .int .i64 (goneK L).be, .int .i64 (goneK L).out, .int .i64 (goneK L).rt, .int .i64 (goneK L).gr, .int .i64 (goneK L).due, .int .i64 (goneK L).inc, .int .i64 (goneK L).got, .int .i64 (goneK L).adj, .int .i64 (goneK L).wri, .int .i64 (goneK L).rcv, .slice a3 0 c3, .int .i64 (newK id fair r).id, .int .i64 (newK id fair r).st, .int .i64 (newK id fair r).be, .int .i64 (newK id fair r).out, .int .i64 (newK id fair r).rt, .int .i64 (newK id fair r).gr, .int .i64 (newK id fair r).due, .int .i64 (newK id fair r).inc, .int .i64 (newK id fair r).got, .int .i64 (newK id fair r).adj, .int .i64 (newK id fair r).wri, .int .i64 (newK id fair r).rcv, .slice a4 fl.length c4, .int .i64 (fair - L.gr)], .int .i64 0]) ∧ Row w2 (.slice a3 0 c3) [] ∧ Sl a3 0 c3 ∧ (∀ x, a3 = some x → W'.heap.size ≤ x.block) ∧ Row w2 (.slice a4 fl.length c4) fl ∧ Sl a4 fl.length c4 ∧ (∀ x, a4 = some x → W'.heap.size ≤ x.block) ∧ Below W'.heap.size W' w2) := hide (fun W' hb' => clo_97 (hide (fun W2 hb2 => unhide HR W2 (below_via (below_via hb hb') hb2))) ((hb'.cell (p := ⟨_, 0, none⟩) (lt_of_cell h1)).trans h1) ((hb'.cell (p := ⟨_, 0, none⟩) (lt_of_cell h2)).trans h2) ((hb'.cell (p := ⟨_, 0, none⟩) (lt_of_cell h3)).trans h3))
    exact rp_y (mb := 0) hBk e0 e1 HD r0 r1 rfl))
theorem new_fair {id fair : Int} {fl : List Int} {r : Int} (h : NewE id fair fl r 0) : 0 ≤ fair ∧ fair ≤ 10000000000000 := by
  rcases h with ⟨_, _, h⟩ | ⟨hi, h⟩
  · cases h
  rcases h with ⟨_, _, h⟩ | ⟨hm, _⟩
  · cases h
  have hs := maySo_yes hm
  have h1 := hs.lo
  have h2 := hs.hi
  exact ⟨by omega, by omega⟩
theorem replace_any {L : Ln} {a a2 : Option Addr} {n c n2 c2 : Nat} {id fair : Int} {l fl : List Int} {w : World} (hR : Row w (.slice a n c) l) (hf : In64 fair) (hF : Row w (.slice a2 n2 c2) fl) (hS : Sl a2 n2 c2) (hl : fl.length ≤ 1000000) : Calls (Tri Try.prog) 43 #[.agg (lnA L (.slice a n c)), .int .i64 id, .int .i64 fair, .slice a2 n2 c2] w fun z w2 => ∃ K M l3 l4 m e, RplR L l id fair fl K M l3 l4 m e ∧ ∃ a3 c3 a4 c4, z = .returned (.tuple #[.agg (lnA K (.slice a3 l3.length c3)), .agg (lnA M (.slice a4 l4.length c4)), .int .i64 m, .int .i64 e]) ∧ Row w2 (.slice a3 l3.length c3) l3 ∧ Sl a3 l3.length c3 ∧ Row w2 (.slice a4 l4.length c4) l4 ∧ Sl a4 l4.length c4 ∧ Below w.heap.size w w2 := by
  by_cases t : rightB L l = true
  case neg => exact (out_0 (fl := fl) hR t).mono (fun z w2 ⟨a3, c3, a4, c4, p1, p2, p3, _, p4, p5, _, p6⟩ => ⟨zL0, zL0, [], [], 0, _, .inl ⟨by decide, rfl, rfl, rfl, rfl, rfl⟩, a3, c3, a4, c4, p1, p2, p3, p4, p5, p6⟩)
  by_cases t1 : L.st = 1
  case neg => exact (out_1 (fl := fl) hR t t1).mono (fun z w2 ⟨a3, c3, a4, c4, p1, p2, p3, _, p4, p5, _, p6⟩ => ⟨zL0, zL0, [], [], 0, _, .inl ⟨by decide, rfl, rfl, rfl, rfl, rfl⟩, a3, c3, a4, c4, p1, p2, p3, p4, p5, p6⟩)
  obtain ⟨b1, b2, b3, b4, _⟩ := rt_bd t
  by_cases hN : ∃ r, NewE id fair fl r 0
  · obtain ⟨r, hN⟩ := hN
    have HA : Hid (∀ W, Calls (Tri Try.prog) 130 #[.agg (lnA L (.slice a n c)), .int .i64 0, .slice none 0 0] W fun z w2 => ∃ a3 c3, z = .returned (.agg (lnA (adjK L 0) (.slice a3 0 c3))) ∧ Row w2 (.slice a3 0 c3) [] ∧ Sl a3 0 c3 ∧ (∀ x, a3 = some x → W.heap.size ≤ x.block) ∧ Below W.heap.size W w2) := hide (fun W => adj_any (fl := []) b1 b2 b3 b4 (by decide) (by decide) (.inl ⟨none, 0, rfl, rfl⟩) Sl.nil (by decide))
    by_cases t2 : rightB (goneK L) [] = true
    · have HI : Hid (∀ W a c, Row W (.slice a 0 c) [] → Calls (Tri Try.prog) 31 #[.agg (lnA (goneK L) (.slice a 0 c))] W fun z w2 => z = .returned (.bool true) ∧ Below W.heap.size W w2) := hide (fun W a c h => by
        have k := right_any (goneK L) a 0 c [] W h
        unfold Tells at k
        rw [t2] at k
        exact k)
      obtain ⟨f1, f2⟩ := new_fair hN
      refine (out_y hR t t1 (r := r) (hide (fun W hb => rep_y (hide (fun W2 hb2 => unhide (new_yes hf hF hS hl hN) W2 (below_via hb hb2))) HA HI b3 b4 f1 f2))).mono ?_
      rintro z w2 ⟨a3, c3, a4, c4, p1, p2, p3, _, p4, p5, _, p6⟩
      exact ⟨goneK L, newK id fair r, [], fl, _, 0, .inr ⟨rfl, t, t1, t2, r, hN, rfl, rfl, rfl, rfl, rfl⟩, a3, c3, a4, c4, p1, p2, p3, p4, p5, p6⟩
    · have HI : Hid (∀ W a c, Row W (.slice a 0 c) [] → Calls (Tri Try.prog) 31 #[.agg (lnA (goneK L) (.slice a 0 c))] W fun z w2 => z = .returned (.bool false) ∧ Below W.heap.size W w2) := hide (fun W a c h => by
        have k := right_any (goneK L) a 0 c [] W h
        unfold Tells at k
        rw [Bool.eq_false_iff.2 t2] at k
        exact k)
      exact (out_e (fl := fl) hR t t1 (e := 3) rfl (hide (fun W hb => (rep_o (hide (fun W2 hb2 => unhide (new_yes hf hF hS hl hN) W2 (below_via hb hb2))) HA HI).mono fun z w2 h => rpl_zero h))).mono (fun z w2 ⟨a3, c3, a4, c4, p1, p2, p3, _, p4, p5, _, p6⟩ => ⟨zL0, zL0, [], [], 0, _, .inl ⟨by decide, rfl, rfl, rfl, rfl, rfl⟩, a3, c3, a4, c4, p1, p2, p3, p4, p5, p6⟩)
  · by_cases hN2 : ∃ r e, NewE id fair fl r e
    · obtain ⟨r, e, h2⟩ := hN2
      have he : e ≠ 0 := fun c => hN ⟨r, c ▸ h2⟩
      exact (out_e (fl := fl) hR t t1 (e := e) (by simpa using he) (hide (fun W hb => (rep_e (hide (fun W2 hb2 => unhide (new_no hf hF hS hl h2 he) W2 (below_via hb hb2))) (by simpa using he)).mono fun z w2 h => rpl_zero h))).mono (fun z w2 ⟨a3, c3, a4, c4, p1, p2, p3, _, p4, p5, _, p6⟩ => ⟨zL0, zL0, [], [], 0, _, .inl ⟨he, rfl, rfl, rfl, rfl, rfl⟩, a3, c3, a4, c4, p1, p2, p3, p4, p5, p6⟩)
    · exact (out_e (fl := fl) hR t t1 (e := 2) rfl (hide (fun W hb => (rep_e (hide (fun W2 hb2 => unhide (new_none hf hF hS hl (fun r e h => hN2 ⟨r, e, h⟩)) W2 (below_via hb hb2))) rfl).mono fun z w2 h => rpl_zero h))).mono (fun z w2 ⟨a3, c3, a4, c4, p1, p2, p3, _, p4, p5, _, p6⟩ => ⟨zL0, zL0, [], [], 0, _, .inl ⟨by decide, rfl, rfl, rfl, rfl, rfl⟩, a3, c3, a4, c4, p1, p2, p3, p4, p5, p6⟩)
end Go.Proofs.Ytpeoabopeihadaa.Mn
