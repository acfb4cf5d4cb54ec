/- ReviseEven (lone). -/
import Derived.Test.YtpeoabopeihadaaZT
import Derived.Test.YtpeoabopeihadaaZQ
set_option linter.unusedVariables false
set_option linter.unusedSimpArgs false
set_option linter.unusedSectionVars false
namespace Go.Proofs.Ytpeoabopeihadaa.Mn
open Go.RowKit
attribute [local simp] Tri.typeInfo Tri.sizeOf Tri.underlying Tri.runUnderlying Tri.isAgg Tri.zeroValue Tri.depth Tri.stoodInHeld Tri.eqGuardType Tri.call15 Tri.call27 Tri.call31 Tri.call32 Tri.call38 Tri.call39 Tri.call40 Tri.call41 Tri.call43 Tri.call45 Tri.call46 Tri.call49 Tri.call52 Tri.call54 Tri.call65 Tri.call69 Tri.call70 Tri.call72 Tri.call73 Tri.call74 Tri.call75 Tri.call89 Tri.call90 Tri.call91 Tri.call92 Tri.call93 Tri.call94 Tri.call95 Tri.call96 Tri.call97 Tri.call98 Tri.call102 Tri.call103 Tri.call104 Tri.call106 Tri.call116 Tri.call117 Tri.call118 Tri.call119 Tri.call120 Tri.call122 Tri.call126 Tri.call130 Tri.call131 Tri.call132 Tri.call143 Tri.call144 Tri.call145 Tri.call146 Tri.call147 Tri.call156 Tri.call157 Tri.call159 Tri.call160 Tri.call161 Tri.call162 Tri.call163 Tri.call164 Tri.call165 Tri.call175 Tri.call176 Tri.call186 Tri.call188 Tri.call205
theorem row81 : isRowB (Tri Try.prog) 81 = true := by kernel_rfl
theorem size81 : ((Tri Try.prog).info? 81).map (·.size) = some 16 := by kernel_rfl
def EvenL (w : World) (L : Ln) (a a2 : Option Addr) (n c n2 c2 : Nat) (id fair : Int) : Prop := Calls (Tri Try.prog) 13 #[.agg #[.int .i64 L.id, .int .i64 L.st, .int .i64 L.be, .int .i64 L.out, .int .i64 L.rt, .int .i64 L.gr, .int .i64 L.due, .int .i64 L.inc, .int .i64 L.got, .int .i64 L.adj, .int .i64 L.wri, .int .i64 L.rcv, .slice a n c, .slice a2 n2 c2, .int .i64 id, .int .i64 fair]] w fun z w' => z = .returned (.bool true) ∧ Below w.heap.size w w'
set_option maxHeartbeats 4000000 in
theorem even_great {L : Ln} {a a2 : Option Addr} {n c n2 c2 : Nat} {id fair : Int} {l fl : List Int} {w : World} (hR : Row w (.slice a n c) l) (hF : Row w (.slice a2 n2 c2) fl) (hg : (decide (700 < n) || decide (60 < n2)) = true) : EvenL w L a a2 n c n2 c2 id fair := by
  unfold EvenL
  have HB := hide (below1L w (.cells #[.int .i64 L.id, .int .i64 L.st, .int .i64 L.be, .int .i64 L.out, .int .i64 L.rt, .int .i64 L.gr, .int .i64 L.due, .int .i64 L.inc, .int .i64 L.got, .int .i64 L.adj, .int .i64 L.wri, .int .i64 L.rcv, .slice a n c, .slice a2 n2 c2, .int .i64 id, .int .i64 fair] 81))
  have HQ := hide (Blk.new w #[.int .i64 L.id, .int .i64 L.st, .int .i64 L.be, .int .i64 L.out, .int .i64 L.rt, .int .i64 L.gr, .int .i64 L.due, .int .i64 L.inc, .int .i64 L.got, .int .i64 L.adj, .int .i64 L.wri, .int .i64 L.rcv, .slice a n c, .slice a2 n2 c2, .int .i64 id, .int .i64 fair] 81)
  have HR := hide (hR.alloc (.cells #[.int .i64 L.id, .int .i64 L.st, .int .i64 L.be, .int .i64 L.out, .int .i64 L.rt, .int .i64 L.gr, .int .i64 L.due, .int .i64 L.inc, .int .i64 L.got, .int .i64 L.adj, .int .i64 L.wri, .int .i64 L.rcv, .slice a n c, .slice a2 n2 c2, .int .i64 id, .int .i64 fair] 81))
  have HF := hide (hF.alloc (.cells #[.int .i64 L.id, .int .i64 L.st, .int .i64 L.be, .int .i64 L.out, .int .i64 L.rt, .int .i64 L.gr, .int .i64 L.due, .int .i64 L.inc, .int .i64 L.got, .int .i64 L.adj, .int .i64 L.wri, .int .i64 L.rcv, .slice a n c, .slice a2 n2 c2, .int .i64 id, .int .i64 fair] 81))
  have HA := hide (aliveR (w.alloc (.cells #[.int .i64 L.id, .int .i64 L.st, .int .i64 L.be, .int .i64 L.out, .int .i64 L.rt, .int .i64 L.gr, .int .i64 L.due, .int .i64 L.inc, .int .i64 L.got, .int .i64 L.adj, .int .i64 L.wri, .int .i64 L.rcv, .slice a n c, .slice a2 n2 c2, .int .i64 id, .int .i64 fair] 81)))
  have HG := hide (fun W => great_any L a a2 n c n2 c2 id fair _ rfl W)
  go_enter (Tri.at (by decide) Try.func13), Try.ntmps13
  go_wp2_with fail
  refine (unhide HA).mono ?_
  rintro z w1 ⟨rfl, hb⟩
  replace HB := hide (below_via (unhide HB) hb)
  replace HQ := hide ((show Blk _ _ _ _ from unhide HQ).keep hb)
  replace HR := hide ((unhide HR).below hb (Nat.le_refl _))
  replace HF := hide ((unhide HF).below hb (Nat.le_refl _))
  clear hb HA
  go_wp2_with (refine load_blk rfl 81 _ rfl (show Blk _ _ _ _ from unhide HQ) rfl row81 size81 rfl ?_)
  refine (unhide HG _).mono ?_
  rintro z w2 ⟨rfl, hb⟩
  replace HB := hide (below_via (unhide HB) hb)
  replace HQ := hide ((show Blk _ _ _ _ from unhide HQ).keep hb)
  replace HR := hide ((unhide HR).below hb (Nat.le_refl _))
  replace HF := hide ((unhide HF).below hb (Nat.le_refl _))
  clear hb HG
  rw [hg]
  clear hg
  go_wp2_with fail
  go_ret
  exact ⟨rfl, unhide HB⟩
theorem apB_same {N : Int} (h : 1 ≤ N) : apB N N = false := by
  unfold apB
  simp
  omega
theorem Caught.tested {L : Ln} {fl : List Int} {K : Ln} {N : Int} (h : Caught L fl K N) : tsE K fl fl = 0 ∧ tsN K fl fl = K.gr ∧ tsB K fl fl = false := by
  have e1 : K.rt = L.rt := by rw [h.hK]; rfl
  have e2 : K.st = 1 := by rw [h.hK]; exact h.st
  have e4 : K.gr = N := by rw [h.hK]; rfl
  have vE : valE 1 fl K.rt = 0 := by rw [e1]; exact h.vE
  have vN : valN 1 fl K.rt = N := by rw [e1]; exact h.vN
  have hp : preE K fl fl = 0 := by unfold preE; rw [if_pos h.rt, if_pos e2]; exact h.co
  have h0 : tsE K fl fl = 0 := by unfold tsE; rw [if_pos hp]; exact vE
  refine ⟨h0, ?_, ?_⟩
  · unfold tsN; rw [if_pos h0, vN, e4]
  · unfold tsB; rw [vN, e4, apB_same h.lb, Bool.and_false]
theorem even_gain {L : Ln} {l : List Int} {id : Int} {fl : List Int} {K M : Ln} {l3 l4 : List Int} {m e : Int} (h : RplR L l id L.gr fl K M l3 l4 m e) : m = 0 := by
  rcases h with ⟨_, _, _, _, _, h⟩ | ⟨_, _, _, _, r, _, _, _, _, _, h⟩
  · exact h
  · rw [h]; omega
set_option maxHeartbeats 4000000 in
theorem even_no {L : Ln} {a a2 : Option Addr} {n c n2 c2 : Nat} {id fair : Int} {l fl : List Int} {w : World} (hR : Row w (.slice a n c) l) (hS : Sl a n c) (hF : Row w (.slice a2 n2 c2) fl) (hS2 : Sl a2 n2 c2) (hl : l.length ≤ 700) (hl2 : fl.length ≤ 60) (hg : (decide (700 < n) || decide (60 < n2)) = false) (hgr : In64 L.gr) (he : ¬ cuE L l fl = 0) : EvenL w L a a2 n c n2 c2 id fair := by
  unfold EvenL
  have HB := hide (below1L w (.cells #[.int .i64 L.id, .int .i64 L.st, .int .i64 L.be, .int .i64 L.out, .int .i64 L.rt, .int .i64 L.gr, .int .i64 L.due, .int .i64 L.inc, .int .i64 L.got, .int .i64 L.adj, .int .i64 L.wri, .int .i64 L.rcv, .slice a n c, .slice a2 n2 c2, .int .i64 id, .int .i64 fair] 81))
  have HQ := hide (Blk.new w #[.int .i64 L.id, .int .i64 L.st, .int .i64 L.be, .int .i64 L.out, .int .i64 L.rt, .int .i64 L.gr, .int .i64 L.due, .int .i64 L.inc, .int .i64 L.got, .int .i64 L.adj, .int .i64 L.wri, .int .i64 L.rcv, .slice a n c, .slice a2 n2 c2, .int .i64 id, .int .i64 fair] 81)
  have HR := hide (hR.alloc (.cells #[.int .i64 L.id, .int .i64 L.st, .int .i64 L.be, .int .i64 L.out, .int .i64 L.rt, .int .i64 L.gr, .int .i64 L.due, .int .i64 L.inc, .int .i64 L.got, .int .i64 L.adj, .int .i64 L.wri, .int .i64 L.rcv, .slice a n c, .slice a2 n2 c2, .int .i64 id, .int .i64 fair] 81))
  have HF := hide (hF.alloc (.cells #[.int .i64 L.id, .int .i64 L.st, .int .i64 L.be, .int .i64 L.out, .int .i64 L.rt, .int .i64 L.gr, .int .i64 L.due, .int .i64 L.inc, .int .i64 L.got, .int .i64 L.adj, .int .i64 L.wri, .int .i64 L.rcv, .slice a n c, .slice a2 n2 c2, .int .i64 id, .int .i64 fair] 81))
  have HA := hide (aliveR (w.alloc (.cells #[.int .i64 L.id, .int .i64 L.st, .int .i64 L.be, .int .i64 L.out, .int .i64 L.rt, .int .i64 L.gr, .int .i64 L.due, .int .i64 L.inc, .int .i64 L.got, .int .i64 L.adj, .int .i64 L.wri, .int .i64 L.rcv, .slice a n c, .slice a2 n2 c2, .int .i64 id, .int .i64 fair] 81)))
  have HG := hide (fun W => great_any L a a2 n c n2 c2 id fair _ rfl W)
  go_enter (Tri.at (by decide) Try.func13), Try.ntmps13
  go_wp2_with fail
  refine (unhide HA).mono ?_
  rintro z w1 ⟨rfl, hb⟩
  replace HB := hide (below_via (unhide HB) hb)
  replace HQ := hide ((show Blk _ _ _ _ from unhide HQ).keep hb)
  replace HR := hide ((unhide HR).below hb (Nat.le_refl _))
  replace HF := hide ((unhide HF).below hb (Nat.le_refl _))
  clear hb HA
  go_wp2_with (refine load_blk rfl 81 _ rfl (show Blk _ _ _ _ from unhide HQ) rfl row81 size81 rfl ?_)
  refine (unhide HG _).mono ?_
  rintro z w2 ⟨rfl, hb⟩
  replace HB := hide (below_via (unhide HB) hb)
  replace HQ := hide ((show Blk _ _ _ _ from unhide HQ).keep hb)
  replace HR := hide ((unhide HR).below hb (Nat.le_refl _))
  replace HF := hide ((unhide HF).below hb (Nat.le_refl _))
  clear hb HG
  rw [hg]
  clear hg
  have HT := hide (to_any (L := L) (unhide HR) hS (by omega))
  clear hS
  have HS2 := hide hS2
  clear hS2
  have q0 := (show Blk _ _ _ _ from unhide HQ).at 0 (.int .i64 L.id) rfl
  have q1 := (show Blk _ _ _ _ from unhide HQ).at 1 (.int .i64 L.st) rfl
  have q2 := (show Blk _ _ _ _ from unhide HQ).at 2 (.int .i64 L.be) rfl
  have q3 := (show Blk _ _ _ _ from unhide HQ).at 3 (.int .i64 L.out) rfl
  have q4 := (show Blk _ _ _ _ from unhide HQ).at 4 (.int .i64 L.rt) rfl
  have q5 := (show Blk _ _ _ _ from unhide HQ).at 5 (.int .i64 L.gr) rfl
  have q6 := (show Blk _ _ _ _ from unhide HQ).at 6 (.int .i64 L.due) rfl
  have q7 := (show Blk _ _ _ _ from unhide HQ).at 7 (.int .i64 L.inc) rfl
  have q8 := (show Blk _ _ _ _ from unhide HQ).at 8 (.int .i64 L.got) rfl
  have q9 := (show Blk _ _ _ _ from unhide HQ).at 9 (.int .i64 L.adj) rfl
  have q10 := (show Blk _ _ _ _ from unhide HQ).at 10 (.int .i64 L.wri) rfl
  have q11 := (show Blk _ _ _ _ from unhide HQ).at 11 (.int .i64 L.rcv) rfl
  have q12 := (show Blk _ _ _ _ from unhide HQ).at 12 (.slice a n c) rfl
  go_wp2_with fail
  refine (unhide HT).mono ?_
  rintro z w3 ⟨a3, c3, rfl, hr, hs, hf, hb⟩
  replace HB := hide (below_via (unhide HB) hb)
  replace HQ := hide ((show Blk _ _ _ _ from unhide HQ).keep hb)
  replace HF := hide ((unhide HF).below hb (Nat.le_refl _))
  clear q0 q1 q2 q3 q4 q5 q6 q7 q8 q9 q10 q11 q12 HT HR
  have HL := hide (Blk.new w3 (lnA L (.slice a3 l.length c3)) 53)
  have HRl := hide (hr.alloc (.cells (lnA L (.slice a3 l.length c3)) 53))
  replace HF := hide ((unhide HF).alloc (.cells (lnA L (.slice a3 l.length c3)) 53))
  replace HQ := hide ((show Blk _ _ _ _ from unhide HQ).alloc (.cells (lnA L (.slice a3 l.length c3)) 53))
  replace HB := hide (below_via (unhide HB) (below1L w3 (.cells (lnA L (.slice a3 l.length c3)) 53)))
  clear hb hr hs hf
  generalize hU : w3.alloc (.cells (lnA L (.slice a3 l.length c3)) 53) = U3 at HL HRl HF HQ HB
  have HP := hide (replace_any (L := L) (l := l) (fl := fl) (id := id) (fair := L.gr) (unhide HRl) hgr (unhide HF) (unhide HS2) (by omega))
  have HCu : Hid (∀ W, Row W (.slice a3 l.length c3) l → Row W (.slice a2 n2 c2) fl → Calls (Tri Try.prog) 40 #[.agg (lnA L (.slice a3 l.length c3)), .slice a2 n2 c2] W fun z w2 => ∃ a6 c6, z = .returned (.tuple #[.agg (lnA (cuK L l fl) (.slice a6 (cuL L l fl).length c6)), .int .i64 (cuM L l fl), .int .i64 (cuE L l fl)]) ∧ Row w2 (.slice a6 (cuL L l fl).length c6) (cuL L l fl) ∧ Below W.heap.size W w2) := hide (fun W h1 h2 => (catchup_any h1 h2 (unhide HS2) (by omega)).mono fun z w2 ⟨a6, c6, p1, p2, _, _, p5⟩ => ⟨a6, c6, p1, p2, p5⟩)
  clear hl hl2 hgr HS2
  have q13 := (show Blk _ _ _ _ from unhide HQ).at 13 (.slice a2 n2 c2) rfl
  have q14 := (show Blk _ _ _ _ from unhide HQ).at 14 (.int .i64 id) rfl
  have r5 := (show Blk _ _ _ _ from unhide HL).at 5 (.int .i64 L.gr) rfl
  go_wp2_with (refine load_blk rfl 53 _ rfl (show Blk _ _ _ _ from unhide HL) rfl row53 size53 rfl ?_)
  clear hU
  refine (unhide HP).mono ?_
  rintro z w4 ⟨K9, M9, l9, l8, m9, e9, hrp, a9, c9, a8, c8, rfl, _, _, _, _, hb⟩
  obtain rfl := even_gain hrp
  replace HB := hide (below_via (unhide HB) hb)
  replace HQ := hide ((show Blk _ _ _ _ from unhide HQ).keep hb)
  replace HL := hide ((show Blk _ _ _ _ from unhide HL).keep hb)
  replace HF := hide ((unhide HF).below hb (Nat.le_refl _))
  replace HRl := hide ((unhide HRl).below hb (Nat.le_refl _))
  clear hb hrp HP q13 q14 r5
  generalize l9.length = n9 at *
  generalize l8.length = n8 at *
  have d0 : ((0 : Int) != 0) = false := rfl
  have hb := below_via (below1L w4 (.cells (lnA K9 (.slice a9 n9 c9)) 53)) (below1L (w4.alloc (.cells (lnA K9 (.slice a9 n9 c9)) 53)) (.cells (lnA M9 (.slice a8 n8 c8)) 53))
  replace HB := hide (below_via (unhide HB) hb)
  replace HQ := hide ((show Blk _ _ _ _ from unhide HQ).keep hb)
  replace HL := hide ((show Blk _ _ _ _ from unhide HL).keep hb)
  replace HF := hide ((unhide HF).below hb (Nat.le_refl _))
  replace HRl := hide ((unhide HRl).below hb (Nat.le_refl _))
  clear hb
  generalize hU : (w4.alloc (.cells (lnA K9 (.slice a9 n9 c9)) 53)).alloc (.cells (lnA M9 (.slice a8 n8 c8)) 53) = U4 at HB HQ HL HF HRl
  by_cases h9 : e9 = 0
  · have d9 : (e9 == 0) = true := by simp [h9]
    replace h9 := hide h9
    have q13 := (show Blk _ _ _ _ from unhide HQ).at 13 (.slice a2 n2 c2) rfl
    go_wp2_with (refine load_blk rfl 53 _ rfl (show Blk _ _ _ _ from unhide HL) rfl row53 size53 rfl ?_)
    clear hU
    refine (unhide HCu _ (unhide HRl) (unhide HF)).mono ?_
    rintro z w5 ⟨a6, c6, rfl, hr, hb⟩
    replace HB := hide (below_via (unhide HB) hb)
    replace HQ := hide ((show Blk _ _ _ _ from unhide HQ).keep hb)
    replace HL := hide ((show Blk _ _ _ _ from unhide HL).keep hb)
    replace HF := hide ((unhide HF).below hb (Nat.le_refl _))
    replace HRl := hide ((unhide HRl).below hb (Nat.le_refl _))
    clear hb q13 HCu
    have d1 : (cuE L l fl != 0) = true := by simpa using he
    clear he hr
    generalize cuE L l fl = E at *
    generalize cuM L l fl = M at *
    generalize (cuL L l fl).length = n6 at *
    generalize cuK L l fl = K at *
    have k4 := hide (below_via (unhide HB) (below1L w5 (.cells (lnA K (.slice a6 n6 c6)) 53)))
    go_wp2_with fail
    go_ret
    exact ⟨rfl, unhide k4⟩
  · have d9 : (e9 == 0) = false := by simp [h9]
    have q13 := (show Blk _ _ _ _ from unhide HQ).at 13 (.slice a2 n2 c2) rfl
    go_wp2_with (refine load_blk rfl 53 _ rfl (show Blk _ _ _ _ from unhide HL) rfl row53 size53 rfl ?_)
    clear hU
    refine (unhide HCu _ (unhide HRl) (unhide HF)).mono ?_
    rintro z w5 ⟨a6, c6, rfl, hr, hb⟩
    replace HB := hide (below_via (unhide HB) hb)
    replace HQ := hide ((show Blk _ _ _ _ from unhide HQ).keep hb)
    replace HL := hide ((show Blk _ _ _ _ from unhide HL).keep hb)
    replace HF := hide ((unhide HF).below hb (Nat.le_refl _))
    replace HRl := hide ((unhide HRl).below hb (Nat.le_refl _))
    clear hb q13 HCu
    have d1 : (cuE L l fl != 0) = true := by simpa using he
    clear he hr
    generalize cuE L l fl = E at *
    generalize cuM L l fl = M at *
    generalize (cuL L l fl).length = n6 at *
    generalize cuK L l fl = K at *
    have k4 := hide (below_via (unhide HB) (below1L w5 (.cells (lnA K (.slice a6 n6 c6)) 53)))
    go_wp2_with fail
    go_ret
    exact ⟨rfl, unhide k4⟩
set_option maxHeartbeats 4000000 in
theorem even_yes {L : Ln} {a a2 : Option Addr} {n c n2 c2 : Nat} {id fair : Int} {l fl : List Int} {w : World} (hR : Row w (.slice a n c) l) (hS : Sl a n c) (hF : Row w (.slice a2 n2 c2) fl) (hS2 : Sl a2 n2 c2) (hl : l.length ≤ 700) (hl2 : fl.length ≤ 60) (hg : (decide (700 < n) || decide (60 < n2)) = false) (hgr : In64 L.gr) (he : cuE L l fl = 0) : EvenL w L a a2 n c n2 c2 id fair := by
  unfold EvenL
  obtain ⟨t0, cau, eL, eM⟩ := cu_yes he
  obtain ⟨g0, g1, g2⟩ := cau.tested
  have HTs : Hid (∀ W a c, Row W (.slice a fl.length c) fl → Row W (.slice a2 n2 c2) fl → Calls (Tri Try.prog) 45 #[.agg (lnA (cuK L l fl) (.slice a fl.length c)), .slice a2 n2 c2] W fun z w2 => z = .returned (.tuple #[.int .i64 (cuK L l fl).gr, .bool false, .int .i64 0]) ∧ Below W.heap.size W w2) := hide (fun W a c h1 h2 => by
    have k := tested_any (L := cuK L l fl) h1 h2 g0
    rw [g1, g2, g0] at k
    exact k)
  have x1 : ((cuK L l fl).gr == (cuK L l fl).gr) = true := by simp
  clear t0 cau eM g0 g1 g2
  have HB := hide (below1L w (.cells #[.int .i64 L.id, .int .i64 L.st, .int .i64 L.be, .int .i64 L.out, .int .i64 L.rt, .int .i64 L.gr, .int .i64 L.due, .int .i64 L.inc, .int .i64 L.got, .int .i64 L.adj, .int .i64 L.wri, .int .i64 L.rcv, .slice a n c, .slice a2 n2 c2, .int .i64 id, .int .i64 fair] 81))
  have HQ := hide (Blk.new w #[.int .i64 L.id, .int .i64 L.st, .int .i64 L.be, .int .i64 L.out, .int .i64 L.rt, .int .i64 L.gr, .int .i64 L.due, .int .i64 L.inc, .int .i64 L.got, .int .i64 L.adj, .int .i64 L.wri, .int .i64 L.rcv, .slice a n c, .slice a2 n2 c2, .int .i64 id, .int .i64 fair] 81)
  have HR := hide (hR.alloc (.cells #[.int .i64 L.id, .int .i64 L.st, .int .i64 L.be, .int .i64 L.out, .int .i64 L.rt, .int .i64 L.gr, .int .i64 L.due, .int .i64 L.inc, .int .i64 L.got, .int .i64 L.adj, .int .i64 L.wri, .int .i64 L.rcv, .slice a n c, .slice a2 n2 c2, .int .i64 id, .int .i64 fair] 81))
  have HF := hide (hF.alloc (.cells #[.int .i64 L.id, .int .i64 L.st, .int .i64 L.be, .int .i64 L.out, .int .i64 L.rt, .int .i64 L.gr, .int .i64 L.due, .int .i64 L.inc, .int .i64 L.got, .int .i64 L.adj, .int .i64 L.wri, .int .i64 L.rcv, .slice a n c, .slice a2 n2 c2, .int .i64 id, .int .i64 fair] 81))
  have HA := hide (aliveR (w.alloc (.cells #[.int .i64 L.id, .int .i64 L.st, .int .i64 L.be, .int .i64 L.out, .int .i64 L.rt, .int .i64 L.gr, .int .i64 L.due, .int .i64 L.inc, .int .i64 L.got, .int .i64 L.adj, .int .i64 L.wri, .int .i64 L.rcv, .slice a n c, .slice a2 n2 c2, .int .i64 id, .int .i64 fair] 81)))
  have HG := hide (fun W => great_any L a a2 n c n2 c2 id fair _ rfl W)
  go_enter (Tri.at (by decide) Try.func13), Try.ntmps13
  go_wp2_with fail
  refine (unhide HA).mono ?_
  rintro z w1 ⟨rfl, hb⟩
  replace HB := hide (below_via (unhide HB) hb)
  replace HQ := hide ((show Blk _ _ _ _ from unhide HQ).keep hb)
  replace HR := hide ((unhide HR).below hb (Nat.le_refl _))
  replace HF := hide ((unhide HF).below hb (Nat.le_refl _))
  clear hb HA
  go_wp2_with (refine load_blk rfl 81 _ rfl (show Blk _ _ _ _ from unhide HQ) rfl row81 size81 rfl ?_)
  refine (unhide HG _).mono ?_
  rintro z w2 ⟨rfl, hb⟩
  replace HB := hide (below_via (unhide HB) hb)
  replace HQ := hide ((show Blk _ _ _ _ from unhide HQ).keep hb)
  replace HR := hide ((unhide HR).below hb (Nat.le_refl _))
  replace HF := hide ((unhide HF).below hb (Nat.le_refl _))
  clear hb HG
  rw [hg]
  clear hg
  have HT := hide (to_any (L := L) (unhide HR) hS (by omega))
  clear hS
  have HS2 := hide hS2
  clear hS2
  have q0 := (show Blk _ _ _ _ from unhide HQ).at 0 (.int .i64 L.id) rfl
  have q1 := (show Blk _ _ _ _ from unhide HQ).at 1 (.int .i64 L.st) rfl
  have q2 := (show Blk _ _ _ _ from unhide HQ).at 2 (.int .i64 L.be) rfl
  have q3 := (show Blk _ _ _ _ from unhide HQ).at 3 (.int .i64 L.out) rfl
  have q4 := (show Blk _ _ _ _ from unhide HQ).at 4 (.int .i64 L.rt) rfl
  have q5 := (show Blk _ _ _ _ from unhide HQ).at 5 (.int .i64 L.gr) rfl
  have q6 := (show Blk _ _ _ _ from unhide HQ).at 6 (.int .i64 L.due) rfl
  have q7 := (show Blk _ _ _ _ from unhide HQ).at 7 (.int .i64 L.inc) rfl
  have q8 := (show Blk _ _ _ _ from unhide HQ).at 8 (.int .i64 L.got) rfl
  have q9 := (show Blk _ _ _ _ from unhide HQ).at 9 (.int .i64 L.adj) rfl
  have q10 := (show Blk _ _ _ _ from unhide HQ).at 10 (.int .i64 L.wri) rfl
  have q11 := (show Blk _ _ _ _ from unhide HQ).at 11 (.int .i64 L.rcv) rfl
  have q12 := (show Blk _ _ _ _ from unhide HQ).at 12 (.slice a n c) rfl
  go_wp2_with fail
  refine (unhide HT).mono ?_
  rintro z w3 ⟨a3, c3, rfl, hr, hs, hf, hb⟩
  replace HB := hide (below_via (unhide HB) hb)
  replace HQ := hide ((show Blk _ _ _ _ from unhide HQ).keep hb)
  replace HF := hide ((unhide HF).below hb (Nat.le_refl _))
  clear q0 q1 q2 q3 q4 q5 q6 q7 q8 q9 q10 q11 q12 HT HR
  have HL := hide (Blk.new w3 (lnA L (.slice a3 l.length c3)) 53)
  have HRl := hide (hr.alloc (.cells (lnA L (.slice a3 l.length c3)) 53))
  replace HF := hide ((unhide HF).alloc (.cells (lnA L (.slice a3 l.length c3)) 53))
  replace HQ := hide ((show Blk _ _ _ _ from unhide HQ).alloc (.cells (lnA L (.slice a3 l.length c3)) 53))
  replace HB := hide (below_via (unhide HB) (below1L w3 (.cells (lnA L (.slice a3 l.length c3)) 53)))
  clear hb hr hs hf
  generalize hU : w3.alloc (.cells (lnA L (.slice a3 l.length c3)) 53) = U3 at HL HRl HF HQ HB
  have HP := hide (replace_any (L := L) (l := l) (fl := fl) (id := id) (fair := L.gr) (unhide HRl) hgr (unhide HF) (unhide HS2) (by omega))
  have HCu : Hid (∀ W, Row W (.slice a3 l.length c3) l → Row W (.slice a2 n2 c2) fl → Calls (Tri Try.prog) 40 #[.agg (lnA L (.slice a3 l.length c3)), .slice a2 n2 c2] W fun z w2 => ∃ a6 c6, z = .returned (.tuple #[.agg (lnA (cuK L l fl) (.slice a6 (cuL L l fl).length c6)), .int .i64 (cuM L l fl), .int .i64 (cuE L l fl)]) ∧ Row w2 (.slice a6 (cuL L l fl).length c6) (cuL L l fl) ∧ Below W.heap.size W w2) := hide (fun W h1 h2 => (catchup_any h1 h2 (unhide HS2) (by omega)).mono fun z w2 ⟨a6, c6, p1, p2, _, _, p5⟩ => ⟨a6, c6, p1, p2, p5⟩)
  clear hl hl2 hgr HS2
  have q13 := (show Blk _ _ _ _ from unhide HQ).at 13 (.slice a2 n2 c2) rfl
  have q14 := (show Blk _ _ _ _ from unhide HQ).at 14 (.int .i64 id) rfl
  have r5 := (show Blk _ _ _ _ from unhide HL).at 5 (.int .i64 L.gr) rfl
  go_wp2_with (refine load_blk rfl 53 _ rfl (show Blk _ _ _ _ from unhide HL) rfl row53 size53 rfl ?_)
  clear hU
  refine (unhide HP).mono ?_
  rintro z w4 ⟨K9, M9, l9, l8, m9, e9, hrp, a9, c9, a8, c8, rfl, _, _, _, _, hb⟩
  obtain rfl := even_gain hrp
  replace HB := hide (below_via (unhide HB) hb)
  replace HQ := hide ((show Blk _ _ _ _ from unhide HQ).keep hb)
  replace HL := hide ((show Blk _ _ _ _ from unhide HL).keep hb)
  replace HF := hide ((unhide HF).below hb (Nat.le_refl _))
  replace HRl := hide ((unhide HRl).below hb (Nat.le_refl _))
  clear hb hrp HP q13 q14 r5
  generalize l9.length = n9 at *
  generalize l8.length = n8 at *
  have d0 : ((0 : Int) != 0) = false := rfl
  have hb := below_via (below1L w4 (.cells (lnA K9 (.slice a9 n9 c9)) 53)) (below1L (w4.alloc (.cells (lnA K9 (.slice a9 n9 c9)) 53)) (.cells (lnA M9 (.slice a8 n8 c8)) 53))
  replace HB := hide (below_via (unhide HB) hb)
  replace HQ := hide ((show Blk _ _ _ _ from unhide HQ).keep hb)
  replace HL := hide ((show Blk _ _ _ _ from unhide HL).keep hb)
  replace HF := hide ((unhide HF).below hb (Nat.le_refl _))
  replace HRl := hide ((unhide HRl).below hb (Nat.le_refl _))
  clear hb
  generalize hU : (w4.alloc (.cells (lnA K9 (.slice a9 n9 c9)) 53)).alloc (.cells (lnA M9 (.slice a8 n8 c8)) 53) = U4 at HB HQ HL HF HRl
  by_cases h9 : e9 = 0
  · have d9 : (e9 == 0) = true := by simp [h9]
    replace h9 := hide h9
    have q13 := (show Blk _ _ _ _ from unhide HQ).at 13 (.slice a2 n2 c2) rfl
    go_wp2_with (refine load_blk rfl 53 _ rfl (show Blk _ _ _ _ from unhide HL) rfl row53 size53 rfl ?_)
    clear hU
    refine (unhide HCu _ (unhide HRl) (unhide HF)).mono ?_
    rintro z w5 ⟨a6, c6, rfl, hr, hb⟩
    replace HB := hide (below_via (unhide HB) hb)
    replace HQ := hide ((show Blk _ _ _ _ from unhide HQ).keep hb)
    replace HL := hide ((show Blk _ _ _ _ from unhide HL).keep hb)
    replace HF := hide ((unhide HF).below hb (Nat.le_refl _))
    replace HRl := hide ((unhide HRl).below hb (Nat.le_refl _))
    clear hb q13 HCu
    rw [eL] at hr
    simp only [eL, he]
    clear he eL
    generalize cuM L l fl = M at *
    generalize cuK L l fl = K at *
    have HX := hide (Blk.new w5 (lnA K (.slice a6 fl.length c6)) 53)
    have HRx := hide (hr.alloc (.cells (lnA K (.slice a6 fl.length c6)) 53))
    replace HF := hide ((unhide HF).alloc (.cells (lnA K (.slice a6 fl.length c6)) 53))
    replace HQ := hide ((show Blk _ _ _ _ from unhide HQ).alloc (.cells (lnA K (.slice a6 fl.length c6)) 53))
    replace HB := hide (below_via (unhide HB) (below1L w5 (.cells (lnA K (.slice a6 fl.length c6)) 53)))
    clear hr HRl HL
    generalize hU : w5.alloc (.cells (lnA K (.slice a6 fl.length c6)) 53) = U5 at HX HRx HF HQ HB
    have q13 := (show Blk _ _ _ _ from unhide HQ).at 13 (.slice a2 n2 c2) rfl
    go_wp2_with (refine load_blk rfl 53 _ rfl (show Blk _ _ _ _ from unhide HX) rfl row53 size53 rfl ?_)
    clear hU
    refine (unhide HTs _ _ _ (unhide HRx) (unhide HF)).mono ?_
    rintro z w6 ⟨rfl, hb⟩
    replace HB := hide (below_via (unhide HB) hb)
    replace HX := hide ((show Blk _ _ _ _ from unhide HX).keep hb)
    clear hb q13 HTs HF HRx HQ
    have x5 := (show Blk _ _ _ _ from unhide HX).at 5 (.int .i64 K.gr) rfl
    go_wp2_with fail
    go_ret
    exact ⟨rfl, unhide HB⟩
  · have d9 : (e9 == 0) = false := by simp [h9]
    have q13 := (show Blk _ _ _ _ from unhide HQ).at 13 (.slice a2 n2 c2) rfl
    go_wp2_with (refine load_blk rfl 53 _ rfl (show Blk _ _ _ _ from unhide HL) rfl row53 size53 rfl ?_)
    clear hU
    refine (unhide HCu _ (unhide HRl) (unhide HF)).mono ?_
    rintro z w5 ⟨a6, c6, rfl, hr, hb⟩
    replace HB := hide (below_via (unhide HB) hb)
    replace HQ := hide ((show Blk _ _ _ _ from unhide HQ).keep hb)
    replace HL := hide ((show Blk _ _ _ _ from unhide HL).keep hb)
    replace HF := hide ((unhide HF).below hb (Nat.le_refl _))
    replace HRl := hide ((unhide HRl).below hb (Nat.le_refl _))
    clear hb q13 HCu
    rw [eL] at hr
    simp only [eL, he]
    clear he eL
    generalize cuM L l fl = M at *
    generalize cuK L l fl = K at *
    have HX := hide (Blk.new w5 (lnA K (.slice a6 fl.length c6)) 53)
    have HRx := hide (hr.alloc (.cells (lnA K (.slice a6 fl.length c6)) 53))
    replace HF := hide ((unhide HF).alloc (.cells (lnA K (.slice a6 fl.length c6)) 53))
    replace HQ := hide ((show Blk _ _ _ _ from unhide HQ).alloc (.cells (lnA K (.slice a6 fl.length c6)) 53))
    replace HB := hide (below_via (unhide HB) (below1L w5 (.cells (lnA K (.slice a6 fl.length c6)) 53)))
    clear hr HRl HL
    generalize hU : w5.alloc (.cells (lnA K (.slice a6 fl.length c6)) 53) = U5 at HX HRx HF HQ HB
    have q13 := (show Blk _ _ _ _ from unhide HQ).at 13 (.slice a2 n2 c2) rfl
    go_wp2_with (refine load_blk rfl 53 _ rfl (show Blk _ _ _ _ from unhide HX) rfl row53 size53 rfl ?_)
    clear hU
    refine (unhide HTs _ _ _ (unhide HRx) (unhide HF)).mono ?_
    rintro z w6 ⟨rfl, hb⟩
    replace HB := hide (below_via (unhide HB) hb)
    replace HX := hide ((show Blk _ _ _ _ from unhide HX).keep hb)
    clear hb q13 HTs HF HRx HQ
    have x5 := (show Blk _ _ _ _ from unhide HX).at 5 (.int .i64 K.gr) rfl
    go_wp2_with fail
    go_ret
    exact ⟨rfl, unhide HB⟩
theorem even_any {L : Ln} {a a2 : Option Addr} {n c n2 c2 : Nat} {id fair : Int} {l fl : List Int} {w : World} (hgr : In64 L.gr) (hR : Row w (.slice a n c) l) (hS : Sl a n c) (hF : Row w (.slice a2 n2 c2) fl) (hS2 : Sl a2 n2 c2) : EvenL w L a a2 n c n2 c2 id fair := by
  have e1 : n = l.length := by obtain ⟨x, y, e⟩ := row_slice hR; injection e
  have e2 : n2 = fl.length := by obtain ⟨x, y, e⟩ := row_slice hF; injection e
  by_cases hg : (decide (700 < n) || decide (60 < n2)) = true
  · exact even_great hR hF hg
  · have hg := Bool.eq_false_iff.2 hg
    have h1 : ¬ 700 < n := fun h => by rw [decide_eq_true h] at hg; cases hg
    have h2 : ¬ 60 < n2 := fun h => by rw [decide_eq_true h, Bool.or_true] at hg; cases hg
    by_cases he : cuE L l fl = 0
    · exact even_yes hR hS hF hS2 (by omega) (by omega) hg hgr he
    · exact even_no hR hS hF hS2 (by omega) (by omega) hg hgr he
end Go.Proofs.Ytpeoabopeihadaa.Mn
