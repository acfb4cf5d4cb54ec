/- CatchUp and Test, whole. -/
import Derived.Test.YtpeoabopeihadaaYM
import Derived.Test.YtpeoabopeihadaaYN
import Derived.Test.YtpeoabopeihadaaYRvI
import Derived.Test.YtpeoabopeihadaaYO
import Derived.Test.YtpeoabopeihadaaYR
import Derived.Test.YtpeoabopeihadaaYP
set_option linter.unusedVariables false
set_option linter.unusedSimpArgs false
set_option linter.unusedSectionVars false
namespace Go.Proofs.Ytpeoabopeihadaa.Mn
open Go.RowKit
attribute [local simp] Tri.typeInfo Tri.sizeOf Tri.underlying Tri.runUnderlying Tri.isAgg Tri.zeroValue Tri.depth Tri.stoodInHeld Tri.eqGuardType Tri.call15 Tri.call27 Tri.call31 Tri.call32 Tri.call38 Tri.call39 Tri.call40 Tri.call41 Tri.call43 Tri.call44 Tri.call45 Tri.call46 Tri.call49 Tri.call52 Tri.call54 Tri.call65 Tri.call69 Tri.call70 Tri.call72 Tri.call73 Tri.call74 Tri.call75 Tri.call82 Tri.call86 Tri.call89 Tri.call90 Tri.call91 Tri.call92 Tri.call93 Tri.call94 Tri.call95 Tri.call96 Tri.call97 Tri.call98 Tri.call99 Tri.call100 Tri.call102 Tri.call103 Tri.call104 Tri.call106 Tri.call116 Tri.call117 Tri.call118 Tri.call119 Tri.call120 Tri.call122 Tri.call126 Tri.call130 Tri.call131 Tri.call132 Tri.call143 Tri.call144 Tri.call145 Tri.call146 Tri.call147 Tri.call156 Tri.call157 Tri.call159 Tri.call160 Tri.call161 Tri.call162 Tri.call163 Tri.call164 Tri.call165 Tri.call175 Tri.call176 Tri.call186 Tri.call188 Tri.call205
theorem clo_103 {L : Ln} {a : Option Addr} {n c : Nat} {m e : Int} {B : Bool} {w : World} {v : Value} {fb : Nat} (HC : Hid (∀ W, Below w.heap.size w W → Calls (Tri Try.prog) 104 #[.agg (lnA L (.slice a n c)), v] W fun z w2 => z = .returned (.tuple #[.agg #[.int .i64 m, .bool B], .int .i64 e]) ∧ Below W.heap.size W w2)) (hp : w.cell? ⟨fb, 0, none⟩ = some v) : Calls (Tri Try.prog) 103 #[.agg (lnA L (.slice a n c)), .pointer (some ⟨fb, 0, none⟩)] w fun z w2 => z = .returned (.tuple #[.agg #[.int .i64 m, .bool B], .int .i64 e]) ∧ Below w.heap.size w w2 := by
  have HB : Hid (Below w.heap.size w ((w.alloc (.cells (lnA L (.slice a n c)) 53)).alloc (.cells #[.int .i64 0, .bool false] 139))) := hide ((below1L w _).alloc (by simp) _)
  have HZ : Hid (Blk ((w.alloc (.cells (lnA L (.slice a n c)) 53)).alloc (.cells #[.int .i64 0, .bool false] 139)) (w.heap.size + 1) #[.int .i64 0, .bool false] 139) := hide (by have h := Blk.new (w.alloc (.cells (lnA L (.slice a n c)) 53)) #[.int .i64 0, .bool false] 139; simpa using h)
  have hq := cell_old (cell_old hp (.cells (lnA L (.slice a n c)) 53)) (.cells #[.int .i64 0, .bool false] 139)
  replace HC := hide (unhide HC _ (unhide HB))
  go_enter (Tri.at (by decide) Try.func103), Try.ntmps103
  go_wp2_with fail
  refine (unhide HC).mono ?_
  rintro z w1 ⟨rfl, hb⟩
  replace HB := hide (below_via (unhide HB) hb)
  replace HZ := hide ((show Blk _ _ _ _ from unhide HZ).keep hb)
  clear hb hq hp HC
  obtain ⟨y0, y1⟩ := Blk.c2 (show Blk _ _ _ _ from unhide HZ)
  obtain ⟨v0, v1⟩ := Blk.z2 (show Blk _ _ _ _ from unhide HZ)
  go_wp2_with fail
  clear y0 y1 v0 v1
  generalize hW : World.setCell _ _ _ = W
  have k2 : Blk W (w.heap.size + 1) #[.int .i64 m, .bool B] 139 := by rw [← hW]; exact (show Blk _ _ _ _ from unhide HZ).wr2 _ _
  have k4 : Below w.heap.size w W := by rw [← hW]; exact below_putN (by omega) [.int .i64 m, .bool B] 0 (unhide HB)
  clear hW
  have p0 := k2.at 0 (.int .i64 m) rfl
  have p1 := k2.at 1 (.bool B) rfl
  exact bodyPost_ret (v := .tuple #[.agg #[.int .i64 m, .bool B], .int .i64 e]) (by simp [results, Try.results103, go_sem, p0, p1]) rfl ⟨rfl, k4⟩
theorem rt_bd {L : Ln} {l : List Int} (h : rightB L l = true) : -1125899906842624 ≤ L.adj ∧ L.adj ≤ 1125899906842624 ∧ 0 ≤ L.gr ∧ L.gr ≤ 1125899906842624 ∧ May L.rt := by
  unfold rightB mayBeB sumB at h
  simp only [Bool.and_eq_true] at h
  have h1 := inB_yes h.2.2.1.1.1.1.1
  have h2 := inB_yes h.2.2.1.2.2
  have h3 : May L.rt := Classical.byContradiction fun hn => by have := h.1.2; rw [mayB_no hn] at this; cases this
  exact ⟨h2.1, h2.2, h1.1, h1.2, h3⟩
def zL0 : Ln := ⟨0, 0, 0, 0, 0, 0, 0, 0, 0, 0, 0, 0⟩
def catE (L : Ln) (fl : List Int) : Int := if valE 1 fl L.rt = 0 then (if valN 1 fl L.rt < 1 then 2 else if rightB (adjK L (valN 1 fl L.rt)) fl = true then 0 else 3) else valE 1 fl L.rt
def catK (L : Ln) (fl : List Int) : Ln := if catE L fl = 0 then adjK L (valN 1 fl L.rt) else zL0
def catL (L : Ln) (fl : List Int) : List Int := if catE L fl = 0 then fl else []
def catM (L : Ln) (fl : List Int) : Int := if catE L fl = 0 then valN 1 fl L.rt - L.gr else 0
def preE (L : Ln) (l fl : List Int) : Int := if rightB L l = true then (if L.st = 1 then comeE fl else 12) else 2
def cuE (L : Ln) (l fl : List Int) : Int := if preE L l fl = 0 then catE L fl else preE L l fl
def cuK (L : Ln) (l fl : List Int) : Ln := if cuE L l fl = 0 then catK L fl else zL0
def cuL (L : Ln) (l fl : List Int) : List Int := if cuE L l fl = 0 then catL L fl else []
def cuM (L : Ln) (l fl : List Int) : Int := if cuE L l fl = 0 then catM L fl else 0
def tsE (L : Ln) (l fl : List Int) : Int := if preE L l fl = 0 then valE 1 fl L.rt else preE L l fl
def tsN (L : Ln) (l fl : List Int) : Int := if tsE L l fl = 0 then valN 1 fl L.rt else 0
def tsB (L : Ln) (l fl : List Int) : Bool := decide (tsE L l fl = 0) && apB (valN 1 fl L.rt) L.gr
theorem cat_zero {L : Ln} {fl : List Int} {w w2 : World} {z : Ending} {e : Int} (h : catE L fl = e) (he : e ≠ 0) (hz : z = .returned (.tuple #[.agg #[.int .i64 0, .int .i64 0, .int .i64 0, .int .i64 0, .int .i64 0, .int .i64 0, .int .i64 0, .int .i64 0, .int .i64 0, .int .i64 0, .int .i64 0, .int .i64 0, .slice none 0 0, .int .i64 0], .int .i64 e]) ∧ Below w.heap.size w w2) : (fun z w2 => ∃ a3 c3, z = .returned (.tuple #[.agg #[.int .i64 (catK L fl).id, .int .i64 (catK L fl).st, .int .i64 (catK L fl).be, .int .i64 (catK L fl).out, .int .i64 (catK L fl).rt, .int .i64 (catK L fl).gr, .int .i64 (catK L fl).due, .int .i64 (catK L fl).inc, .int .i64 (catK L fl).got, .int .i64 (catK L fl).adj, .int .i64 (catK L fl).wri, .int .i64 (catK L fl).rcv, .slice a3 (catL L fl).length c3, .int .i64 (catM L fl)], .int .i64 (catE L fl)]) ∧ Row w2 (.slice a3 (catL L fl).length c3) (catL L fl) ∧ Sl a3 (catL L fl).length c3 ∧ (∀ x, a3 = some x → w.heap.size ≤ x.block) ∧ Below w.heap.size w w2) z w2 := by
  have hn : ¬ catE L fl = 0 := by rw [h]; exact he
  have hK : catK L fl = zL0 := if_neg hn
  have hL : catL L fl = [] := if_neg hn
  have hM : catM L fl = 0 := if_neg hn
  show ∃ a3 c3, _
  rw [hK, hL, hM, h]
  exact ⟨none, 0, hz.1, .inl ⟨none, 0, rfl, rfl⟩, Sl.nil, fun x hx => (nomatch hx), hz.2⟩
theorem cat_any {L : Ln} {a a2 : Option Addr} {n c n2 c2 : Nat} {l fl : List Int} {w : World} (hr : rightB L l = true) (hR : Row w (.slice a2 n2 c2) fl) (hS : Sl a2 n2 c2) (hl : fl.length ≤ 1000000) : Calls (Tri Try.prog) 91 #[.agg (lnA L (.slice a n c)), .slice a2 n2 c2] w fun z w2 => ∃ a3 c3, z = .returned (.tuple #[.agg #[.int .i64 (catK L fl).id, .int .i64 (catK L fl).st, .int .i64 (catK L fl).be, .int .i64 (catK L fl).out, .int .i64 (catK L fl).rt, .int .i64 (catK L fl).gr, .int .i64 (catK L fl).due, .int .i64 (catK L fl).inc, .int .i64 (catK L fl).got, .int .i64 (catK L fl).adj, .int .i64 (catK L fl).wri, .int .i64 (catK L fl).rcv, .slice a3 (catL L fl).length c3, .int .i64 (catM L fl)], .int .i64 (catE L fl)]) ∧ Row w2 (.slice a3 (catL L fl).length c3) (catL L fl) ∧ Sl a3 (catL L fl).length c3 ∧ (∀ x, a3 = some x → w.heap.size ≤ x.block) ∧ Below w.heap.size w w2 := by
  obtain ⟨b1, b2, b3, b4, _⟩ := rt_bd hr
  have HT : Hid (∀ W, Row W (.slice a2 n2 c2) fl → Calls (Tri Try.prog) 104 #[.agg (lnA L (.slice a n c)), .slice a2 n2 c2] W fun z w2 => z = .returned (.tuple #[.agg #[.int .i64 (valN 1 fl L.rt), .bool (tstB L fl)], .int .i64 (valE 1 fl L.rt)]) ∧ Below W.heap.size W w2) := hide (fun W h => test_any b3 b4 h)
  by_cases hE : valE 1 fl L.rt = 0
  · by_cases hN : valN 1 fl L.rt < 1
    · exact (cat_n hR HT hE hN).mono fun z w2 h => cat_zero (by unfold catE; rw [if_pos hE, if_pos hN]) (by decide) h
    · by_cases hB : rightB (adjK L (valN 1 fl L.rt)) fl = true
      · have h0 : catE L fl = 0 := by unfold catE; rw [if_pos hE, if_neg hN, if_pos hB]
        have hK : catK L fl = adjK L (valN 1 fl L.rt) := if_pos h0
        have hL : catL L fl = fl := if_pos h0
        have hM : catM L fl = valN 1 fl L.rt - L.gr := if_pos h0
        rw [hK, hL, hM, h0]
        exact cat_y hR HT b1 b2 b3 b4 hS hl hE hN (valN_bd 1 fl L.rt).2 hB
      · exact (cat_o hR HT b1 b2 b3 b4 hS hl hE hN (valN_bd 1 fl L.rt).2 (Bool.eq_false_iff.2 hB)).mono fun z w2 h => cat_zero (by unfold catE; rw [if_pos hE, if_neg hN, if_neg hB]) (by decide) h
  · exact (cat_e hR HT (by simpa using hE)).mono fun z w2 h => cat_zero (by unfold catE; rw [if_neg hE]) hE h
theorem cu_zero {L : Ln} {l fl : List Int} {w w2 : World} {z : Ending} {e : Int} (h : cuE L l fl = e) (he : (e != 0) = true) (hz : z = .returned (.tuple #[.agg #[.int .i64 0, .int .i64 0, .int .i64 0, .int .i64 0, .int .i64 0, .int .i64 0, .int .i64 0, .int .i64 0, .int .i64 0, .int .i64 0, .int .i64 0, .int .i64 0, .slice none 0 0, .int .i64 0], .int .i64 e]) ∧ Below w.heap.size w w2) : (fun z w2 => ∃ a3 c3, z = .returned (.tuple #[.agg #[.int .i64 (cuK L l fl).id, .int .i64 (cuK L l fl).st, .int .i64 (cuK L l fl).be, .int .i64 (cuK L l fl).out, .int .i64 (cuK L l fl).rt, .int .i64 (cuK L l fl).gr, .int .i64 (cuK L l fl).due, .int .i64 (cuK L l fl).inc, .int .i64 (cuK L l fl).got, .int .i64 (cuK L l fl).adj, .int .i64 (cuK L l fl).wri, .int .i64 (cuK L l fl).rcv, .slice a3 (cuL L l fl).length c3, .int .i64 (cuM L l fl)], .int .i64 (cuE L l fl)]) ∧ Row w2 (.slice a3 (cuL L l fl).length c3) (cuL L l fl) ∧ Sl a3 (cuL L l fl).length c3 ∧ (∀ x, a3 = some x → w.heap.size ≤ x.block) ∧ Below w.heap.size w w2) z w2 := by
  have hn : ¬ cuE L l fl = 0 := by rw [h]; simpa using he
  have hK : cuK L l fl = zL0 := if_neg hn
  have hL : cuL L l fl = [] := if_neg hn
  have hM : cuM L l fl = 0 := if_neg hn
  show ∃ a3 c3, _
  rw [hK, hL, hM, h]
  exact ⟨none, 0, hz.1, .inl ⟨none, 0, rfl, rfl⟩, Sl.nil, fun x hx => (nomatch hx), hz.2⟩
theorem cu_in {L : Ln} {a a2 : Option Addr} {n c n2 c2 : Nat} {l fl : List Int} {W : World} {cb mb fb0 : Nat} (hRW : Row W (.slice a n c) l) (hFW : Row W (.slice a2 n2 c2) fl) (hS : Sl a2 n2 c2) (hl : fl.length ≤ 1000000) (hF : Blk W cb #[.func (.func 92) #[] #[], .func (.func 93) #[] #[], .func (.func 131) #[] #[.pointer (some ⟨mb, 0, none⟩)]] 115) (h1 : W.cell? ⟨fb0, 0, none⟩ = some (.slice a2 n2 c2)) (h2 : W.cell? ⟨mb, 0, none⟩ = some (.slice a2 n2 c2)) : Calls (Tri Try.prog) 89 #[.agg (lnA L (.slice a n c)), .func (.func 90) #[] #[.pointer (some ⟨fb0, 0, none⟩)], .slice (some ⟨cb, 0, none⟩) 3 3] W fun z w2 => ∃ a3 c3, z = .returned (.tuple #[.agg #[.int .i64 (cuK L l fl).id, .int .i64 (cuK L l fl).st, .int .i64 (cuK L l fl).be, .int .i64 (cuK L l fl).out, .int .i64 (cuK L l fl).rt, .int .i64 (cuK L l fl).gr, .int .i64 (cuK L l fl).due, .int .i64 (cuK L l fl).inc, .int .i64 (cuK L l fl).got, .int .i64 (cuK L l fl).adj, .int .i64 (cuK L l fl).wri, .int .i64 (cuK L l fl).rcv, .slice a3 (cuL L l fl).length c3, .int .i64 (cuM L l fl)], .int .i64 (cuE L l fl)]) ∧ Row w2 (.slice a3 (cuL L l fl).length c3) (cuL L l fl) ∧ Sl a3 (cuL L l fl).length c3 ∧ (∀ x, a3 = some x → W.heap.size ≤ x.block) ∧ Below W.heap.size W w2 := by
  have e0 : Hid (∀ W', Below W.heap.size W W' → Calls (Tri Try.prog) 92 #[.agg (lnA L (.slice a n c))] W' fun z w2 => z = .returned (.int .i64 (rtE L l)) ∧ Below W'.heap.size W' w2) := hide (fun W' hb => isr_any (hRW.below hb (Nat.le_refl _)))
  have e1 : Hid (∀ W', Below W.heap.size W W' → Calls (Tri Try.prog) 93 #[.agg (lnA L (.slice a n c))] W' fun z w2 => z = .returned (.int .i64 (lvE L)) ∧ Below W'.heap.size W' w2) := hide (fun W' hb => isl_any L _ W')
  have e2 : Hid (∀ W', Below W.heap.size W W' → Calls (Tri Try.prog) 131 #[.agg (lnA L (.slice a n c)), .pointer (some ⟨mb, 0, none⟩)] W' fun z w2 => z = .returned (.int .i64 (comeE fl)) ∧ Below W'.heap.size W' w2) := hide (fun W' hb => c131_any ((hb.cell (p := ⟨_, 0, none⟩) (lt_of_cell h2)).trans h2) (hFW.below hb (Nat.le_refl _)))
  by_cases t0 : rightB L l = true
  case neg => exact (cu_0 hF e0 (by unfold rtE; rw [if_neg t0]; rfl)).mono fun z w2 h => cu_zero (by unfold cuE preE; rw [if_neg t0, if_neg (by decide)]; unfold rtE; rw [if_neg t0]) (by unfold rtE; rw [if_neg t0]; rfl) h
  have r0 : rtE L l = 0 := if_pos t0
  by_cases t1 : L.st = 1
  case neg => exact (cu_1 hF e0 e1 r0 (by unfold lvE; rw [if_neg t1]; rfl)).mono fun z w2 h => cu_zero (by unfold cuE preE; rw [if_pos t0, if_neg t1, if_neg (by decide)]; unfold lvE; rw [if_neg t1]) (by unfold lvE; rw [if_neg t1]; rfl) h
  have r1 : lvE L = 0 := if_pos t1
  have hp : preE L l fl = comeE fl := by unfold preE; rw [if_pos t0, if_pos t1]
  by_cases t2 : comeE fl = 0
  case neg => exact (cu_2 hF e0 e1 e2 r0 r1 (by simpa using t2)).mono fun z w2 h => cu_zero (by unfold cuE; rw [hp, if_neg t2]) (by simpa using t2) h
  have hE : cuE L l fl = catE L fl := by unfold cuE; rw [hp, if_pos t2]
  have HD : Hid (∀ W', Below W.heap.size W W' → Calls (Tri Try.prog) 90 #[.agg (lnA L (.slice a n c)), .pointer (some ⟨fb0, 0, none⟩)] W' fun z w2 => ∃ a3 c3, z = .returned (.tuple #[.agg #[.int .i64 (catK L fl).id, .int .i64 (catK L fl).st, .int .i64 (catK L fl).be, .int .i64 (catK L fl).out, .int .i64 (catK L fl).rt, .int .i64 (catK L fl).gr, .int .i64 (catK L fl).due, .int .i64 (catK L fl).inc, .int .i64 (catK L fl).got, .int .i64 (catK L fl).adj, .int .i64 (catK L fl).wri, .int .i64 (catK L fl).rcv, .slice a3 (catL L fl).length c3, .int .i64 (catM L fl)], .int .i64 (catE L fl)]) ∧ Row w2 (.slice a3 (catL L fl).length c3) (catL L fl) ∧ Sl a3 (catL L fl).length c3 ∧ (∀ x, a3 = some x → W'.heap.size ≤ x.block) ∧ Below W'.heap.size W' w2) := hide (fun W' hb => clo_90 (hide (fun W2 hb2 => cat_any t0 ((hFW.below hb (Nat.le_refl _)).below hb2 (Nat.le_refl _)) hS hl)) ((hb.cell (p := ⟨_, 0, none⟩) (lt_of_cell h1)).trans h1))
  by_cases t3 : catE L fl = 0
  case neg => exact (cu_e hF e0 e1 e2 HD r0 r1 t2 (by simpa using t3)).mono fun z w2 h => cu_zero hE (by simpa using t3) h
  have h0 : cuE L l fl = 0 := hE.trans t3
  have hK : cuK L l fl = catK L fl := if_pos h0
  have hL : cuL L l fl = catL L fl := if_pos h0
  have hM : cuM L l fl = catM L fl := if_pos h0
  rw [hK, hL, hM, h0]
  exact cu_y hF e0 e1 e2 HD r0 r1 t2 t3
theorem catchup_any {L : Ln} {a a2 : Option Addr} {n c n2 c2 : Nat} {l fl : List Int} {w : World} (hR : Row w (.slice a n c) l) (hF : Row w (.slice a2 n2 c2) fl) (hS : Sl a2 n2 c2) (hl : fl.length ≤ 1000000) : Calls (Tri Try.prog) 40 #[.agg (lnA L (.slice a n c)), .slice a2 n2 c2] w fun z w2 => ∃ a3 c3, z = .returned (.tuple #[.agg (lnA (cuK L l fl) (.slice a3 (cuL L l fl).length c3)), .int .i64 (cuM L l fl), .int .i64 (cuE L l fl)]) ∧ Row w2 (.slice a3 (cuL L l fl).length c3) (cuL L l fl) ∧ Sl a3 (cuL L l fl).length c3 ∧ (∀ x, a3 = some x → w.heap.size ≤ x.block) ∧ Below w.heap.size w w2 := 
  out_40 (hide (fun W cb mb fb0 hb hBk h1 h2 => cu_in (hR.below hb (Nat.le_refl _)) (hF.below hb (Nat.le_refl _)) hS hl hBk h1 h2))
theorem ts_in {L : Ln} {a a2 : Option Addr} {n c n2 c2 : Nat} {l fl : List Int} {W : World} {cb mb fb0 : Nat} (hRW : Row W (.slice a n c) l) (hFW : Row W (.slice a2 n2 c2) fl) (hF : Blk W cb #[.func (.func 92) #[] #[], .func (.func 93) #[] #[], .func (.func 131) #[] #[.pointer (some ⟨mb, 0, none⟩)]] 115) (h1 : W.cell? ⟨fb0, 0, none⟩ = some (.slice a2 n2 c2)) (h2 : W.cell? ⟨mb, 0, none⟩ = some (.slice a2 n2 c2)) (h0 : tsE L l fl = 0) : Calls (Tri Try.prog) 102 #[.agg (lnA L (.slice a n c)), .func (.func 103) #[] #[.pointer (some ⟨fb0, 0, none⟩)], .slice (some ⟨cb, 0, none⟩) 3 3] W fun z w2 => z = .returned (.tuple #[.agg #[.int .i64 (tsN L l fl), .bool (tsB L l fl)], .int .i64 (tsE L l fl)]) ∧ Below W.heap.size W w2 := by
  have e0 : Hid (∀ W', Below W.heap.size W W' → Calls (Tri Try.prog) 92 #[.agg (lnA L (.slice a n c))] W' fun z w2 => z = .returned (.int .i64 (rtE L l)) ∧ Below W'.heap.size W' w2) := hide (fun W' hb => isr_any (hRW.below hb (Nat.le_refl _)))
  have e1 : Hid (∀ W', Below W.heap.size W W' → Calls (Tri Try.prog) 93 #[.agg (lnA L (.slice a n c))] W' fun z w2 => z = .returned (.int .i64 (lvE L)) ∧ Below W'.heap.size W' w2) := hide (fun W' hb => isl_any L _ W')
  have e2 : Hid (∀ W', Below W.heap.size W W' → Calls (Tri Try.prog) 131 #[.agg (lnA L (.slice a n c)), .pointer (some ⟨mb, 0, none⟩)] W' fun z w2 => z = .returned (.int .i64 (comeE fl)) ∧ Below W'.heap.size W' w2) := hide (fun W' hb => c131_any ((hb.cell (p := ⟨_, 0, none⟩) (lt_of_cell h2)).trans h2) (hFW.below hb (Nat.le_refl _)))
  have hp : preE L l fl = 0 := Classical.byContradiction fun hn => by unfold tsE at h0; rw [if_neg hn] at h0; exact hn h0
  have t3 : valE 1 fl L.rt = 0 := by unfold tsE at h0; rw [if_pos hp] at h0; exact h0
  unfold preE at hp
  have t0 : rightB L l = true := Classical.byContradiction fun hn => by rw [if_neg hn] at hp; cases hp
  rw [if_pos t0] at hp
  have t1 : L.st = 1 := Classical.byContradiction fun hn => by rw [if_neg hn] at hp; cases hp
  rw [if_pos t1] at hp
  have r0 : rtE L l = 0 := if_pos t0
  have r1 : lvE L = 0 := if_pos t1
  obtain ⟨_, _, b3, b4, _⟩ := rt_bd t0
  have HD : Hid (∀ W', Below W.heap.size W W' → Calls (Tri Try.prog) 103 #[.agg (lnA L (.slice a n c)), .pointer (some ⟨fb0, 0, none⟩)] W' fun z w2 => z = .returned (.tuple #[.agg #[.int .i64 (valN 1 fl L.rt), .bool (tstB L fl)], .int .i64 (valE 1 fl L.rt)]) ∧ Below W'.heap.size W' w2) := hide (fun W' hb => clo_103 (hide (fun W2 hb2 => test_any b3 b4 ((hFW.below hb (Nat.le_refl _)).below hb2 (Nat.le_refl _)))) ((hb.cell (p := ⟨_, 0, none⟩) (lt_of_cell h1)).trans h1))
  have hN : tsN L l fl = valN 1 fl L.rt := if_pos h0
  have hB : tsB L l fl = tstB L fl := by unfold tsB tstB; rw [h0, t3]
  rw [hN, hB, h0]
  exact ts_y hF e0 e1 e2 HD r0 r1 hp t3
theorem tested_any {L : Ln} {a a2 : Option Addr} {n c n2 c2 : Nat} {l fl : List Int} {w : World} (hR : Row w (.slice a n c) l) (hF : Row w (.slice a2 n2 c2) fl) (h0 : tsE L l fl = 0) : Calls (Tri Try.prog) 45 #[.agg (lnA L (.slice a n c)), .slice a2 n2 c2] w fun z w2 => z = .returned (.tuple #[.int .i64 (tsN L l fl), .bool (tsB L l fl), .int .i64 (tsE L l fl)]) ∧ Below w.heap.size w w2 := 
  out_45 (hide (fun W cb mb fb0 hb hBk h1 h2 => ts_in (hR.below hb (Nat.le_refl _)) (hF.below hb (Nat.le_refl _)) hBk h1 h2 h0))
theorem so13 : maySo 1000 [1100] = true := by decide +kernel
theorem cv13 : cov 1000 [1100] (-990000000000) = true ∧ cov 1000 [1100] 100000000000 = true ∧ cov 1000 [1100] 100001000000 = false ∧ cov 1000 [1100] 10000000000000 = false := by decide +kernel
theorem eg13 {r e : Int} (h : NewE 1 1000 [1100] r e) : e = 0 ∧ 100000000000 ≤ r ∧ r < 100001000000 := by
  have pos : ∀ x ∈ ([1100] : List Int), 0 ≤ x := by decide
  rcases h with ⟨h, _⟩ | ⟨_, h⟩
  · exact absurd h (by decide)
  rcases h with ⟨h, _⟩ | ⟨_, ⟨h, _⟩ | ⟨h, rfl⟩⟩
  · rw [so13] at h; cases h
  · rcases h with h | h
    · rw [cv13.1] at h; cases h
    · rw [cv13.2.2.2] at h; cases h
  · refine ⟨rfl, ?_, ?_⟩
    · refine Classical.byContradiction fun hn => ?_
      have a := h.lo
      have := cov_rate (r := r + 1) (s := 100000000000) ⟨by omega, by omega⟩ ⟨by omega, by omega⟩ (by omega) pos cv13.2.1
      rw [h.no] at this
      cases this
    · refine Classical.byContradiction fun hn => ?_
      have a := h.hi
      have := cov_rate (r := 100001000000) (s := r) ⟨by omega, by omega⟩ ⟨by omega, by omega⟩ (by omega) pos h.yes
      rw [cv13.2.2.1] at this
      cases this
theorem val_one {x r q : Int} (hr : May r) (hx : may x = true) (h1 : In64 x) (hq : qD x r = q) (h2 : -4611686018427387904 ≤ q) (h3 : q ≤ 4611686018427387904) : valE 1 [x] r = 0 ∧ valN 1 [x] r = q := by
  have hw : worth r [x] = q := by
    show qD (0 + x) r = q
    rw [Int.zero_add]; exact hq
  have hf : fits r [x] = true := by
    show (true && fitB (0 + x) (qD (0 + x) r)) = true
    rw [Bool.true_and, Int.zero_add, hq]
    exact fitB_iff.2 ⟨h1, h2, h3⟩
  have hE : valE 1 [x] r = 0 := by
    rw [valE_of (by simp) (by simp [hx]) hr, map_one, hf]
    rfl
  refine ⟨hE, ?_⟩
  unfold valN
  rw [if_pos hE, map_one, hw]
theorem qd_in {x r q : Int} (h1 : 100000000000 ≤ r) (h2 : r < 100001000000) (hx : 0 ≤ x) (e1 : qD x 100000000000 = q) (e2 : qD x 100001000000 = q) : qD x r = q := by
  have a := qD_anti (x := x) (r := 100000000000) (s := r) ⟨by omega, by omega⟩ h1 hx
  have b := qD_anti (x := x) (r := r) (s := 100001000000) ⟨by omega, by omega⟩ (by omega) hx
  omega
theorem q1210 {r : Int} (h1 : 100000000000 ≤ r) (h2 : r < 100001000000) : qD 1210 r = 1100 := qd_in h1 h2 (by omega) (by decide +kernel) (by decide +kernel)
theorem q1110 {r : Int} (h1 : 100000000000 ≤ r) (h2 : r < 100001000000) : qD 1110 r = 1009 := qd_in h1 h2 (by omega) (by decide +kernel) (by decide +kernel)
theorem al_right {r : Int} (h : May r) : rightB (newK 1 1000 r) [1100] = true := by
  unfold rightB mayBeB
  rw [show (newK 1 1000 r).rt = r from rfl, mayB_yes h]
  rfl
theorem al_adj {r : Int} (h : May r) : rightB (adjK (newK 1 1000 r) 1009) [1110] = true := by
  unfold rightB mayBeB
  rw [show (adjK (newK 1 1000 r) 1009).rt = r from rfl, mayB_yes h]
  rfl
theorem al_pre {r x : Int} (h : May r) (hx : comeE [x] = 0) : preE (newK 1 1000 r) [1100] [x] = 0 := by
  unfold preE
  rw [if_pos (al_right h), if_pos (show (newK 1 1000 r).st = 1 from rfl), hx]
theorem al_t1 {r : Int} (h1 : 100000000000 ≤ r) (h2 : r < 100001000000) : tsE (newK 1 1000 r) [1100] [1210] = 0 ∧ tsN (newK 1 1000 r) [1100] [1210] = 1100 ∧ tsB (newK 1 1000 r) [1100] [1210] = true := by
  have hm : May r := ⟨by omega, by omega⟩
  have v := val_one hm (x := 1210) rfl ⟨by omega, by omega⟩ (q1210 h1 h2) (by omega) (by omega)
  have e : tsE (newK 1 1000 r) [1100] [1210] = 0 := by unfold tsE; rw [if_pos (al_pre hm rfl)]; exact v.1
  refine ⟨e, ?_, ?_⟩
  · unfold tsN; rw [if_pos e]; exact v.2
  · unfold tsB; rw [e, show valN 1 [1210] (newK 1 1000 r).rt = 1100 from v.2]; rfl
theorem al_t2 {r : Int} (h1 : 100000000000 ≤ r) (h2 : r < 100001000000) : tsE (newK 1 1000 r) [1100] [1110] = 0 ∧ tsN (newK 1 1000 r) [1100] [1110] = 1009 ∧ tsB (newK 1 1000 r) [1100] [1110] = false := by
  have hm : May r := ⟨by omega, by omega⟩
  have v := val_one hm (x := 1110) rfl ⟨by omega, by omega⟩ (q1110 h1 h2) (by omega) (by omega)
  have e : tsE (newK 1 1000 r) [1100] [1110] = 0 := by unfold tsE; rw [if_pos (al_pre hm rfl)]; exact v.1
  refine ⟨e, ?_, ?_⟩
  · unfold tsN; rw [if_pos e]; exact v.2
  · unfold tsB; rw [e, show valN 1 [1110] (newK 1 1000 r).rt = 1009 from v.2]; rfl
theorem al_c {r : Int} (h1 : 100000000000 ≤ r) (h2 : r < 100001000000) : cuE (newK 1 1000 r) [1100] [1110] = 0 ∧ cuM (newK 1 1000 r) [1100] [1110] = 9 ∧ (cuK (newK 1 1000 r) [1100] [1110]).gr = 1009 ∧ (cuK (newK 1 1000 r) [1100] [1110]).adj = 9 := by
  have hm : May r := ⟨by omega, by omega⟩
  have v := val_one hm (x := 1110) rfl ⟨by omega, by omega⟩ (q1110 h1 h2) (by omega) (by omega)
  have vE : valE 1 [1110] (newK 1 1000 r).rt = 0 := v.1
  have vN : valN 1 [1110] (newK 1 1000 r).rt = 1009 := v.2
  have c : catE (newK 1 1000 r) [1110] = 0 := by unfold catE; rw [if_pos vE, vN, if_neg (by decide), if_pos (al_adj hm)]
  have e : cuE (newK 1 1000 r) [1100] [1110] = 0 := by unfold cuE; rw [if_pos (al_pre hm rfl)]; exact c
  have hK : cuK (newK 1 1000 r) [1100] [1110] = adjK (newK 1 1000 r) 1009 := by unfold cuK catK; rw [if_pos e, if_pos c, vN]
  refine ⟨e, ?_, ?_, ?_⟩
  · unfold cuM catM; rw [if_pos e, if_pos c, vN]; rfl
  · rw [hK]; rfl
  · rw [hK]; rfl
theorem row_1x (w : World) (x : Int) (hx : In64 x) : Row (w.alloc (.cells #[.int .i64 x] 2)) (.slice (some ⟨w.heap.size, 0, none⟩) 1 1) [x] := by
  refine Or.inr ⟨w.heap.size, 0, 1, rfl, by simp, by unfold maxLen; simp, fun j hj => ?_, fun z hz => by simp at hz; rcases hz with rfl; assumption⟩
  rw [World.cell?_alloc_at _ _ _ _ rfl]
  match j, hj with
  | 0, _ => rfl
def AliveR : Prop := ∀ w : World, Calls (Tri Try.prog) 38 #[] w fun e w' => e = .returned (.bool true) ∧ Below w.heap.size w w'
set_option maxHeartbeats 4000000 in
theorem aliveR : AliveR := by
  intro w
  have HN := hide (new_any (id := 1) (out := 1000) ⟨by omega, by omega⟩ (row_1x w 1100 ⟨by omega, by omega⟩) ⟨Nat.le_refl _, fun e => by cases e⟩ (by simp))
  unfold NewA at HN
  have HB := hide (below1L w (.cells #[.int .i64 1100] 2))
  go_enter (Tri.at (by decide) Try.func38), Try.ntmps38
  go_wp2_with fail
  refine (unhide HN).mono ?_
  rintro z w1 ⟨r, e, hE, hz, hb⟩
  obtain ⟨rfl, r1, r2⟩ := eg13 hE
  rcases hz with ⟨h, _⟩ | ⟨_, a1, c1, rfl, hr, hs, _⟩
  · exact absurd rfl h
  replace HB := hide (below_via (unhide HB) hb)
  have HR := hide hr
  have HS := hide hs
  clear hb hr hs hE HN
  have T1 : Hid (∀ (w1 : World) (a : Option Addr) (c : Nat) (a2 : Option Addr) (c2 : Nat), Row w1 (.slice a 1 c) [1100] → Row w1 (.slice a2 1 c2) [1210] → Calls (Tri Try.prog) 45 #[.agg (lnA (newK 1 1000 r) (.slice a 1 c)), .slice a2 1 c2] w1 fun z w2 => z = .returned (.tuple #[.int .i64 1100, .bool true, .int .i64 0]) ∧ Below w1.heap.size w1 w2) := hide (fun w1 a c a2 c2 h1 h2 => by
    have h := tested_any (L := (newK 1 1000 r)) h1 h2 (al_t1 r1 r2).1
    rw [(al_t1 r1 r2).1, (al_t1 r1 r2).2.1, (al_t1 r1 r2).2.2] at h
    exact h)
  have T2 : Hid (∀ (w1 : World) (a : Option Addr) (c : Nat) (a2 : Option Addr) (c2 : Nat), Row w1 (.slice a 1 c) [1100] → Row w1 (.slice a2 1 c2) [1110] → Calls (Tri Try.prog) 45 #[.agg (lnA (newK 1 1000 r) (.slice a 1 c)), .slice a2 1 c2] w1 fun z w2 => z = .returned (.tuple #[.int .i64 1009, .bool false, .int .i64 0]) ∧ Below w1.heap.size w1 w2) := hide (fun w1 a c a2 c2 h1 h2 => by
    have h := tested_any (L := (newK 1 1000 r)) h1 h2 (al_t2 r1 r2).1
    rw [(al_t2 r1 r2).1, (al_t2 r1 r2).2.1, (al_t2 r1 r2).2.2] at h
    exact h)
  have T3 : Hid (∀ (w1 : World) (a : Option Addr) (c : Nat) (a2 : Option Addr) (c2 : Nat), Row w1 (.slice a 1 c) [1100] → Row w1 (.slice a2 1 c2) [1110] → Sl a2 1 c2 → Calls (Tri Try.prog) 40 #[.agg (lnA (newK 1 1000 r) (.slice a 1 c)), .slice a2 1 c2] w1 fun z w2 => ∃ (K : Ln) (a3 : Option Addr) (n3 c3 : Nat), K.gr = 1009 ∧ K.adj = 9 ∧ z = .returned (.tuple #[.agg (lnA K (.slice a3 n3 c3)), .int .i64 9, .int .i64 0]) ∧ Below w1.heap.size w1 w2) := hide (fun w1 a c a2 c2 h1 h2 h3 => (catchup_any (L := (newK 1 1000 r)) h1 h2 h3 (by simp)).mono fun z w2 ⟨a3, c3, g1, _, _, _, g5⟩ => by
    rw [(al_c r1 r2).1, (al_c r1 r2).2.1] at g1
    exact ⟨_, _, _, _, (al_c r1 r2).2.2.1, (al_c r1 r2).2.2.2, g1, g5⟩)
  clear r1 r2
  generalize newK 1 1000 r = K0 at *
  have HK := hide (Blk.new w1 (lnA K0 (.slice a1 1 c1)) 53)
  have HR1 := hide ((unhide HR).alloc (.cells (lnA K0 (.slice a1 1 c1)) 53))
  replace HB := hide (below_via (unhide HB) (below1L w1 (.cells (lnA K0 (.slice a1 1 c1)) 53)))
  generalize hU1 : w1.alloc (.cells (lnA K0 (.slice a1 1 c1)) 53) = U1 at HK HR1 HB
  have HRa := hide ((unhide HR1).alloc (.cells #[.int .i64 1210] 2))
  have HRb := hide (row_1x U1 1210 ⟨by omega, by omega⟩)
  have HKa := hide ((show Blk _ _ _ _ from unhide HK).alloc (.cells #[.int .i64 1210] 2))
  replace HB := hide (below_via (unhide HB) (below1L U1 (.cells #[.int .i64 1210] 2)))
  obtain ⟨q0, q1, q2, q3, q4, q5, q6, q7, q8, q9, q10, q11, q12⟩ := Blk.c13 (show Blk _ _ _ _ from unhide HK)
  go_wp2_with fail
  clear hU1 q0 q1 q2 q3 q4 q5 q6 q7 q8 q9 q10 q11 q12
  refine (unhide T1 _ _ _ _ _ (unhide HRa) (unhide HRb)).mono ?_
  rintro z w2 ⟨rfl, hb⟩
  replace HB := hide (below_via (unhide HB) hb)
  have HK2 := hide ((show Blk _ _ _ _ from unhide HKa).keep hb)
  have HR2 := hide ((unhide HRa).below hb (Nat.le_refl _))
  clear hb HRa HRb HKa HK HR1 T1
  have HRa := hide ((unhide HR2).alloc (.cells #[.int .i64 1110] 2))
  have HRb := hide (row_1x w2 1110 ⟨by omega, by omega⟩)
  have HKa := hide ((show Blk _ _ _ _ from unhide HK2).alloc (.cells #[.int .i64 1110] 2))
  replace HB := hide (below_via (unhide HB) (below1L w2 (.cells #[.int .i64 1110] 2)))
  obtain ⟨q0, q1, q2, q3, q4, q5, q6, q7, q8, q9, q10, q11, q12⟩ := Blk.c13 (show Blk _ _ _ _ from unhide HK2)
  go_wp2_with fail
  clear q0 q1 q2 q3 q4 q5 q6 q7 q8 q9 q10 q11 q12
  refine (unhide T2 _ _ _ _ _ (unhide HRa) (unhide HRb)).mono ?_
  rintro z w3 ⟨rfl, hb⟩
  replace HB := hide (below_via (unhide HB) hb)
  have HK3 := hide ((show Blk _ _ _ _ from unhide HKa).keep hb)
  have HR3 := hide ((unhide HRa).below hb (Nat.le_refl _))
  clear hb HRa HRb HKa HK2 HR2 T2
  have HRa := hide ((unhide HR3).alloc (.cells #[.int .i64 1110] 2))
  have HRb := hide (row_1x w3 1110 ⟨by omega, by omega⟩)
  replace HB := hide (below_via (unhide HB) (below1L w3 (.cells #[.int .i64 1110] 2)))
  obtain ⟨q0, q1, q2, q3, q4, q5, q6, q7, q8, q9, q10, q11, q12⟩ := Blk.c13 (show Blk _ _ _ _ from unhide HK3)
  go_wp2_with fail
  clear q0 q1 q2 q3 q4 q5 q6 q7 q8 q9 q10 q11 q12
  refine (unhide T3 _ _ _ _ _ (unhide HRa) (unhide HRb) ⟨Nat.le_refl _, fun e => by cases e⟩).mono ?_
  rintro z w4 ⟨K, a3, n3, c3, k1, k2, rfl, hb⟩
  replace HB := hide (below_via (below_via (unhide HB) hb) (below1L w4 (.cells (lnA K (.slice a3 n3 c3)) 53)))
  clear hb HRa HRb HK3 HR3 T3 HR HS
  have d1 : (K.gr == 1009) = true := by rw [k1]; rfl
  have d2 : (K.adj == 9) = true := by rw [k2]; rfl
  clear k1 k2
  go_wp2_with fail
  go_ret
  exact ⟨rfl, unhide HB⟩
theorem great_any (L : Ln) (a a2 : Option Addr) (n c n2 c2 : Nat) (id fair : Int) (G : Bool) (h : G = (decide (700 < n) || decide (60 < n2))) (w : World) : Calls (Tri Try.prog) 39 #[.agg #[.int .i64 L.id, .int .i64 L.st, .int .i64 L.be, .int .i64 L.out, .int .i64 L.rt, .int .i64 L.gr, .int .i64 L.due, .int .i64 L.inc, .int .i64 L.got, .int .i64 L.adj, .int .i64 L.wri, .int .i64 L.rcv, .slice a n c, .slice a2 n2 c2, .int .i64 id, .int .i64 fair]] w fun z w' => z = .returned (.bool G) ∧ Below w.heap.size w w' := by
  have HB := hide (below1L w (.cells #[.int .i64 L.id, .int .i64 L.st, .int .i64 L.be, .int .i64 L.out, .int .i64 L.rt, .int .i64 L.gr, .int .i64 L.due, .int .i64 L.inc, .int .i64 L.got, .int .i64 L.adj, .int .i64 L.wri, .int .i64 L.rcv, .slice a n c, .slice a2 n2 c2, .int .i64 id, .int .i64 fair] 81))
  by_cases h1 : 700 < n
  · have d1 : decide ((700 : Int) < (n : Int)) = true := decide_eq_true (by omega)
    obtain rfl : G = true := by rw [h, decide_eq_true h1, Bool.true_or]
    clear h
    go_enter (Tri.at (by decide) Try.func39), Try.ntmps39
    go_wp2_with fail
    go_ret
    exact ⟨rfl, unhide HB⟩
  · have d1 : decide ((700 : Int) < (n : Int)) = false := decide_eq_false (by omega)
    by_cases h2 : 60 < n2
    · have d2 : decide ((60 : Int) < (n2 : Int)) = true := decide_eq_true (by omega)
      obtain rfl : G = true := by rw [h, decide_eq_true h2, Bool.or_true]
      clear h
      go_enter (Tri.at (by decide) Try.func39), Try.ntmps39
      go_wp2_with fail
      go_ret
      exact ⟨rfl, unhide HB⟩
    · have d2 : decide ((60 : Int) < (n2 : Int)) = false := decide_eq_false (by omega)
      obtain rfl : G = false := by rw [h, decide_eq_false h1, decide_eq_false h2]; rfl
      clear h
      go_enter (Tri.at (by decide) Try.func39), Try.ntmps39
      go_wp2_with fail
      go_ret
      exact ⟨rfl, unhide HB⟩
end Go.Proofs.Ytpeoabopeihadaa.Mn
