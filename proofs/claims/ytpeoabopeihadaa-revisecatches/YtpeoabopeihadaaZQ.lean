/- CatchUp and Test, whole. -/
import Derived.Test.YtpeoabopeihadaaZM
import Derived.Test.YtpeoabopeihadaaZN
import Derived.Test.YtpeoabopeihadaaZRvI
import Derived.Test.YtpeoabopeihadaaZO
import Derived.Test.YtpeoabopeihadaaZR
import Derived.Test.YtpeoabopeihadaaZP
set_option linter.unusedVariables false
set_option linter.unusedSimpArgs false
set_option linter.unusedSectionVars false
namespace Go.Proofs.Ytpeoabopeihadaa.Mn
open Go.RowKit
attribute [local simp] Tri.typeInfo Tri.sizeOf Tri.underlying Tri.runUnderlying Tri.isAgg Tri.zeroValue Tri.depth Tri.stoodInHeld Tri.eqGuardType Tri.call15 Tri.call27 Tri.call29 Tri.call30 Tri.call31 Tri.call32 Tri.call38 Tri.call39 Tri.call40 Tri.call41 Tri.call42 Tri.call45 Tri.call46 Tri.call49 Tri.call52 Tri.call54 Tri.call65 Tri.call69 Tri.call70 Tri.call72 Tri.call73 Tri.call74 Tri.call75 Tri.call89 Tri.call90 Tri.call91 Tri.call92 Tri.call93 Tri.call94 Tri.call95 Tri.call102 Tri.call103 Tri.call104 Tri.call106 Tri.call116 Tri.call117 Tri.call118 Tri.call119 Tri.call120 Tri.call122 Tri.call126 Tri.call130 Tri.call131 Tri.call132 Tri.call143 Tri.call144 Tri.call145 Tri.call146 Tri.call147 Tri.call156 Tri.call157 Tri.call159 Tri.call160 Tri.call161 Tri.call162 Tri.call163 Tri.call164 Tri.call165 Tri.call175 Tri.call176 Tri.call186 Tri.call188 Tri.call205
theorem clo_103 {L : Ln} {a : Option Addr} {n c : Nat} {m e : Int} {B : Bool} {w : World} {v : Value} {fb : Nat} (HC : Hid (∀ W, Below w.heap.size w W → Calls (Tri Try.prog) 104 #[.agg #[.int .i64 L.id, .int .i64 L.st, .int .i64 L.be, .int .i64 L.out, .int .i64 L.rt, .int .i64 L.gr, .int .i64 L.due, .int .i64 L.inc, .int .i64 L.got, .int .i64 L.adj, .int .i64 L.wri, .int .i64 L.rcv, .slice a n c], v] W fun z w2 => z = .returned (.tuple #[.agg #[.int .i64 m, .bool B], .int .i64 e]) ∧ Below W.heap.size W w2)) (hp : w.cell? ⟨fb, 0, none⟩ = some v) : Calls (Tri Try.prog) 103 #[.agg #[.int .i64 L.id, .int .i64 L.st, .int .i64 L.be, .int .i64 L.out, .int .i64 L.rt, .int .i64 L.gr, .int .i64 L.due, .int .i64 L.inc, .int .i64 L.got, .int .i64 L.adj, .int .i64 L.wri, .int .i64 L.rcv, .slice a n c], .pointer (some ⟨fb, 0, none⟩)] w fun z w2 => z = .returned (.tuple #[.agg #[.int .i64 m, .bool B], .int .i64 e]) ∧ Below w.heap.size w w2 := by
  have HB : Hid (Below w.heap.size w ((w.alloc (.cells #[.int .i64 L.id, .int .i64 L.st, .int .i64 L.be, .int .i64 L.out, .int .i64 L.rt, .int .i64 L.gr, .int .i64 L.due, .int .i64 L.inc, .int .i64 L.got, .int .i64 L.adj, .int .i64 L.wri, .int .i64 L.rcv, .slice a n c] 53)).alloc (.cells #[.int .i64 0, .bool false] 139))) := hide ((below1L w _).alloc (by simp) _)
  have HZ : Hid (Blk ((w.alloc (.cells #[.int .i64 L.id, .int .i64 L.st, .int .i64 L.be, .int .i64 L.out, .int .i64 L.rt, .int .i64 L.gr, .int .i64 L.due, .int .i64 L.inc, .int .i64 L.got, .int .i64 L.adj, .int .i64 L.wri, .int .i64 L.rcv, .slice a n c] 53)).alloc (.cells #[.int .i64 0, .bool false] 139)) (w.heap.size + 1) #[.int .i64 0, .bool false] 139) := hide (by have h := Blk.new (w.alloc (.cells #[.int .i64 L.id, .int .i64 L.st, .int .i64 L.be, .int .i64 L.out, .int .i64 L.rt, .int .i64 L.gr, .int .i64 L.due, .int .i64 L.inc, .int .i64 L.got, .int .i64 L.adj, .int .i64 L.wri, .int .i64 L.rcv, .slice a n c] 53)) #[.int .i64 0, .bool false] 139; simpa using h)
  have hq := cell_old (cell_old hp (.cells #[.int .i64 L.id, .int .i64 L.st, .int .i64 L.be, .int .i64 L.out, .int .i64 L.rt, .int .i64 L.gr, .int .i64 L.due, .int .i64 L.inc, .int .i64 L.got, .int .i64 L.adj, .int .i64 L.wri, .int .i64 L.rcv, .slice a n c] 53)) (.cells #[.int .i64 0, .bool false] 139)
  replace HC := hide (unhide HC _ (unhide HB))
  go_enter (Tri.at (by decide) Try.func103), Try.ntmps103
  go_wp2_with fail
  refine (unhide HC).mono ?_
  rintro z w1 ⟨rfl, hb⟩
  replace HB := hide (below_via (unhide HB) hb)
  replace HZ := hide ((show Blk _ _ _ _ from unhide HZ).keep hb)
  clear hb hq hp HC
  obtain ⟨y0, y1⟩ := Blk.c2 (show Blk _ _ _ _ from unhide HZ)
  obtain ⟨v0, v1⟩ := Blk.z2 (show Blk _ _ _ _ from unhide HZ)
  go_wp2_with fail
  clear y0 y1 v0 v1
  generalize hW : World.setCell _ _ _ = W
  have k2 : Blk W (w.heap.size + 1) #[.int .i64 m, .bool B] 139 := by rw [← hW]; exact (show Blk _ _ _ _ from unhide HZ).wr2 _ _
  have k4 : Below w.heap.size w W := by rw [← hW]; exact below_putN (by omega) [.int .i64 m, .bool B] 0 (unhide HB)
  clear hW
  have p0 := k2.at 0 (.int .i64 m) rfl
  have p1 := k2.at 1 (.bool B) rfl
  exact bodyPost_ret (v := .tuple #[.agg #[.int .i64 m, .bool B], .int .i64 e]) (by simp [results, Try.results103, go_sem, p0, p1]) rfl ⟨rfl, k4⟩
theorem rt_bd {L : Ln} {l : List Int} (h : rightB L l = true) : -1125899906842624 ≤ L.adj ∧ L.adj ≤ 1125899906842624 ∧ 0 ≤ L.gr ∧ L.gr ≤ 1125899906842624 ∧ May L.rt := by
  unfold rightB mayBeB sumB at h
  simp only [Bool.and_eq_true] at h
  have h1 := inB_yes h.2.2.1.1.1.1.1
  have h2 := inB_yes h.2.2.1.2.2
  have h3 : May L.rt := Classical.byContradiction fun hn => by have := h.1.2; rw [mayB_no hn] at this; cases this
  exact ⟨h2.1, h2.2, h1.1, h1.2, h3⟩
def zL0 : Ln := ⟨0, 0, 0, 0, 0, 0, 0, 0, 0, 0, 0, 0⟩
def catE (L : Ln) (fl : List Int) : Int := if valE 1 fl L.rt = 0 then (if valN 1 fl L.rt < 1 then 2 else if rightB (adjK L (valN 1 fl L.rt)) fl = true then 0 else 3) else valE 1 fl L.rt
def catK (L : Ln) (fl : List Int) : Ln := if catE L fl = 0 then adjK L (valN 1 fl L.rt) else zL0
def catL (L : Ln) (fl : List Int) : List Int := if catE L fl = 0 then fl else []
def catM (L : Ln) (fl : List Int) : Int := if catE L fl = 0 then valN 1 fl L.rt - L.gr else 0
def preE (L : Ln) (l fl : List Int) : Int := if rightB L l = true then (if L.st = 1 then comeE fl else 12) else 2
def cuE (L : Ln) (l fl : List Int) : Int := if preE L l fl = 0 then catE L fl else preE L l fl
def cuK (L : Ln) (l fl : List Int) : Ln := if cuE L l fl = 0 then catK L fl else zL0
def cuL (L : Ln) (l fl : List Int) : List Int := if cuE L l fl = 0 then catL L fl else []
def cuM (L : Ln) (l fl : List Int) : Int := if cuE L l fl = 0 then catM L fl else 0
def tsE (L : Ln) (l fl : List Int) : Int := if preE L l fl = 0 then valE 1 fl L.rt else preE L l fl
def tsN (L : Ln) (l fl : List Int) : Int := if tsE L l fl = 0 then valN 1 fl L.rt else 0
def tsB (L : Ln) (l fl : List Int) : Bool := decide (tsE L l fl = 0) && apB (valN 1 fl L.rt) L.gr
theorem cat_zero {L : Ln} {fl : List Int} {w w2 : World} {z : Ending} {e : Int} (h : catE L fl = e) (he : e ≠ 0) (hz : z = .returned (.tuple #[.agg #[.int .i64 0, .int .i64 0, .int .i64 0, .int .i64 0, .int .i64 0, .int .i64 0, .int .i64 0, .int .i64 0, .int .i64 0, .int .i64 0, .int .i64 0, .int .i64 0, .slice none 0 0, .int .i64 0], .int .i64 e]) ∧ Below w.heap.size w w2) : (fun z w2 => ∃ a3 c3, z = .returned (.tuple #[.agg #[.int .i64 (catK L fl).id, .int .i64 (catK L fl).st, .int .i64 (catK L fl).be, .int .i64 (catK L fl).out, .int .i64 (catK L fl).rt, .int .i64 (catK L fl).gr, .int .i64 (catK L fl).due, .int .i64 (catK L fl).inc, .int .i64 (catK L fl).got, .int .i64 (catK L fl).adj, .int .i64 (catK L fl).wri, .int .i64 (catK L fl).rcv, .slice a3 (catL L fl).length c3, .int .i64 (catM L fl)], .int .i64 (catE L fl)]) ∧ Row w2 (.slice a3 (catL L fl).length c3) (catL L fl) ∧ Sl a3 (catL L fl).length c3 ∧ (∀ x, a3 = some x → w.heap.size ≤ x.block) ∧ Below w.heap.size w w2) z w2 := by
  have hn : ¬ catE L fl = 0 := by rw [h]; exact he
  have hK : catK L fl = zL0 := if_neg hn
  have hL : catL L fl = [] := if_neg hn
  have hM : catM L fl = 0 := if_neg hn
  show ∃ a3 c3, _
  rw [hK, hL, hM, h]
  exact ⟨none, 0, hz.1, .inl ⟨none, 0, rfl, rfl⟩, Sl.nil, fun x hx => (nomatch hx), hz.2⟩
theorem cat_any {L : Ln} {a a2 : Option Addr} {n c n2 c2 : Nat} {l fl : List Int} {w : World} (hr : rightB L l = true) (hR : Row w (.slice a2 n2 c2) fl) (hS : Sl a2 n2 c2) (hl : fl.length ≤ 1000000) : Calls (Tri Try.prog) 91 #[.agg #[.int .i64 L.id, .int .i64 L.st, .int .i64 L.be, .int .i64 L.out, .int .i64 L.rt, .int .i64 L.gr, .int .i64 L.due, .int .i64 L.inc, .int .i64 L.got, .int .i64 L.adj, .int .i64 L.wri, .int .i64 L.rcv, .slice a n c], .slice a2 n2 c2] w fun z w2 => ∃ a3 c3, z = .returned (.tuple #[.agg #[.int .i64 (catK L fl).id, .int .i64 (catK L fl).st, .int .i64 (catK L fl).be, .int .i64 (catK L fl).out, .int .i64 (catK L fl).rt, .int .i64 (catK L fl).gr, .int .i64 (catK L fl).due, .int .i64 (catK L fl).inc, .int .i64 (catK L fl).got, .int .i64 (catK L fl).adj, .int .i64 (catK L fl).wri, .int .i64 (catK L fl).rcv, .slice a3 (catL L fl).length c3, .int .i64 (catM L fl)], .int .i64 (catE L fl)]) ∧ Row w2 (.slice a3 (catL L fl).length c3) (catL L fl) ∧ Sl a3 (catL L fl).length c3 ∧ (∀ x, a3 = some x → w.heap.size ≤ x.block) ∧ Below w.heap.size w w2 := by
  obtain ⟨b1, b2, b3, b4, _⟩ := rt_bd hr
  have HT : Hid (∀ W, Row W (.slice a2 n2 c2) fl → Calls (Tri Try.prog) 104 #[.agg #[.int .i64 L.id, .int .i64 L.st, .int .i64 L.be, .int .i64 L.out, .int .i64 L.rt, .int .i64 L.gr, .int .i64 L.due, .int .i64 L.inc, .int .i64 L.got, .int .i64 L.adj, .int .i64 L.wri, .int .i64 L.rcv, .slice a n c], .slice a2 n2 c2] W fun z w2 => z = .returned (.tuple #[.agg #[.int .i64 (valN 1 fl L.rt), .bool (tstB L fl)], .int .i64 (valE 1 fl L.rt)]) ∧ Below W.heap.size W w2) := hide (fun W h => test_any b3 b4 h)
  by_cases hE : valE 1 fl L.rt = 0
  · by_cases hN : valN 1 fl L.rt < 1
    · exact (cat_n hR HT hE hN).mono fun z w2 h => cat_zero (by unfold catE; rw [if_pos hE, if_pos hN]) (by decide) h
    · by_cases hB : rightB (adjK L (valN 1 fl L.rt)) fl = true
      · have h0 : catE L fl = 0 := by unfold catE; rw [if_pos hE, if_neg hN, if_pos hB]
        have hK : catK L fl = adjK L (valN 1 fl L.rt) := if_pos h0
        have hL : catL L fl = fl := if_pos h0
        have hM : catM L fl = valN 1 fl L.rt - L.gr := if_pos h0
        rw [hK, hL, hM, h0]
        exact cat_y hR HT b1 b2 b3 b4 hS hl hE hN (valN_bd 1 fl L.rt).2 hB
      · exact (cat_o hR HT b1 b2 b3 b4 hS hl hE hN (valN_bd 1 fl L.rt).2 (Bool.eq_false_iff.2 hB)).mono fun z w2 h => cat_zero (by unfold catE; rw [if_pos hE, if_neg hN, if_neg hB]) (by decide) h
  · exact (cat_e hR HT (by simpa using hE)).mono fun z w2 h => cat_zero (by unfold catE; rw [if_neg hE]) hE h
theorem cu_zero {L : Ln} {l fl : List Int} {w w2 : World} {z : Ending} {e : Int} (h : cuE L l fl = e) (he : (e != 0) = true) (hz : z = .returned (.tuple #[.agg #[.int .i64 0, .int .i64 0, .int .i64 0, .int .i64 0, .int .i64 0, .int .i64 0, .int .i64 0, .int .i64 0, .int .i64 0, .int .i64 0, .int .i64 0, .int .i64 0, .slice none 0 0, .int .i64 0], .int .i64 e]) ∧ Below w.heap.size w w2) : (fun z w2 => ∃ a3 c3, z = .returned (.tuple #[.agg #[.int .i64 (cuK L l fl).id, .int .i64 (cuK L l fl).st, .int .i64 (cuK L l fl).be, .int .i64 (cuK L l fl).out, .int .i64 (cuK L l fl).rt, .int .i64 (cuK L l fl).gr, .int .i64 (cuK L l fl).due, .int .i64 (cuK L l fl).inc, .int .i64 (cuK L l fl).got, .int .i64 (cuK L l fl).adj, .int .i64 (cuK L l fl).wri, .int .i64 (cuK L l fl).rcv, .slice a3 (cuL L l fl).length c3, .int .i64 (cuM L l fl)], .int .i64 (cuE L l fl)]) ∧ Row w2 (.slice a3 (cuL L l fl).length c3) (cuL L l fl) ∧ Sl a3 (cuL L l fl).length c3 ∧ (∀ x, a3 = some x → w.heap.size ≤ x.block) ∧ Below w.heap.size w w2) z w2 := by
  have hn : ¬ cuE L l fl = 0 := by rw [h]; simpa using he
  have hK : cuK L l fl = zL0 := if_neg hn
  have hL : cuL L l fl = [] := if_neg hn
  have hM : cuM L l fl = 0 := if_neg hn
  show ∃ a3 c3, _
  rw [hK, hL, hM, h]
  exact ⟨none, 0, hz.1, .inl ⟨none, 0, rfl, rfl⟩, Sl.nil, fun x hx => (nomatch hx), hz.2⟩
theorem cu_in {L : Ln} {a a2 : Option Addr} {n c n2 c2 : Nat} {l fl : List Int} {W : World} {cb mb fb0 : Nat} (hRW : Row W (.slice a n c) l) (hFW : Row W (.slice a2 n2 c2) fl) (hS : Sl a2 n2 c2) (hl : fl.length ≤ 1000000) (hF : Blk W cb #[.func (.func 92) #[] #[], .func (.func 93) #[] #[], .func (.func 131) #[] #[.pointer (some ⟨mb, 0, none⟩)]] 115) (h1 : W.cell? ⟨fb0, 0, none⟩ = some (.slice a2 n2 c2)) (h2 : W.cell? ⟨mb, 0, none⟩ = some (.slice a2 n2 c2)) : Calls (Tri Try.prog) 89 #[.agg #[.int .i64 L.id, .int .i64 L.st, .int .i64 L.be, .int .i64 L.out, .int .i64 L.rt, .int .i64 L.gr, .int .i64 L.due, .int .i64 L.inc, .int .i64 L.got, .int .i64 L.adj, .int .i64 L.wri, .int .i64 L.rcv, .slice a n c], .func (.func 90) #[] #[.pointer (some ⟨fb0, 0, none⟩)], .slice (some ⟨cb, 0, none⟩) 3 3] W fun z w2 => ∃ a3 c3, z = .returned (.tuple #[.agg #[.int .i64 (cuK L l fl).id, .int .i64 (cuK L l fl).st, .int .i64 (cuK L l fl).be, .int .i64 (cuK L l fl).out, .int .i64 (cuK L l fl).rt, .int .i64 (cuK L l fl).gr, .int .i64 (cuK L l fl).due, .int .i64 (cuK L l fl).inc, .int .i64 (cuK L l fl).got, .int .i64 (cuK L l fl).adj, .int .i64 (cuK L l fl).wri, .int .i64 (cuK L l fl).rcv, .slice a3 (cuL L l fl).length c3, .int .i64 (cuM L l fl)], .int .i64 (cuE L l fl)]) ∧ Row w2 (.slice a3 (cuL L l fl).length c3) (cuL L l fl) ∧ Sl a3 (cuL L l fl).length c3 ∧ (∀ x, a3 = some x → W.heap.size ≤ x.block) ∧ Below W.heap.size W w2 := by
  have e0 : Hid (∀ W', Below W.heap.size W W' → Calls (Tri Try.prog) 92 #[.agg #[.int .i64 L.id, .int .i64 L.st, .int .i64 L.be, .int .i64 L.out, .int .i64 L.rt, .int .i64 L.gr, .int .i64 L.due, .int .i64 L.inc, .int .i64 L.got, .int .i64 L.adj, .int .i64 L.wri, .int .i64 L.rcv, .slice a n c]] W' fun z w2 => z = .returned (.int .i64 (rtE L l)) ∧ Below W'.heap.size W' w2) := hide (fun W' hb => isr_any (hRW.below hb (Nat.le_refl _)))
  have e1 : Hid (∀ W', Below W.heap.size W W' → Calls (Tri Try.prog) 93 #[.agg #[.int .i64 L.id, .int .i64 L.st, .int .i64 L.be, .int .i64 L.out, .int .i64 L.rt, .int .i64 L.gr, .int .i64 L.due, .int .i64 L.inc, .int .i64 L.got, .int .i64 L.adj, .int .i64 L.wri, .int .i64 L.rcv, .slice a n c]] W' fun z w2 => z = .returned (.int .i64 (lvE L)) ∧ Below W'.heap.size W' w2) := hide (fun W' hb => isl_any L _ W')
  have e2 : Hid (∀ W', Below W.heap.size W W' → Calls (Tri Try.prog) 131 #[.agg #[.int .i64 L.id, .int .i64 L.st, .int .i64 L.be, .int .i64 L.out, .int .i64 L.rt, .int .i64 L.gr, .int .i64 L.due, .int .i64 L.inc, .int .i64 L.got, .int .i64 L.adj, .int .i64 L.wri, .int .i64 L.rcv, .slice a n c], .pointer (some ⟨mb, 0, none⟩)] W' fun z w2 => z = .returned (.int .i64 (comeE fl)) ∧ Below W'.heap.size W' w2) := hide (fun W' hb => c131_any ((hb.cell (p := ⟨_, 0, none⟩) (lt_of_cell h2)).trans h2) (hFW.below hb (Nat.le_refl _)))
  by_cases t0 : rightB L l = true
  case neg => exact (cu_0 hF e0 (by unfold rtE; rw [if_neg t0]; rfl)).mono fun z w2 h => cu_zero (by unfold cuE preE; rw [if_neg t0, if_neg (by decide)]; unfold rtE; rw [if_neg t0]) (by unfold rtE; rw [if_neg t0]; rfl) h
  have r0 : rtE L l = 0 := if_pos t0
  by_cases t1 : L.st = 1
  case neg => exact (cu_1 hF e0 e1 r0 (by unfold lvE; rw [if_neg t1]; rfl)).mono fun z w2 h => cu_zero (by unfold cuE preE; rw [if_pos t0, if_neg t1, if_neg (by decide)]; unfold lvE; rw [if_neg t1]) (by unfold lvE; rw [if_neg t1]; rfl) h
  have r1 : lvE L = 0 := if_pos t1
  have hp : preE L l fl = comeE fl := by unfold preE; rw [if_pos t0, if_pos t1]
  by_cases t2 : comeE fl = 0
  case neg => exact (cu_2 hF e0 e1 e2 r0 r1 (by simpa using t2)).mono fun z w2 h => cu_zero (by unfold cuE; rw [hp, if_neg t2]) (by simpa using t2) h
  have hE : cuE L l fl = catE L fl := by unfold cuE; rw [hp, if_pos t2]
  have HD : Hid (∀ W', Below W.heap.size W W' → Calls (Tri Try.prog) 90 #[.agg #[.int .i64 L.id, .int .i64 L.st, .int .i64 L.be, .int .i64 L.out, .int .i64 L.rt, .int .i64 L.gr, .int .i64 L.due, .int .i64 L.inc, .int .i64 L.got, .int .i64 L.adj, .int .i64 L.wri, .int .i64 L.rcv, .slice a n c], .pointer (some ⟨fb0, 0, none⟩)] W' fun z w2 => ∃ a3 c3, z = .returned (.tuple #[.agg #[.int .i64 (catK L fl).id, .int .i64 (catK L fl).st, .int .i64 (catK L fl).be, .int .i64 (catK L fl).out, .int .i64 (catK L fl).rt, .int .i64 (catK L fl).gr, .int .i64 (catK L fl).due, .int .i64 (catK L fl).inc, .int .i64 (catK L fl).got, .int .i64 (catK L fl).adj, .int .i64 (catK L fl).wri, .int .i64 (catK L fl).rcv, .slice a3 (catL L fl).length c3, .int .i64 (catM L fl)], .int .i64 (catE L fl)]) ∧ Row w2 (.slice a3 (catL L fl).length c3) (catL L fl) ∧ Sl a3 (catL L fl).length c3 ∧ (∀ x, a3 = some x → W'.heap.size ≤ x.block) ∧ Below W'.heap.size W' w2) := hide (fun W' hb => clo_90 (hide (fun W2 hb2 => cat_any t0 ((hFW.below hb (Nat.le_refl _)).below hb2 (Nat.le_refl _)) hS hl)) ((hb.cell (p := ⟨_, 0, none⟩) (lt_of_cell h1)).trans h1))
  by_cases t3 : catE L fl = 0
  case neg => exact (cu_e hF e0 e1 e2 HD r0 r1 t2 (by simpa using t3)).mono fun z w2 h => cu_zero hE (by simpa using t3) h
  have h0 : cuE L l fl = 0 := hE.trans t3
  have hK : cuK L l fl = catK L fl := if_pos h0
  have hL : cuL L l fl = catL L fl := if_pos h0
  have hM : cuM L l fl = catM L fl := if_pos h0
  rw [hK, hL, hM, h0]
  exact cu_y hF e0 e1 e2 HD r0 r1 t2 t3
theorem catchup_any {L : Ln} {a a2 : Option Addr} {n c n2 c2 : Nat} {l fl : List Int} {w : World} (hR : Row w (.slice a n c) l) (hF : Row w (.slice a2 n2 c2) fl) (hS : Sl a2 n2 c2) (hl : fl.length ≤ 1000000) : Calls (Tri Try.prog) 40 #[.agg #[.int .i64 L.id, .int .i64 L.st, .int .i64 L.be, .int .i64 L.out, .int .i64 L.rt, .int .i64 L.gr, .int .i64 L.due, .int .i64 L.inc, .int .i64 L.got, .int .i64 L.adj, .int .i64 L.wri, .int .i64 L.rcv, .slice a n c], .slice a2 n2 c2] w fun z w2 => ∃ a3 c3, z = .returned (.tuple #[.agg #[.int .i64 (cuK L l fl).id, .int .i64 (cuK L l fl).st, .int .i64 (cuK L l fl).be, .int .i64 (cuK L l fl).out, .int .i64 (cuK L l fl).rt, .int .i64 (cuK L l fl).gr, .int .i64 (cuK L l fl).due, .int .i64 (cuK L l fl).inc, .int .i64 (cuK L l fl).got, .int .i64 (cuK L l fl).adj, .int .i64 (cuK L l fl).wri, .int .i64 (cuK L l fl).rcv, .slice a3 (cuL L l fl).length c3], .int .i64 (cuM L l fl), .int .i64 (cuE L l fl)]) ∧ Row w2 (.slice a3 (cuL L l fl).length c3) (cuL L l fl) ∧ Sl a3 (cuL L l fl).length c3 ∧ (∀ x, a3 = some x → w.heap.size ≤ x.block) ∧ Below w.heap.size w w2 := 
  out_40 (hide (fun W cb mb fb0 hb hBk h1 h2 => cu_in (hR.below hb (Nat.le_refl _)) (hF.below hb (Nat.le_refl _)) hS hl hBk h1 h2))
theorem ts_in {L : Ln} {a a2 : Option Addr} {n c n2 c2 : Nat} {l fl : List Int} {W : World} {cb mb fb0 : Nat} (hRW : Row W (.slice a n c) l) (hFW : Row W (.slice a2 n2 c2) fl) (hF : Blk W cb #[.func (.func 92) #[] #[], .func (.func 93) #[] #[], .func (.func 131) #[] #[.pointer (some ⟨mb, 0, none⟩)]] 115) (h1 : W.cell? ⟨fb0, 0, none⟩ = some (.slice a2 n2 c2)) (h2 : W.cell? ⟨mb, 0, none⟩ = some (.slice a2 n2 c2)) (h0 : tsE L l fl = 0) : Calls (Tri Try.prog) 102 #[.agg #[.int .i64 L.id, .int .i64 L.st, .int .i64 L.be, .int .i64 L.out, .int .i64 L.rt, .int .i64 L.gr, .int .i64 L.due, .int .i64 L.inc, .int .i64 L.got, .int .i64 L.adj, .int .i64 L.wri, .int .i64 L.rcv, .slice a n c], .func (.func 103) #[] #[.pointer (some ⟨fb0, 0, none⟩)], .slice (some ⟨cb, 0, none⟩) 3 3] W fun z w2 => z = .returned (.tuple #[.agg #[.int .i64 (tsN L l fl), .bool (tsB L l fl)], .int .i64 (tsE L l fl)]) ∧ Below W.heap.size W w2 := by
  have e0 : Hid (∀ W', Below W.heap.size W W' → Calls (Tri Try.prog) 92 #[.agg #[.int .i64 L.id, .int .i64 L.st, .int .i64 L.be, .int .i64 L.out, .int .i64 L.rt, .int .i64 L.gr, .int .i64 L.due, .int .i64 L.inc, .int .i64 L.got, .int .i64 L.adj, .int .i64 L.wri, .int .i64 L.rcv, .slice a n c]] W' fun z w2 => z = .returned (.int .i64 (rtE L l)) ∧ Below W'.heap.size W' w2) := hide (fun W' hb => isr_any (hRW.below hb (Nat.le_refl _)))
  have e1 : Hid (∀ W', Below W.heap.size W W' → Calls (Tri Try.prog) 93 #[.agg #[.int .i64 L.id, .int .i64 L.st, .int .i64 L.be, .int .i64 L.out, .int .i64 L.rt, .int .i64 L.gr, .int .i64 L.due, .int .i64 L.inc, .int .i64 L.got, .int .i64 L.adj, .int .i64 L.wri, .int .i64 L.rcv, .slice a n c]] W' fun z w2 => z = .returned (.int .i64 (lvE L)) ∧ Below W'.heap.size W' w2) := hide (fun W' hb => isl_any L _ W')
  have e2 : Hid (∀ W', Below W.heap.size W W' → Calls (Tri Try.prog) 131 #[.agg #[.int .i64 L.id, .int .i64 L.st, .int .i64 L.be, .int .i64 L.out, .int .i64 L.rt, .int .i64 L.gr, .int .i64 L.due, .int .i64 L.inc, .int .i64 L.got, .int .i64 L.adj, .int .i64 L.wri, .int .i64 L.rcv, .slice a n c], .pointer (some ⟨mb, 0, none⟩)] W' fun z w2 => z = .returned (.int .i64 (comeE fl)) ∧ Below W'.heap.size W' w2) := hide (fun W' hb => c131_any ((hb.cell (p := ⟨_, 0, none⟩) (lt_of_cell h2)).trans h2) (hFW.below hb (Nat.le_refl _)))
  have hp : preE L l fl = 0 := Classical.byContradiction fun hn => by unfold tsE at h0; rw [if_neg hn] at h0; exact hn h0
  have t3 : valE 1 fl L.rt = 0 := by unfold tsE at h0; rw [if_pos hp] at h0; exact h0
  unfold preE at hp
  have t0 : rightB L l = true := Classical.byContradiction fun hn => by rw [if_neg hn] at hp; cases hp
  rw [if_pos t0] at hp
  have t1 : L.st = 1 := Classical.byContradiction fun hn => by rw [if_neg hn] at hp; cases hp
  rw [if_pos t1] at hp
  have r0 : rtE L l = 0 := if_pos t0
  have r1 : lvE L = 0 := if_pos t1
  obtain ⟨_, _, b3, b4, _⟩ := rt_bd t0
  have HD : Hid (∀ W', Below W.heap.size W W' → Calls (Tri Try.prog) 103 #[.agg #[.int .i64 L.id, .int .i64 L.st, .int .i64 L.be, .int .i64 L.out, .int .i64 L.rt, .int .i64 L.gr, .int .i64 L.due, .int .i64 L.inc, .int .i64 L.got, .int .i64 L.adj, .int .i64 L.wri, .int .i64 L.rcv, .slice a n c], .pointer (some ⟨fb0, 0, none⟩)] W' fun z w2 => z = .returned (.tuple #[.agg #[.int .i64 (valN 1 fl L.rt), .bool (tstB L fl)], .int .i64 (valE 1 fl L.rt)]) ∧ Below W'.heap.size W' w2) := hide (fun W' hb => clo_103 (hide (fun W2 hb2 => test_any b3 b4 ((hFW.below hb (Nat.le_refl _)).below hb2 (Nat.le_refl _)))) ((hb.cell (p := ⟨_, 0, none⟩) (lt_of_cell h1)).trans h1))
  have hN : tsN L l fl = valN 1 fl L.rt := if_pos h0
  have hB : tsB L l fl = tstB L fl := by unfold tsB tstB; rw [h0, t3]
  rw [hN, hB, h0]
  exact ts_y hF e0 e1 e2 HD r0 r1 hp t3
theorem tested_any {L : Ln} {a a2 : Option Addr} {n c n2 c2 : Nat} {l fl : List Int} {w : World} (hR : Row w (.slice a n c) l) (hF : Row w (.slice a2 n2 c2) fl) (h0 : tsE L l fl = 0) : Calls (Tri Try.prog) 45 #[.agg #[.int .i64 L.id, .int .i64 L.st, .int .i64 L.be, .int .i64 L.out, .int .i64 L.rt, .int .i64 L.gr, .int .i64 L.due, .int .i64 L.inc, .int .i64 L.got, .int .i64 L.adj, .int .i64 L.wri, .int .i64 L.rcv, .slice a n c], .slice a2 n2 c2] w fun z w2 => z = .returned (.tuple #[.int .i64 (tsN L l fl), .bool (tsB L l fl), .int .i64 (tsE L l fl)]) ∧ Below w.heap.size w w2 := 
  out_45 (hide (fun W cb mb fb0 hb hBk h1 h2 => ts_in (hR.below hb (Nat.le_refl _)) (hF.below hb (Nat.le_refl _)) hBk h1 h2 h0))
theorem so13 : maySo 1000 [1100] = true := by decide +kernel
theorem cv13 : cov 1000 [1100] (-990000000000) = true ∧ cov 1000 [1100] 100000000000 = true ∧ cov 1000 [1100] 100001000000 = false ∧ cov 1000 [1100] 10000000000000 = false := by decide +kernel
theorem eg13 {r e : Int} (h : NewE 1 1000 [1100] r e) : e = 0 ∧ 100000000000 ≤ r ∧ r < 100001000000 := by
  have pos : ∀ x ∈ ([1100] : List Int), 0 ≤ x := by decide
  rcases h with ⟨h, _⟩ | ⟨_, h⟩
  · exact absurd h (by decide)
  rcases h with ⟨h, _⟩ | ⟨_, ⟨h, _⟩ | ⟨h, rfl⟩⟩
  · rw [so13] at h; cases h
  · rcases h with h | h
    · rw [cv13.1] at h; cases h
    · rw [cv13.2.2.2] at h; cases h
  · refine ⟨rfl, ?_, ?_⟩
    · refine Classical.byContradiction fun hn => ?_
      have a := h.lo
      have := cov_rate (r := r + 1) (s := 100000000000) ⟨by omega, by omega⟩ ⟨by omega, by omega⟩ (by omega) pos cv13.2.1
      rw [h.no] at this
      cases this
    · refine Classical.byContradiction fun hn => ?_
      have a := h.hi
      have := cov_rate (r := 100001000000) (s := r) ⟨by omega, by omega⟩ ⟨by omega, by omega⟩ (by omega) pos h.yes
      rw [cv13.2.2.1] at this
      cases this
theorem val_one {x r q : Int} (hr : May r) (hx : may x = true) (h1 : In64 x) (hq : qD x r = q) (h2 : -4611686018427387904 ≤ q) (h3 : q ≤ 4611686018427387904) : valE 1 [x] r = 0 ∧ valN 1 [x] r = q := by
  have hw : worth r [x] = q := by
    show qD (0 + x) r = q
    rw [Int.zero_add]; exact hq
  have hf : fits r [x] = true := by
    show (true && fitB (0 + x) (qD (0 + x) r)) = true
    rw [Bool.true_and, Int.zero_add, hq]
    exact fitB_iff.2 ⟨h1, h2, h3⟩
  have hE : valE 1 [x] r = 0 := by
    rw [valE_of (by simp) (by simp [hx]) hr, map_one, hf]
    rfl
  refine ⟨hE, ?_⟩
  unfold valN
  rw [if_pos hE, map_one, hw]
theorem qd_in {x r q : Int} (h1 : 100000000000 ≤ r) (h2 : r < 100001000000) (hx : 0 ≤ x) (e1 : qD x 100000000000 = q) (e2 : qD x 100001000000 = q) : qD x r = q := by
  have a := qD_anti (x := x) (r := 100000000000) (s := r) ⟨by omega, by omega⟩ h1 hx
  have b := qD_anti (x := x) (r := r) (s := 100001000000) ⟨by omega, by omega⟩ (by omega) hx
  omega
theorem q1210 {r : Int} (h1 : 100000000000 ≤ r) (h2 : r < 100001000000) : qD 1210 r = 1100 := qd_in h1 h2 (by omega) (by decide +kernel) (by decide +kernel)
theorem q1110 {r : Int} (h1 : 100000000000 ≤ r) (h2 : r < 100001000000) : qD 1110 r = 1009 := qd_in h1 h2 (by omega) (by decide +kernel) (by decide +kernel)
theorem al_right {r : Int} (h : May r) : rightB (newK 1 1000 r) [1100] = true := by
  unfold rightB mayBeB
  rw [show (newK 1 1000 r).rt = r from rfl, mayB_yes h]
  rfl
theorem al_adj {r : Int} (h : May r) : rightB (adjK (newK 1 1000 r) 1009) [1110] = true := by
  unfold rightB mayBeB
  rw [show (adjK (newK 1 1000 r) 1009).rt = r from rfl, mayB_yes h]
  rfl
theorem al_pre {r x : Int} (h : May r) (hx : comeE [x] = 0) : preE (newK 1 1000 r) [1100] [x] = 0 := by
  unfold preE
  rw [if_pos (al_right h), if_pos (show (newK 1 1000 r).st = 1 from rfl), hx]
theorem al_t1 {r : Int} (h1 : 100000000000 ≤ r) (h2 : r < 100001000000) : tsE (newK 1 1000 r) [1100] [1210] = 0 ∧ tsN (newK 1 1000 r) [1100] [1210] = 1100 ∧ tsB (newK 1 1000 r) [1100] [1210] = true := by
  have hm : May r := ⟨by omega, by omega⟩
  have v := val_one hm (x := 1210) rfl ⟨by omega, by omega⟩ (q1210 h1 h2) (by omega) (by omega)
  have e : tsE (newK 1 1000 r) [1100] [1210] = 0 := by unfold tsE; rw [if_pos (al_pre hm rfl)]; exact v.1
  refine ⟨e, ?_, ?_⟩
  · unfold tsN; rw [if_pos e]; exact v.2
  · unfold tsB; rw [e, show valN 1 [1210] (newK 1 1000 r).rt = 1100 from v.2]; rfl
theorem al_t2 {r : Int} (h1 : 100000000000 ≤ r) (h2 : r < 100001000000) : tsE (newK 1 1000 r) [1100] [1110] = 0 ∧ tsN (newK 1 1000 r) [1100] [1110] = 1009 ∧ tsB (newK 1 1000 r) [1100] [1110] = false := by
  have hm : May r := ⟨by omega, by omega⟩
  have v := val_one hm (x := 1110) rfl ⟨by omega, by omega⟩ (q1110 h1 h2) (by omega) (by omega)
  have e : tsE (newK 1 1000 r) [1100] [1110] = 0 := by unfold tsE; rw [if_pos (al_pre hm rfl)]; exact v.1
  refine ⟨e, ?_, ?_⟩
  · unfold tsN; rw [if_pos e]; exact v.2
  · unfold tsB; rw [e, show valN 1 [1110] (newK 1 1000 r).rt = 1009 from v.2]; rfl
theorem al_c {r : Int} (h1 : 100000000000 ≤ r) (h2 : r < 100001000000) : cuE (newK 1 1000 r) [1100] [1110] = 0 ∧ cuM (newK 1 1000 r) [1100] [1110] = 9 ∧ (cuK (newK 1 1000 r) [1100] [1110]).gr = 1009 ∧ (cuK (newK 1 1000 r) [1100] [1110]).adj = 9 := by
  have hm : May r := ⟨by omega, by omega⟩
  have v := val_one hm (x := 1110) rfl ⟨by omega, by omega⟩ (q1110 h1 h2) (by omega) (by omega)
  have vE : valE 1 [1110] (newK 1 1000 r).rt = 0 := v.1
  have vN : valN 1 [1110] (newK 1 1000 r).rt = 1009 := v.2
  have c : catE (newK 1 1000 r) [1110] = 0 := by unfold catE; rw [if_pos vE, vN, if_neg (by decide), if_pos (al_adj hm)]
  have e : cuE (newK 1 1000 r) [1100] [1110] = 0 := by unfold cuE; rw [if_pos (al_pre hm rfl)]; exact c
  have hK : cuK (newK 1 1000 r) [1100] [1110] = adjK (newK 1 1000 r) 1009 := by unfold cuK catK; rw [if_pos e, if_pos c, vN]
  refine ⟨e, ?_, ?_, ?_⟩
  · unfold cuM catM; rw [if_pos e, if_pos c, vN]; rfl
  · rw [hK]; rfl
  · rw [hK]; rfl
theorem row_1x (w : World) (x : Int) (hx : In64 x) : Row (w.alloc (.cells #[.int .i64 x] 2)) (.slice (some ⟨w.heap.size, 0, none⟩) 1 1) [x] := by
  refine Or.inr ⟨w.heap.size, 0, 1, rfl, by simp, by unfold maxLen; simp, fun j hj => ?_, fun z hz => by simp at hz; rcases hz with rfl; assumption⟩
  rw [World.cell?_alloc_at _ _ _ _ rfl]
  match j, hj with
  | 0, _ => rfl
def AliveR : Prop := ∀ w : World, Calls (Tri Try.prog) 38 #[] w fun e w' => e = .returned (.bool true) ∧ Below w.heap.size w w'
set_option maxHeartbeats 4000000 in
theorem aliveR : AliveR := by
  intro w
  have HN := hide (new_any (id := 1) (out := 1000) ⟨by omega, by omega⟩ (row_1x w 1100 ⟨by omega, by omega⟩) ⟨Nat.le_refl _, fun e => by cases e⟩ (by simp))
  unfold NewA at HN
  have HB := hide (below1L w (.cells #[.int .i64 1100] 2))
  go_enter (Tri.at (by decide) Try.func38), Try.ntmps38
  go_wp2_with fail
  refine (unhide HN).mono ?_
  rintro z w1 ⟨r, e, hE, hz, hb⟩
  obtain ⟨rfl, r1, r2⟩ := eg13 hE
  rcases hz with ⟨h, _⟩ | ⟨_, a1, c1, rfl, hr, hs, _⟩
  · exact absurd rfl h
  replace HB := hide (below_via (unhide HB) hb)
  have HR := hide hr
  have HS := hide hs
  clear hb hr hs hE HN
  have T1 : Hid (∀ (w1 : World) (a : Option Addr) (c : Nat) (a2 : Option Addr) (c2 : Nat), Row w1 (.slice a 1 c) [1100] → Row w1 (.slice a2 1 c2) [1210] → Calls (Tri Try.prog) 45 #[.agg #[.int .i64 (newK 1 1000 r).id, .int .i64 (newK 1 1000 r).st, .int .i64 (newK 1 1000 r).be, .int .i64 (newK 1 1000 r).out, .int .i64 (newK 1 1000 r).rt, .int .i64 (newK 1 1000 r).gr, .int .i64 (newK 1 1000 r).due, .int .i64 (newK 1 1000 r).inc, .int .i64 (newK 1 1000 r).got, .int .i64 (newK 1 1000 r).adj, .int .i64 (newK 1 1000 r).wri, .int .i64 (newK 1 1000 r).rcv, .slice a 1 c], .slice a2 1 c2] w1 fun z w2 => z = .returned (.tuple #[.int .i64 1100, .bool true, .int .i64 0]) ∧ Below w1.heap.size w1 w2) := hide (fun w1 a c a2 c2 h1 h2 => by
    have h := tested_any (L := (newK 1 1000 r)) h1 h2 (al_t1 r1 r2).1
    rw [(al_t1 r1 r2).1, (al_t1 r1 r2).2.1, (al_t1 r1 r2).2.2] at h
    exact h)
  have T2 : Hid (∀ (w1 : World) (a : Option Addr) (c : Nat) (a2 : Option Addr) (c2 : Nat), Row w1 (.slice a 1 c) [1100] → Row w1 (.slice a2 1 c2) [1110] → Calls (Tri Try.prog) 45 #[.agg #[.int .i64 (newK 1 1000 r).id, .int .i64 (newK 1 1000 r).st, .int .i64 (newK 1 1000 r).be, .int .i64 (newK 1 1000 r).out, .int .i64 (newK 1 1000 r).rt, .int .i64 (newK 1 1000 r).gr, .int .i64 (newK 1 1000 r).due, .int .i64 (newK 1 1000 r).inc, .int .i64 (newK 1 1000 r).got, .int .i64 (newK 1 1000 r).adj, .int .i64 (newK 1 1000 r).wri, .int .i64 (newK 1 1000 r).rcv, .slice a 1 c], .slice a2 1 c2] w1 fun z w2 => z = .returned (.tuple #[.int .i64 1009, .bool false, .int .i64 0]) ∧ Below w1.heap.size w1 w2) := hide (fun w1 a c a2 c2 h1 h2 => by
    have h := tested_any (L := (newK 1 1000 r)) h1 h2 (al_t2 r1 r2).1
    rw [(al_t2 r1 r2).1, (al_t2 r1 r2).2.1, (al_t2 r1 r2).2.2] at h
    exact h)
  have T3 : Hid (∀ (w1 : World) (a : Option Addr) (c : Nat) (a2 : Option Addr) (c2 : Nat), Row w1 (.slice a 1 c) [1100] → Row w1 (.slice a2 1 c2) [1110] → Sl a2 1 c2 → Calls (Tri Try.prog) 40 #[.agg #[.int .i64 (newK 1 1000 r).id, .int .i64 (newK 1 1000 r).st, .int .i64 (newK 1 1000 r).be, .int .i64 (newK 1 1000 r).out, .int .i64 (newK 1 1000 r).rt, .int .i64 (newK 1 1000 r).gr, .int .i64 (newK 1 1000 r).due, .int .i64 (newK 1 1000 r).inc, .int .i64 (newK 1 1000 r).got, .int .i64 (newK 1 1000 r).adj, .int .i64 (newK 1 1000 r).wri, .int .i64 (newK 1 1000 r).rcv, .slice a 1 c], .slice a2 1 c2] w1 fun z w2 => ∃ (K : Ln) (a3 : Option Addr) (n3 c3 : Nat), K.gr = 1009 ∧ K.adj = 9 ∧ z = .returned (.tuple #[.agg #[.int .i64 K.id, .int .i64 K.st, .int .i64 K.be, .int .i64 K.out, .int .i64 K.rt, .int .i64 K.gr, .int .i64 K.due, .int .i64 K.inc, .int .i64 K.got, .int .i64 K.adj, .int .i64 K.wri, .int .i64 K.rcv, .slice a3 n3 c3], .int .i64 9, .int .i64 0]) ∧ Below w1.heap.size w1 w2) := hide (fun w1 a c a2 c2 h1 h2 h3 => (catchup_any (L := (newK 1 1000 r)) h1 h2 h3 (by simp)).mono fun z w2 ⟨a3, c3, g1, _, _, _, g5⟩ => by
    rw [(al_c r1 r2).1, (al_c r1 r2).2.1] at g1
    exact ⟨_, _, _, _, (al_c r1 r2).2.2.1, (al_c r1 r2).2.2.2, g1, g5⟩)
  clear r1 r2
  generalize newK 1 1000 r = K0 at *
  have HK := hide (Blk.new w1 #[.int .i64 K0.id, .int .i64 K0.st, .int .i64 K0.be, .int .i64 K0.out, .int .i64 K0.rt, .int .i64 K0.gr, .int .i64 K0.due, .int .i64 K0.inc, .int .i64 K0.got, .int .i64 K0.adj, .int .i64 K0.wri, .int .i64 K0.rcv, .slice a1 1 c1] 53)
  have HR1 := hide ((unhide HR).alloc (.cells #[.int .i64 K0.id, .int .i64 K0.st, .int .i64 K0.be, .int .i64 K0.out, .int .i64 K0.rt, .int .i64 K0.gr, .int .i64 K0.due, .int .i64 K0.inc, .int .i64 K0.got, .int .i64 K0.adj, .int .i64 K0.wri, .int .i64 K0.rcv, .slice a1 1 c1] 53))
  replace HB := hide (below_via (unhide HB) (below1L w1 (.cells #[.int .i64 K0.id, .int .i64 K0.st, .int .i64 K0.be, .int .i64 K0.out, .int .i64 K0.rt, .int .i64 K0.gr, .int .i64 K0.due, .int .i64 K0.inc, .int .i64 K0.got, .int .i64 K0.adj, .int .i64 K0.wri, .int .i64 K0.rcv, .slice a1 1 c1] 53)))
  generalize hU1 : w1.alloc (.cells #[.int .i64 K0.id, .int .i64 K0.st, .int .i64 K0.be, .int .i64 K0.out, .int .i64 K0.rt, .int .i64 K0.gr, .int .i64 K0.due, .int .i64 K0.inc, .int .i64 K0.got, .int .i64 K0.adj, .int .i64 K0.wri, .int .i64 K0.rcv, .slice a1 1 c1] 53) = U1 at HK HR1 HB
  have HRa := hide ((unhide HR1).alloc (.cells #[.int .i64 1210] 2))
  have HRb := hide (row_1x U1 1210 ⟨by omega, by omega⟩)
  have HKa := hide ((show Blk _ _ _ _ from unhide HK).alloc (.cells #[.int .i64 1210] 2))
  replace HB := hide (below_via (unhide HB) (below1L U1 (.cells #[.int .i64 1210] 2)))
  obtain ⟨q0, q1, q2, q3, q4, q5, q6, q7, q8, q9, q10, q11, q12⟩ := Blk.c13 (show Blk _ _ _ _ from unhide HK)
  go_wp2_with fail
  clear hU1 q0 q1 q2 q3 q4 q5 q6 q7 q8 q9 q10 q11 q12
  refine (unhide T1 _ _ _ _ _ (unhide HRa) (unhide HRb)).mono ?_
  rintro z w2 ⟨rfl, hb⟩
  replace HB := hide (below_via (unhide HB) hb)
  have HK2 := hide ((show Blk _ _ _ _ from unhide HKa).keep hb)
  have HR2 := hide ((unhide HRa).below hb (Nat.le_refl _))
  clear hb HRa HRb HKa HK HR1 T1
  have HRa := hide ((unhide HR2).alloc (.cells #[.int .i64 1110] 2))
  have HRb := hide (row_1x w2 1110 ⟨by omega, by omega⟩)
  have HKa := hide ((show Blk _ _ _ _ from unhide HK2).alloc (.cells #[.int .i64 1110] 2))
  replace HB := hide (below_via (unhide HB) (below1L w2 (.cells #[.int .i64 1110] 2)))
  obtain ⟨q0, q1, q2, q3, q4, q5, q6, q7, q8, q9, q10, q11, q12⟩ := Blk.c13 (show Blk _ _ _ _ from unhide HK2)
  go_wp2_with fail
  clear q0 q1 q2 q3 q4 q5 q6 q7 q8 q9 q10 q11 q12
  refine (unhide T2 _ _ _ _ _ (unhide HRa) (unhide HRb)).mono ?_
  rintro z w3 ⟨rfl, hb⟩
  replace HB := hide (below_via (unhide HB) hb)
  have HK3 := hide ((show Blk _ _ _ _ from unhide HKa).keep hb)
  have HR3 := hide ((unhide HRa).below hb (Nat.le_refl _))
  clear hb HRa HRb HKa HK2 HR2 T2
  have HRa := hide ((unhide HR3).alloc (.cells #[.int .i64 1110] 2))
  have HRb := hide (row_1x w3 1110 ⟨by omega, by omega⟩)
  replace HB := hide (below_via (unhide HB) (below1L w3 (.cells #[.int .i64 1110] 2)))
  obtain ⟨q0, q1, q2, q3, q4, q5, q6, q7, q8, q9, q10, q11, q12⟩ := Blk.c13 (show Blk _ _ _ _ from unhide HK3)
  go_wp2_with fail
  clear q0 q1 q2 q3 q4 q5 q6 q7 q8 q9 q10 q11 q12
  refine (unhide T3 _ _ _ _ _ (unhide HRa) (unhide HRb) ⟨Nat.le_refl _, fun e => by cases e⟩).mono ?_
  rintro z w4 ⟨K, a3, n3, c3, k1, k2, rfl, hb⟩
  replace HB := hide (below_via (below_via (unhide HB) hb) (below1L w4 (.cells #[.int .i64 K.id, .int .i64 K.st, .int .i64 K.be, .int .i64 K.out, .int .i64 K.rt, .int .i64 K.gr, .int .i64 K.due, .int .i64 K.inc, .int .i64 K.got, .int .i64 K.adj, .int .i64 K.wri, .int .i64 K.rcv, .slice a3 n3 c3] 53)))
  clear hb HRa HRb HK3 HR3 T3 HR HS
  have d1 : (K.gr == 1009) = true := by rw [k1]; rfl
  have d2 : (K.adj == 9) = true := by rw [k2]; rfl
  clear k1 k2
  go_wp2_with fail
  go_ret
  exact ⟨rfl, unhide HB⟩
theorem great_any (L : Ln) (a a2 : Option Addr) (n c n2 c2 : Nat) (id fair : Int) (G : Bool) (h : G = (decide (700 < n) || decide (60 < n2))) (w : World) : Calls (Tri Try.prog) 39 #[.agg #[.int .i64 L.id, .int .i64 L.st, .int .i64 L.be, .int .i64 L.out, .int .i64 L.rt, .int .i64 L.gr, .int .i64 L.due, .int .i64 L.inc, .int .i64 L.got, .int .i64 L.adj, .int .i64 L.wri, .int .i64 L.rcv, .slice a n c, .slice a2 n2 c2, .int .i64 id, .int .i64 fair]] w fun z w' => z = .returned (.bool G) ∧ Below w.heap.size w w' := by
  have HB := hide (below1L w (.cells #[.int .i64 L.id, .int .i64 L.st, .int .i64 L.be, .int .i64 L.out, .int .i64 L.rt, .int .i64 L.gr, .int .i64 L.due, .int .i64 L.inc, .int .i64 L.got, .int .i64 L.adj, .int .i64 L.wri, .int .i64 L.rcv, .slice a n c, .slice a2 n2 c2, .int .i64 id, .int .i64 fair] 81))
  by_cases h1 : 700 < n
  · have d1 : decide ((700 : Int) < (n : Int)) = true := decide_eq_true (by omega)
    obtain rfl : G = true := by rw [h, decide_eq_true h1, Bool.true_or]
    clear h
    go_enter (Tri.at (by decide) Try.func39), Try.ntmps39
    go_wp2_with fail
    go_ret
    exact ⟨rfl, unhide HB⟩
  · have d1 : decide ((700 : Int) < (n : Int)) = false := decide_eq_false (by omega)
    by_cases h2 : 60 < n2
    · have d2 : decide ((60 : Int) < (n2 : Int)) = true := decide_eq_true (by omega)
      obtain rfl : G = true := by rw [h, decide_eq_true h2, Bool.or_true]
      clear h
      go_enter (Tri.at (by decide) Try.func39), Try.ntmps39
      go_wp2_with fail
      go_ret
      exact ⟨rfl, unhide HB⟩
    · have d2 : decide ((60 : Int) < (n2 : Int)) = false := decide_eq_false (by omega)
      obtain rfl : G = false := by rw [h, decide_eq_false h1, decide_eq_false h2]; rfl
      clear h
      go_enter (Tri.at (by decide) Try.func39), Try.ntmps39
      go_wp2_with fail
      go_ret
      exact ⟨rfl, unhide HB⟩
structure Caught (L : Ln) (fl : List Int) (K : Ln) (N : Int) : Prop where
  vE : valE 1 fl L.rt = 0
  vN : valN 1 fl L.rt = N
  lb : 1 ≤ N
  hK : K = adjK L N
  rt : rightB K fl = true
  st : L.st = 1
  co : comeE fl = 0
theorem cu_yes {L : Ln} {l fl : List Int} (h : cuE L l fl = 0) : rightB L l = true ∧ Caught L fl (cuK L l fl) (valN 1 fl L.rt) ∧ cuL L l fl = fl ∧ cuM L l fl = valN 1 fl L.rt - L.gr := by
  have h0 := h
  unfold cuE at h
  by_cases hp : preE L l fl = 0
  case neg => rw [if_neg hp] at h; exact absurd h hp
  rw [if_pos hp] at h
  unfold preE at hp
  by_cases t0 : rightB L l = true
  case neg => rw [if_neg t0] at hp; exact absurd hp (by decide)
  rw [if_pos t0] at hp
  by_cases t1 : L.st = 1
  case neg => rw [if_neg t1] at hp; exact absurd hp (by decide)
  rw [if_pos t1] at hp
  have hc := h
  unfold catE at h
  by_cases t2 : valE 1 fl L.rt = 0
  case neg => rw [if_neg t2] at h; exact absurd h t2
  rw [if_pos t2] at h
  by_cases t3 : valN 1 fl L.rt < 1
  case pos => rw [if_pos t3] at h; exact absurd h (by decide)
  rw [if_neg t3] at h
  by_cases t4 : rightB (adjK L (valN 1 fl L.rt)) fl = true
  case neg => rw [if_neg t4] at h; exact absurd h (by decide)
  have hK : cuK L l fl = adjK L (valN 1 fl L.rt) := by unfold cuK catK; rw [if_pos h0, if_pos hc]
  refine ⟨t0, ⟨t2, rfl, by omega, hK, by rw [hK]; exact t4, t1, hp⟩, ?_, ?_⟩
  · unfold cuL catL; rw [if_pos h0, if_pos hc]
  · unfold cuM catM; rw [if_pos h0, if_pos hc]
theorem cu_no {L : Ln} {l fl : List Int} (h : ¬ cuE L l fl = 0) : cuM L l fl = 0 ∧ (cuK L l fl).st = 0 := by
  constructor
  · unfold cuM; rw [if_neg h]
  · unfold cuK; rw [if_neg h]; rfl
theorem adj_same {L : Ln} {N : Int} : adjK (adjK L N) N = adjK L N := by
  simp [adjK]
theorem Caught.again {L : Ln} {fl : List Int} {K : Ln} {N : Int} (h : Caught L fl K N) : cuE K fl fl = 0 ∧ cuK K fl fl = K ∧ cuL K fl fl = fl ∧ cuM K fl fl = 0 := by
  have e1 : K.rt = L.rt := by rw [h.hK]; rfl
  have e2 : K.st = 1 := by rw [h.hK]; exact h.st
  have e3 : adjK K N = K := by rw [h.hK]; exact adj_same
  have e4 : K.gr = N := by rw [h.hK]; rfl
  have vE : valE 1 fl K.rt = 0 := by rw [e1]; exact h.vE
  have vN : valN 1 fl K.rt = N := by rw [e1]; exact h.vN
  have hp : preE K fl fl = 0 := by unfold preE; rw [if_pos h.rt, if_pos e2]; exact h.co
  have hc : catE K fl = 0 := by unfold catE; rw [if_pos vE, vN, if_neg (by have := h.lb; omega), e3, if_pos h.rt]
  have h0 : cuE K fl fl = 0 := by unfold cuE; rw [if_pos hp]; exact hc
  obtain ⟨_, c, c1, c2⟩ := cu_yes h0
  refine ⟨h0, ?_, c1, ?_⟩
  · rw [c.hK, vN, e3]
  · rw [c2, vN, e4]; omega
def CatchesL (w : World) (L : Ln) (a a2 : Option Addr) (n c n2 c2 : Nat) (id fair : Int) : Prop := Calls (Tri Try.prog) 11 #[.agg #[.int .i64 L.id, .int .i64 L.st, .int .i64 L.be, .int .i64 L.out, .int .i64 L.rt, .int .i64 L.gr, .int .i64 L.due, .int .i64 L.inc, .int .i64 L.got, .int .i64 L.adj, .int .i64 L.wri, .int .i64 L.rcv, .slice a n c, .slice a2 n2 c2, .int .i64 id, .int .i64 fair]] w fun z w' => z = .returned (.bool true) ∧ Below w.heap.size w w'
set_option maxHeartbeats 4000000 in
theorem catches_great {L : Ln} {a a2 : Option Addr} {n c n2 c2 : Nat} {id fair : Int} {l fl : List Int} {w : World} (hR : Row w (.slice a n c) l) (hF : Row w (.slice a2 n2 c2) fl) (hg : (decide (700 < n) || decide (60 < n2)) = true) : CatchesL w L a a2 n c n2 c2 id fair := by
  unfold CatchesL
  have HB := hide (below1L w (.cells #[.int .i64 L.id, .int .i64 L.st, .int .i64 L.be, .int .i64 L.out, .int .i64 L.rt, .int .i64 L.gr, .int .i64 L.due, .int .i64 L.inc, .int .i64 L.got, .int .i64 L.adj, .int .i64 L.wri, .int .i64 L.rcv, .slice a n c, .slice a2 n2 c2, .int .i64 id, .int .i64 fair] 81))
  have HQ := hide (Blk.new w #[.int .i64 L.id, .int .i64 L.st, .int .i64 L.be, .int .i64 L.out, .int .i64 L.rt, .int .i64 L.gr, .int .i64 L.due, .int .i64 L.inc, .int .i64 L.got, .int .i64 L.adj, .int .i64 L.wri, .int .i64 L.rcv, .slice a n c, .slice a2 n2 c2, .int .i64 id, .int .i64 fair] 81)
  have HR := hide (hR.alloc (.cells #[.int .i64 L.id, .int .i64 L.st, .int .i64 L.be, .int .i64 L.out, .int .i64 L.rt, .int .i64 L.gr, .int .i64 L.due, .int .i64 L.inc, .int .i64 L.got, .int .i64 L.adj, .int .i64 L.wri, .int .i64 L.rcv, .slice a n c, .slice a2 n2 c2, .int .i64 id, .int .i64 fair] 81))
  have HF := hide (hF.alloc (.cells #[.int .i64 L.id, .int .i64 L.st, .int .i64 L.be, .int .i64 L.out, .int .i64 L.rt, .int .i64 L.gr, .int .i64 L.due, .int .i64 L.inc, .int .i64 L.got, .int .i64 L.adj, .int .i64 L.wri, .int .i64 L.rcv, .slice a n c, .slice a2 n2 c2, .int .i64 id, .int .i64 fair] 81))
  have HA := hide (aliveR (w.alloc (.cells #[.int .i64 L.id, .int .i64 L.st, .int .i64 L.be, .int .i64 L.out, .int .i64 L.rt, .int .i64 L.gr, .int .i64 L.due, .int .i64 L.inc, .int .i64 L.got, .int .i64 L.adj, .int .i64 L.wri, .int .i64 L.rcv, .slice a n c, .slice a2 n2 c2, .int .i64 id, .int .i64 fair] 81)))
  have HG := hide (fun W => great_any L a a2 n c n2 c2 id fair _ rfl W)
  go_enter (Tri.at (by decide) Try.func11), Try.ntmps11
  go_wp2_with fail
  refine (unhide HA).mono ?_
  rintro z w1 ⟨rfl, hb⟩
  replace HB := hide (below_via (unhide HB) hb)
  replace HQ := hide ((show Blk _ _ _ _ from unhide HQ).keep hb)
  replace HR := hide ((unhide HR).below hb (Nat.le_refl _))
  replace HF := hide ((unhide HF).below hb (Nat.le_refl _))
  clear hb HA
  obtain ⟨q0, q1, q2, q3, q4, q5, q6, q7, q8, q9, q10, q11, q12, q13, q14, q15⟩ := Blk.c16 (show Blk _ _ _ _ from unhide HQ)
  go_wp2_with fail
  refine (unhide HG _).mono ?_
  rintro z w2 ⟨rfl, hb⟩
  replace HB := hide (below_via (unhide HB) hb)
  replace HQ := hide ((show Blk _ _ _ _ from unhide HQ).keep hb)
  replace HR := hide ((unhide HR).below hb (Nat.le_refl _))
  replace HF := hide ((unhide HF).below hb (Nat.le_refl _))
  clear hb HG q0 q1 q2 q3 q4 q5 q6 q7 q8 q9 q10 q11 q12 q13 q14 q15
  rw [hg]
  clear hg
  go_wp2_with fail
  go_ret
  exact ⟨rfl, unhide HB⟩
set_option maxHeartbeats 4000000 in
theorem catches_no {L : Ln} {a a2 : Option Addr} {n c n2 c2 : Nat} {id fair : Int} {l fl : List Int} {w : World} (hR : Row w (.slice a n c) l) (hS : Sl a n c) (hF : Row w (.slice a2 n2 c2) fl) (hS2 : Sl a2 n2 c2) (hl : l.length ≤ 700) (hl2 : fl.length ≤ 60) (hg : (decide (700 < n) || decide (60 < n2)) = false) (he : ¬ cuE L l fl = 0) : CatchesL w L a a2 n c n2 c2 id fair := by
  unfold CatchesL
  have HB := hide (below1L w (.cells #[.int .i64 L.id, .int .i64 L.st, .int .i64 L.be, .int .i64 L.out, .int .i64 L.rt, .int .i64 L.gr, .int .i64 L.due, .int .i64 L.inc, .int .i64 L.got, .int .i64 L.adj, .int .i64 L.wri, .int .i64 L.rcv, .slice a n c, .slice a2 n2 c2, .int .i64 id, .int .i64 fair] 81))
  have HQ := hide (Blk.new w #[.int .i64 L.id, .int .i64 L.st, .int .i64 L.be, .int .i64 L.out, .int .i64 L.rt, .int .i64 L.gr, .int .i64 L.due, .int .i64 L.inc, .int .i64 L.got, .int .i64 L.adj, .int .i64 L.wri, .int .i64 L.rcv, .slice a n c, .slice a2 n2 c2, .int .i64 id, .int .i64 fair] 81)
  have HR := hide (hR.alloc (.cells #[.int .i64 L.id, .int .i64 L.st, .int .i64 L.be, .int .i64 L.out, .int .i64 L.rt, .int .i64 L.gr, .int .i64 L.due, .int .i64 L.inc, .int .i64 L.got, .int .i64 L.adj, .int .i64 L.wri, .int .i64 L.rcv, .slice a n c, .slice a2 n2 c2, .int .i64 id, .int .i64 fair] 81))
  have HF := hide (hF.alloc (.cells #[.int .i64 L.id, .int .i64 L.st, .int .i64 L.be, .int .i64 L.out, .int .i64 L.rt, .int .i64 L.gr, .int .i64 L.due, .int .i64 L.inc, .int .i64 L.got, .int .i64 L.adj, .int .i64 L.wri, .int .i64 L.rcv, .slice a n c, .slice a2 n2 c2, .int .i64 id, .int .i64 fair] 81))
  have HA := hide (aliveR (w.alloc (.cells #[.int .i64 L.id, .int .i64 L.st, .int .i64 L.be, .int .i64 L.out, .int .i64 L.rt, .int .i64 L.gr, .int .i64 L.due, .int .i64 L.inc, .int .i64 L.got, .int .i64 L.adj, .int .i64 L.wri, .int .i64 L.rcv, .slice a n c, .slice a2 n2 c2, .int .i64 id, .int .i64 fair] 81)))
  have HG := hide (fun W => great_any L a a2 n c n2 c2 id fair _ rfl W)
  go_enter (Tri.at (by decide) Try.func11), Try.ntmps11
  go_wp2_with fail
  refine (unhide HA).mono ?_
  rintro z w1 ⟨rfl, hb⟩
  replace HB := hide (below_via (unhide HB) hb)
  replace HQ := hide ((show Blk _ _ _ _ from unhide HQ).keep hb)
  replace HR := hide ((unhide HR).below hb (Nat.le_refl _))
  replace HF := hide ((unhide HF).below hb (Nat.le_refl _))
  clear hb HA
  obtain ⟨q0, q1, q2, q3, q4, q5, q6, q7, q8, q9, q10, q11, q12, q13, q14, q15⟩ := Blk.c16 (show Blk _ _ _ _ from unhide HQ)
  go_wp2_with fail
  refine (unhide HG _).mono ?_
  rintro z w2 ⟨rfl, hb⟩
  replace HB := hide (below_via (unhide HB) hb)
  replace HQ := hide ((show Blk _ _ _ _ from unhide HQ).keep hb)
  replace HR := hide ((unhide HR).below hb (Nat.le_refl _))
  replace HF := hide ((unhide HF).below hb (Nat.le_refl _))
  clear hb HG q0 q1 q2 q3 q4 q5 q6 q7 q8 q9 q10 q11 q12 q13 q14 q15
  rw [hg]
  clear hg
  have HT := hide (to_any (L := L) (unhide HR) hS (by omega))
  have HCu : Hid (∀ (W : World) (a a2 : Option Addr) (n c n2 c2 : Nat) (L : Ln) (l : List Int), Row W (.slice a n c) l → Row W (.slice a2 n2 c2) fl → Sl a2 n2 c2 → Calls (Tri Try.prog) 40 #[.agg #[.int .i64 L.id, .int .i64 L.st, .int .i64 L.be, .int .i64 L.out, .int .i64 L.rt, .int .i64 L.gr, .int .i64 L.due, .int .i64 L.inc, .int .i64 L.got, .int .i64 L.adj, .int .i64 L.wri, .int .i64 L.rcv, .slice a n c], .slice a2 n2 c2] W fun z w2 => ∃ a3 c3, z = .returned (.tuple #[.agg #[.int .i64 (cuK L l fl).id, .int .i64 (cuK L l fl).st, .int .i64 (cuK L l fl).be, .int .i64 (cuK L l fl).out, .int .i64 (cuK L l fl).rt, .int .i64 (cuK L l fl).gr, .int .i64 (cuK L l fl).due, .int .i64 (cuK L l fl).inc, .int .i64 (cuK L l fl).got, .int .i64 (cuK L l fl).adj, .int .i64 (cuK L l fl).wri, .int .i64 (cuK L l fl).rcv, .slice a3 (cuL L l fl).length c3], .int .i64 (cuM L l fl), .int .i64 (cuE L l fl)]) ∧ Row w2 (.slice a3 (cuL L l fl).length c3) (cuL L l fl) ∧ Sl a3 (cuL L l fl).length c3 ∧ (∀ x, a3 = some x → W.heap.size ≤ x.block) ∧ Below W.heap.size W w2) := hide (fun W a a2 n c n2 c2 L l h1 h2 h3 => catchup_any h1 h2 h3 (by omega))
  clear hl hl2 hS
  have HS2 := hide hS2
  clear hS2
  obtain ⟨q0, q1, q2, q3, q4, q5, q6, q7, q8, q9, q10, q11, q12, q13, q14, q15⟩ := Blk.c16 (show Blk _ _ _ _ from unhide HQ)
  go_wp2_with fail
  refine (unhide HT).mono ?_
  rintro z w3 ⟨a3, c3, rfl, hr, hs, hf, hb⟩
  replace HB := hide (below_via (unhide HB) hb)
  replace HQ := hide ((show Blk _ _ _ _ from unhide HQ).keep hb)
  replace HF := hide ((unhide HF).below hb (Nat.le_refl _))
  clear q0 q1 q2 q3 q4 q5 q6 q7 q8 q9 q10 q11 q12 q13 q14 q15 HT HR
  have HL := hide (Blk.new w3 #[.int .i64 L.id, .int .i64 L.st, .int .i64 L.be, .int .i64 L.out, .int .i64 L.rt, .int .i64 L.gr, .int .i64 L.due, .int .i64 L.inc, .int .i64 L.got, .int .i64 L.adj, .int .i64 L.wri, .int .i64 L.rcv, .slice a3 l.length c3] 53)
  have HRl := hide (hr.alloc (.cells #[.int .i64 L.id, .int .i64 L.st, .int .i64 L.be, .int .i64 L.out, .int .i64 L.rt, .int .i64 L.gr, .int .i64 L.due, .int .i64 L.inc, .int .i64 L.got, .int .i64 L.adj, .int .i64 L.wri, .int .i64 L.rcv, .slice a3 l.length c3] 53))
  replace HF := hide ((unhide HF).alloc (.cells #[.int .i64 L.id, .int .i64 L.st, .int .i64 L.be, .int .i64 L.out, .int .i64 L.rt, .int .i64 L.gr, .int .i64 L.due, .int .i64 L.inc, .int .i64 L.got, .int .i64 L.adj, .int .i64 L.wri, .int .i64 L.rcv, .slice a3 l.length c3] 53))
  replace HQ := hide ((show Blk _ _ _ _ from unhide HQ).alloc (.cells #[.int .i64 L.id, .int .i64 L.st, .int .i64 L.be, .int .i64 L.out, .int .i64 L.rt, .int .i64 L.gr, .int .i64 L.due, .int .i64 L.inc, .int .i64 L.got, .int .i64 L.adj, .int .i64 L.wri, .int .i64 L.rcv, .slice a3 l.length c3] 53))
  replace HB := hide (below_via (unhide HB) (below1L w3 (.cells #[.int .i64 L.id, .int .i64 L.st, .int .i64 L.be, .int .i64 L.out, .int .i64 L.rt, .int .i64 L.gr, .int .i64 L.due, .int .i64 L.inc, .int .i64 L.got, .int .i64 L.adj, .int .i64 L.wri, .int .i64 L.rcv, .slice a3 l.length c3] 53)))
  clear hb hr hs hf
  generalize hU : w3.alloc (.cells #[.int .i64 L.id, .int .i64 L.st, .int .i64 L.be, .int .i64 L.out, .int .i64 L.rt, .int .i64 L.gr, .int .i64 L.due, .int .i64 L.inc, .int .i64 L.got, .int .i64 L.adj, .int .i64 L.wri, .int .i64 L.rcv, .slice a3 l.length c3] 53) = U3 at HL HRl HF HQ HB
  obtain ⟨q0, q1, q2, q3, q4, q5, q6, q7, q8, q9, q10, q11, q12, q13, q14, q15⟩ := Blk.c16 (show Blk _ _ _ _ from unhide HQ)
  obtain ⟨r0, r1, r2, r3, r4, r5, r6, r7, r8, r9, r10, r11, r12⟩ := Blk.c13 (show Blk _ _ _ _ from unhide HL)
  go_wp2_with fail
  clear hU
  refine (unhide HCu _ _ _ _ _ _ _ _ _ (unhide HRl) (unhide HF) (unhide HS2)).mono ?_
  rintro z w4 ⟨a4, c4, rfl, hr, hs, hf, hb⟩
  replace HB := hide (below_via (unhide HB) hb)
  replace HQ := hide ((show Blk _ _ _ _ from unhide HQ).keep hb)
  replace HL := hide ((show Blk _ _ _ _ from unhide HL).keep hb)
  replace HF := hide ((unhide HF).below hb (Nat.le_refl _))
  replace HRl := hide ((unhide HRl).below hb (Nat.le_refl _))
  clear hb hf q0 q1 q2 q3 q4 q5 q6 q7 q8 q9 q10 q11 q12 q13 q14 q15 r0 r1 r2 r3 r4 r5 r6 r7 r8 r9 r10 r11 r12
  have d1 : (cuE L l fl != 0) = true := by simpa using he
  have d2 : (cuM L l fl == 0) = true := by rw [(cu_no he).1]; rfl
  have d3 : ((cuK L l fl).st == 0) = true := by rw [(cu_no he).2]; rfl
  clear he HCu hr hs
  generalize cuE L l fl = E at *
  generalize cuM L l fl = M at *
  generalize (cuL L l fl).length = n4 at *
  generalize cuK L l fl = K at *
  have k4 := hide (below_via (unhide HB) (below1L w4 (.cells #[.int .i64 K.id, .int .i64 K.st, .int .i64 K.be, .int .i64 K.out, .int .i64 K.rt, .int .i64 K.gr, .int .i64 K.due, .int .i64 K.inc, .int .i64 K.got, .int .i64 K.adj, .int .i64 K.wri, .int .i64 K.rcv, .slice a4 n4 c4] 53)))
  go_wp2_with fail
  go_ret
  exact ⟨rfl, unhide k4⟩
theorem wrap_in {x : Int} (h1 : -9223372036854775808 ≤ x) (h2 : x ≤ 9223372036854775807) : IntKind.i64.wrap x = x := by
  first
    | (rw [IntKind.wrap_i64]; unfold Go.RowKit.wrap64; omega)
    | (simp [IntKind.wrap, IntKind.signed, IntKind.bits]; omega)
structure FS (w W : World) (qb lb xb yb : Nat) (A Lc Kc Kd : Array Value) (s4 s6 v : Value) (fl : List Int) : Prop where
  bel : Below w.heap.size w W
  q : Blk W qb A 81
  l : Blk W lb Lc 53
  x : Blk W xb Kc 53
  y : Blk W yb Kd 53
  rx : Row W s4 fl
  ry : Row W s6 fl
  rf : Row W v fl
theorem FS.keep {w W W2 : World} {qb lb xb yb : Nat} {A Lc Kc Kd : Array Value} {s4 s6 v : Value} {fl : List Int} (h : FS w W qb lb xb yb A Lc Kc Kd s4 s6 v fl) (hb : Below W.heap.size W W2) : FS w W2 qb lb xb yb A Lc Kc Kd s4 s6 v fl := ⟨below_via h.bel hb, h.q.keep hb, h.l.keep hb, h.x.keep hb, h.y.keep hb, h.rx.below hb (Nat.le_refl _), h.ry.below hb (Nat.le_refl _), h.rf.below hb (Nat.le_refl _)⟩
theorem FS.drew {w W : World} {qb lb xb yb : Nat} {A Lc Kc Kd : Array Value} {s4 s6 v : Value} {fl : List Int} (h : FS w W qb lb xb yb A Lc Kc Kd s4 s6 v fl) : FS w W.drew qb lb xb yb A Lc Kc Kd s4 s6 v fl := ⟨below_drew h.bel, h.q, h.l, h.x, h.y, h.rx.drew, h.ry.drew, h.rf.drew⟩
set_option maxRecDepth 100000 in
set_option maxRecDepth 20000 in
set_option maxHeartbeats 16000000 in
theorem catches_yes {L : Ln} {a a2 : Option Addr} {n c n2 c2 : Nat} {id fair : Int} {l fl : List Int} {w : World} (hR : Row w (.slice a n c) l) (hS : Sl a n c) (hF : Row w (.slice a2 n2 c2) fl) (hS2 : Sl a2 n2 c2) (hl : l.length ≤ 700) (hl2 : fl.length ≤ 60) (hg : (decide (700 < n) || decide (60 < n2)) = false) (he : cuE L l fl = 0) : CatchesL w L a a2 n c n2 c2 id fair := by
  unfold CatchesL
  obtain ⟨t0, cau, eL, eM⟩ := cu_yes he
  obtain ⟨g0, g1, g2, g3⟩ := cau.again
  obtain ⟨b1, b2, b3, b4, _⟩ := rt_bd t0
  obtain ⟨b5, b6, b7, b8, _⟩ := rt_bd cau.rt
  have n1 := cau.lb
  have n2' := (valN_bd 1 fl L.rt).2
  have x1 : ((cuK L l fl).gr == valN 1 fl L.rt) = true := by rw [cau.hK]; simp [adjK]
  have x2 : (cuM L l fl == valN 1 fl L.rt - L.gr) = true := by rw [eM]; simp
  have x3 : ((cuK L l fl).adj - L.adj == cuM L l fl) = true := by rw [cau.hK, eM]; simp [adjK]; omega
  have y1 : IntKind.i64.wrap (valN 1 fl L.rt - L.gr) = valN 1 fl L.rt - L.gr := wrap_in (by omega) (by omega)
  have y2 : IntKind.i64.wrap ((cuK L l fl).adj - L.adj) = (cuK L l fl).adj - L.adj := wrap_in (by omega) (by omega)
  have x4 : ((cuK L l fl).due == 0) = true := by rw [cau.hK]; rfl
  have x5 : ((cuK L l fl).rt == L.rt) = true := by rw [cau.hK]; simp [adjK]
  have HO : Hid (∀ W a2 n2 c2, Row W (.slice a2 n2 c2) fl → Calls (Tri Try.prog) 41 #[.slice a2 n2 c2, .int .i64 L.rt] W fun z w2 => z = .returned (.tuple #[.int .i64 (valN 1 fl L.rt), .int .i64 0]) ∧ Below W.heap.size W w2) := hide (fun W a2 n2 c2 h => by
    have k := of_any L.rt h
    rw [cau.vE] at k
    exact k)
  have HI : Hid (∀ W a n c, Row W (.slice a n c) fl → Calls (Tri Try.prog) 31 #[.agg #[.int .i64 (cuK L l fl).id, .int .i64 (cuK L l fl).st, .int .i64 (cuK L l fl).be, .int .i64 (cuK L l fl).out, .int .i64 (cuK L l fl).rt, .int .i64 (cuK L l fl).gr, .int .i64 (cuK L l fl).due, .int .i64 (cuK L l fl).inc, .int .i64 (cuK L l fl).got, .int .i64 (cuK L l fl).adj, .int .i64 (cuK L l fl).wri, .int .i64 (cuK L l fl).rcv, .slice a n c]] W fun z w2 => z = .returned (.bool true) ∧ Below W.heap.size W w2) := hide (fun W a n c h => by
    have k := right_any (cuK L l fl) a n c fl W h
    unfold Tells at k
    rw [cau.rt] at k
    exact k)
  have HSm : Hid (∀ W u v, Row W u fl → Row W v fl → Calls (Tri Try.prog) 42 #[u, v] W fun z w2 => z = .returned (.bool true) ∧ Below W.heap.size W w2) := hide (fun W u v h1 h2 => same1_any (by omega) h1 h2)
  have HS9 : Hid (∀ W a a' n n' c c', Row W (.slice a n c) fl → Row W (.slice a' n' c') fl → Calls (Tri Try.prog) 29 #[.agg #[.int .i64 (cuK L l fl).id, .int .i64 (cuK L l fl).st, .int .i64 (cuK L l fl).be, .int .i64 (cuK L l fl).out, .int .i64 (cuK L l fl).rt, .int .i64 (cuK L l fl).gr, .int .i64 (cuK L l fl).due, .int .i64 (cuK L l fl).inc, .int .i64 (cuK L l fl).got, .int .i64 (cuK L l fl).adj, .int .i64 (cuK L l fl).wri, .int .i64 (cuK L l fl).rcv, .slice a n c], .agg #[.int .i64 (cuK L l fl).id, .int .i64 (cuK L l fl).st, .int .i64 (cuK L l fl).be, .int .i64 (cuK L l fl).out, .int .i64 (cuK L l fl).rt, .int .i64 (cuK L l fl).gr, .int .i64 (cuK L l fl).due, .int .i64 (cuK L l fl).inc, .int .i64 (cuK L l fl).got, .int .i64 (cuK L l fl).adj, .int .i64 (cuK L l fl).wri, .int .i64 (cuK L l fl).rcv, .slice a' n' c']] W fun z w2 => z = .returned (.bool true) ∧ Below W.heap.size W w2) := hide (fun W a a' n n' c c' h1 h2 => same2_any (by omega) h1 h2)
  have HFr : Hid (∀ a n c W, Calls (Tri Try.prog) 30 #[.agg #[.int .i64 (cuK L l fl).id, .int .i64 (cuK L l fl).st, .int .i64 (cuK L l fl).be, .int .i64 (cuK L l fl).out, .int .i64 (cuK L l fl).rt, .int .i64 (cuK L l fl).gr, .int .i64 (cuK L l fl).due, .int .i64 (cuK L l fl).inc, .int .i64 (cuK L l fl).got, .int .i64 (cuK L l fl).adj, .int .i64 (cuK L l fl).wri, .int .i64 (cuK L l fl).rcv, .slice a n c]] W fun z w2 => z = .returned (.agg #[.int .i64 (cuK L l fl).id, .int .i64 (cuK L l fl).st, .int .i64 (cuK L l fl).be, .int .i64 (cuK L l fl).out, .int .i64 (cuK L l fl).rt, .int .i64 (cuK L l fl).gr, .int .i64 (cuK L l fl).due, .int .i64 (cuK L l fl).inc, .int .i64 (cuK L l fl).got, .int .i64 (cuK L l fl).adj, .int .i64 (cuK L l fl).wri, .int .i64 (cuK L l fl).rcv, .slice a n c]) ∧ Below W.heap.size W w2) := hide (fun a n c W => from_any (cuK L l fl) a n c W)
  have HC2 : Hid (∀ (W : World) (a a2 : Option Addr) (n c n2 c2 : Nat), Row W (.slice a n c) fl → Row W (.slice a2 n2 c2) fl → Sl a2 n2 c2 → Calls (Tri Try.prog) 40 #[.agg #[.int .i64 (cuK L l fl).id, .int .i64 (cuK L l fl).st, .int .i64 (cuK L l fl).be, .int .i64 (cuK L l fl).out, .int .i64 (cuK L l fl).rt, .int .i64 (cuK L l fl).gr, .int .i64 (cuK L l fl).due, .int .i64 (cuK L l fl).inc, .int .i64 (cuK L l fl).got, .int .i64 (cuK L l fl).adj, .int .i64 (cuK L l fl).wri, .int .i64 (cuK L l fl).rcv, .slice a n c], .slice a2 n2 c2] W fun z w2 => ∃ a3 c3, z = .returned (.tuple #[.agg #[.int .i64 (cuK L l fl).id, .int .i64 (cuK L l fl).st, .int .i64 (cuK L l fl).be, .int .i64 (cuK L l fl).out, .int .i64 (cuK L l fl).rt, .int .i64 (cuK L l fl).gr, .int .i64 (cuK L l fl).due, .int .i64 (cuK L l fl).inc, .int .i64 (cuK L l fl).got, .int .i64 (cuK L l fl).adj, .int .i64 (cuK L l fl).wri, .int .i64 (cuK L l fl).rcv, .slice a3 fl.length c3], .int .i64 0, .int .i64 0]) ∧ Row w2 (.slice a3 fl.length c3) fl ∧ Below W.heap.size W w2) := hide (fun W a a2 n c n2 c2 h1 h2 h3 => by
    have k := catchup_any (L := cuK L l fl) h1 h2 h3 (by omega)
    rw [g0, g1, g2, g3] at k
    exact k.mono fun z w2 ⟨a3, c3, p1, p2, _, _, p5⟩ => ⟨a3, c3, p1, p2, p5⟩)
  have HB := hide (below1L w (.cells #[.int .i64 L.id, .int .i64 L.st, .int .i64 L.be, .int .i64 L.out, .int .i64 L.rt, .int .i64 L.gr, .int .i64 L.due, .int .i64 L.inc, .int .i64 L.got, .int .i64 L.adj, .int .i64 L.wri, .int .i64 L.rcv, .slice a n c, .slice a2 n2 c2, .int .i64 id, .int .i64 fair] 81))
  have HQ := hide (Blk.new w #[.int .i64 L.id, .int .i64 L.st, .int .i64 L.be, .int .i64 L.out, .int .i64 L.rt, .int .i64 L.gr, .int .i64 L.due, .int .i64 L.inc, .int .i64 L.got, .int .i64 L.adj, .int .i64 L.wri, .int .i64 L.rcv, .slice a n c, .slice a2 n2 c2, .int .i64 id, .int .i64 fair] 81)
  have HR := hide (hR.alloc (.cells #[.int .i64 L.id, .int .i64 L.st, .int .i64 L.be, .int .i64 L.out, .int .i64 L.rt, .int .i64 L.gr, .int .i64 L.due, .int .i64 L.inc, .int .i64 L.got, .int .i64 L.adj, .int .i64 L.wri, .int .i64 L.rcv, .slice a n c, .slice a2 n2 c2, .int .i64 id, .int .i64 fair] 81))
  have HF := hide (hF.alloc (.cells #[.int .i64 L.id, .int .i64 L.st, .int .i64 L.be, .int .i64 L.out, .int .i64 L.rt, .int .i64 L.gr, .int .i64 L.due, .int .i64 L.inc, .int .i64 L.got, .int .i64 L.adj, .int .i64 L.wri, .int .i64 L.rcv, .slice a n c, .slice a2 n2 c2, .int .i64 id, .int .i64 fair] 81))
  have HA := hide (aliveR (w.alloc (.cells #[.int .i64 L.id, .int .i64 L.st, .int .i64 L.be, .int .i64 L.out, .int .i64 L.rt, .int .i64 L.gr, .int .i64 L.due, .int .i64 L.inc, .int .i64 L.got, .int .i64 L.adj, .int .i64 L.wri, .int .i64 L.rcv, .slice a n c, .slice a2 n2 c2, .int .i64 id, .int .i64 fair] 81)))
  have HG := hide (fun W => great_any L a a2 n c n2 c2 id fair _ rfl W)
  go_enter (Tri.at (by decide) Try.func11), Try.ntmps11
  go_wp2_with fail
  refine (unhide HA).mono ?_
  rintro z w1 ⟨rfl, hb⟩
  replace HB := hide (below_via (unhide HB) hb)
  replace HQ := hide ((show Blk _ _ _ _ from unhide HQ).keep hb)
  replace HR := hide ((unhide HR).below hb (Nat.le_refl _))
  replace HF := hide ((unhide HF).below hb (Nat.le_refl _))
  clear hb HA
  obtain ⟨q0, q1, q2, q3, q4, q5, q6, q7, q8, q9, q10, q11, q12, q13, q14, q15⟩ := Blk.c16 (show Blk _ _ _ _ from unhide HQ)
  go_wp2_with fail
  refine (unhide HG _).mono ?_
  rintro z w2 ⟨rfl, hb⟩
  replace HB := hide (below_via (unhide HB) hb)
  replace HQ := hide ((show Blk _ _ _ _ from unhide HQ).keep hb)
  replace HR := hide ((unhide HR).below hb (Nat.le_refl _))
  replace HF := hide ((unhide HF).below hb (Nat.le_refl _))
  clear hb HG q0 q1 q2 q3 q4 q5 q6 q7 q8 q9 q10 q11 q12 q13 q14 q15
  rw [hg]
  clear hg
  have HT := hide (to_any (L := L) (unhide HR) hS (by omega))
  have HCu : Hid (∀ (W : World) (a a2 : Option Addr) (n c n2 c2 : Nat) (L : Ln) (l : List Int), Row W (.slice a n c) l → Row W (.slice a2 n2 c2) fl → Sl a2 n2 c2 → Calls (Tri Try.prog) 40 #[.agg #[.int .i64 L.id, .int .i64 L.st, .int .i64 L.be, .int .i64 L.out, .int .i64 L.rt, .int .i64 L.gr, .int .i64 L.due, .int .i64 L.inc, .int .i64 L.got, .int .i64 L.adj, .int .i64 L.wri, .int .i64 L.rcv, .slice a n c], .slice a2 n2 c2] W fun z w2 => ∃ a3 c3, z = .returned (.tuple #[.agg #[.int .i64 (cuK L l fl).id, .int .i64 (cuK L l fl).st, .int .i64 (cuK L l fl).be, .int .i64 (cuK L l fl).out, .int .i64 (cuK L l fl).rt, .int .i64 (cuK L l fl).gr, .int .i64 (cuK L l fl).due, .int .i64 (cuK L l fl).inc, .int .i64 (cuK L l fl).got, .int .i64 (cuK L l fl).adj, .int .i64 (cuK L l fl).wri, .int .i64 (cuK L l fl).rcv, .slice a3 (cuL L l fl).length c3], .int .i64 (cuM L l fl), .int .i64 (cuE L l fl)]) ∧ Row w2 (.slice a3 (cuL L l fl).length c3) (cuL L l fl) ∧ Sl a3 (cuL L l fl).length c3 ∧ (∀ x, a3 = some x → W.heap.size ≤ x.block) ∧ Below W.heap.size W w2) := hide (fun W a a2 n c n2 c2 L l h1 h2 h3 => catchup_any h1 h2 h3 (by omega))
  clear hl hl2 hS
  have HS2 := hide hS2
  clear hS2
  obtain ⟨q0, q1, q2, q3, q4, q5, q6, q7, q8, q9, q10, q11, q12, q13, q14, q15⟩ := Blk.c16 (show Blk _ _ _ _ from unhide HQ)
  go_wp2_with fail
  refine (unhide HT).mono ?_
  rintro z w3 ⟨a3, c3, rfl, hr, hs, hf, hb⟩
  replace HB := hide (below_via (unhide HB) hb)
  replace HQ := hide ((show Blk _ _ _ _ from unhide HQ).keep hb)
  replace HF := hide ((unhide HF).below hb (Nat.le_refl _))
  clear q0 q1 q2 q3 q4 q5 q6 q7 q8 q9 q10 q11 q12 q13 q14 q15 HT HR
  have HL := hide (Blk.new w3 #[.int .i64 L.id, .int .i64 L.st, .int .i64 L.be, .int .i64 L.out, .int .i64 L.rt, .int .i64 L.gr, .int .i64 L.due, .int .i64 L.inc, .int .i64 L.got, .int .i64 L.adj, .int .i64 L.wri, .int .i64 L.rcv, .slice a3 l.length c3] 53)
  have HRl := hide (hr.alloc (.cells #[.int .i64 L.id, .int .i64 L.st, .int .i64 L.be, .int .i64 L.out, .int .i64 L.rt, .int .i64 L.gr, .int .i64 L.due, .int .i64 L.inc, .int .i64 L.got, .int .i64 L.adj, .int .i64 L.wri, .int .i64 L.rcv, .slice a3 l.length c3] 53))
  replace HF := hide ((unhide HF).alloc (.cells #[.int .i64 L.id, .int .i64 L.st, .int .i64 L.be, .int .i64 L.out, .int .i64 L.rt, .int .i64 L.gr, .int .i64 L.due, .int .i64 L.inc, .int .i64 L.got, .int .i64 L.adj, .int .i64 L.wri, .int .i64 L.rcv, .slice a3 l.length c3] 53))
  replace HQ := hide ((show Blk _ _ _ _ from unhide HQ).alloc (.cells #[.int .i64 L.id, .int .i64 L.st, .int .i64 L.be, .int .i64 L.out, .int .i64 L.rt, .int .i64 L.gr, .int .i64 L.due, .int .i64 L.inc, .int .i64 L.got, .int .i64 L.adj, .int .i64 L.wri, .int .i64 L.rcv, .slice a3 l.length c3] 53))
  replace HB := hide (below_via (unhide HB) (below1L w3 (.cells #[.int .i64 L.id, .int .i64 L.st, .int .i64 L.be, .int .i64 L.out, .int .i64 L.rt, .int .i64 L.gr, .int .i64 L.due, .int .i64 L.inc, .int .i64 L.got, .int .i64 L.adj, .int .i64 L.wri, .int .i64 L.rcv, .slice a3 l.length c3] 53)))
  clear hb hr hs hf
  generalize hU : w3.alloc (.cells #[.int .i64 L.id, .int .i64 L.st, .int .i64 L.be, .int .i64 L.out, .int .i64 L.rt, .int .i64 L.gr, .int .i64 L.due, .int .i64 L.inc, .int .i64 L.got, .int .i64 L.adj, .int .i64 L.wri, .int .i64 L.rcv, .slice a3 l.length c3] 53) = U3 at HL HRl HF HQ HB
  obtain ⟨q0, q1, q2, q3, q4, q5, q6, q7, q8, q9, q10, q11, q12, q13, q14, q15⟩ := Blk.c16 (show Blk _ _ _ _ from unhide HQ)
  obtain ⟨r0, r1, r2, r3, r4, r5, r6, r7, r8, r9, r10, r11, r12⟩ := Blk.c13 (show Blk _ _ _ _ from unhide HL)
  go_wp2_with fail
  clear hU
  refine (unhide HCu _ _ _ _ _ _ _ _ _ (unhide HRl) (unhide HF) (unhide HS2)).mono ?_
  rintro z w4 ⟨a4, c4, rfl, hr, hs, hf, hb⟩
  replace HB := hide (below_via (unhide HB) hb)
  replace HQ := hide ((show Blk _ _ _ _ from unhide HQ).keep hb)
  replace HL := hide ((show Blk _ _ _ _ from unhide HL).keep hb)
  replace HF := hide ((unhide HF).below hb (Nat.le_refl _))
  replace HRl := hide ((unhide HRl).below hb (Nat.le_refl _))
  clear hb hf q0 q1 q2 q3 q4 q5 q6 q7 q8 q9 q10 q11 q12 q13 q14 q15 r0 r1 r2 r3 r4 r5 r6 r7 r8 r9 r10 r11 r12
  rw [eL] at hr hs
  simp only [eL, he]
  clear he eL eM g0 g1 g2 g3 t0 cau HCu
  generalize cuM L l fl = M at *
  generalize cuK L l fl = K at *
  generalize valN 1 fl L.rt = N at *
  have HX := hide (Blk.new w4 #[.int .i64 K.id, .int .i64 K.st, .int .i64 K.be, .int .i64 K.out, .int .i64 K.rt, .int .i64 K.gr, .int .i64 K.due, .int .i64 K.inc, .int .i64 K.got, .int .i64 K.adj, .int .i64 K.wri, .int .i64 K.rcv, .slice a4 fl.length c4] 53)
  have HRx := hide (hr.alloc (.cells #[.int .i64 K.id, .int .i64 K.st, .int .i64 K.be, .int .i64 K.out, .int .i64 K.rt, .int .i64 K.gr, .int .i64 K.due, .int .i64 K.inc, .int .i64 K.got, .int .i64 K.adj, .int .i64 K.wri, .int .i64 K.rcv, .slice a4 fl.length c4] 53))
  replace HF := hide ((unhide HF).alloc (.cells #[.int .i64 K.id, .int .i64 K.st, .int .i64 K.be, .int .i64 K.out, .int .i64 K.rt, .int .i64 K.gr, .int .i64 K.due, .int .i64 K.inc, .int .i64 K.got, .int .i64 K.adj, .int .i64 K.wri, .int .i64 K.rcv, .slice a4 fl.length c4] 53))
  replace HQ := hide ((show Blk _ _ _ _ from unhide HQ).alloc (.cells #[.int .i64 K.id, .int .i64 K.st, .int .i64 K.be, .int .i64 K.out, .int .i64 K.rt, .int .i64 K.gr, .int .i64 K.due, .int .i64 K.inc, .int .i64 K.got, .int .i64 K.adj, .int .i64 K.wri, .int .i64 K.rcv, .slice a4 fl.length c4] 53))
  replace HL := hide ((show Blk _ _ _ _ from unhide HL).alloc (.cells #[.int .i64 K.id, .int .i64 K.st, .int .i64 K.be, .int .i64 K.out, .int .i64 K.rt, .int .i64 K.gr, .int .i64 K.due, .int .i64 K.inc, .int .i64 K.got, .int .i64 K.adj, .int .i64 K.wri, .int .i64 K.rcv, .slice a4 fl.length c4] 53))
  replace HB := hide (below_via (unhide HB) (below1L w4 (.cells #[.int .i64 K.id, .int .i64 K.st, .int .i64 K.be, .int .i64 K.out, .int .i64 K.rt, .int .i64 K.gr, .int .i64 K.due, .int .i64 K.inc, .int .i64 K.got, .int .i64 K.adj, .int .i64 K.wri, .int .i64 K.rcv, .slice a4 fl.length c4] 53)))
  clear hr hs HRl
  generalize hU : w4.alloc (.cells #[.int .i64 K.id, .int .i64 K.st, .int .i64 K.be, .int .i64 K.out, .int .i64 K.rt, .int .i64 K.gr, .int .i64 K.due, .int .i64 K.inc, .int .i64 K.got, .int .i64 K.adj, .int .i64 K.wri, .int .i64 K.rcv, .slice a4 fl.length c4] 53) = U4 at HX HRx HF HQ HL HB
  obtain ⟨q0, q1, q2, q3, q4, q5, q6, q7, q8, q9, q10, q11, q12, q13, q14, q15⟩ := Blk.c16 (show Blk _ _ _ _ from unhide HQ)
  obtain ⟨r0, r1, r2, r3, r4, r5, r6, r7, r8, r9, r10, r11, r12⟩ := Blk.c13 (show Blk _ _ _ _ from unhide HL)
  go_wp2_with fail
  clear hU
  refine (unhide HO _ _ _ _ (unhide HF)).mono ?_
  rintro z w5 ⟨rfl, hb⟩
  replace HB := hide (below_via (unhide HB) hb)
  replace HQ := hide ((show Blk _ _ _ _ from unhide HQ).keep hb)
  replace HL := hide ((show Blk _ _ _ _ from unhide HL).keep hb)
  replace HX := hide ((show Blk _ _ _ _ from unhide HX).keep hb)
  replace HF := hide ((unhide HF).below hb (Nat.le_refl _))
  replace HRx := hide ((unhide HRx).below hb (Nat.le_refl _))
  clear hb HO q0 q1 q2 q3 q4 q5 q6 q7 q8 q9 q10 q11 q12 q13 q14 q15 r0 r1 r2 r3 r4 r5 r6 r7 r8 r9 r10 r11 r12
  obtain ⟨q0, q1, q2, q3, q4, q5, q6, q7, q8, q9, q10, q11, q12, q13, q14, q15⟩ := Blk.c16 (show Blk _ _ _ _ from unhide HQ)
  obtain ⟨r0, r1, r2, r3, r4, r5, r6, r7, r8, r9, r10, r11, r12⟩ := Blk.c13 (show Blk _ _ _ _ from unhide HX)
  go_wp2_with fail
  refine (unhide HC2 _ _ _ _ _ _ _ (unhide HRx) (unhide HF) (unhide HS2)).mono ?_
  rintro z w6 ⟨a6, c6, rfl, hr, hb⟩
  replace HB := hide (below_via (unhide HB) hb)
  replace HQ := hide ((show Blk _ _ _ _ from unhide HQ).keep hb)
  replace HL := hide ((show Blk _ _ _ _ from unhide HL).keep hb)
  replace HX := hide ((show Blk _ _ _ _ from unhide HX).keep hb)
  replace HF := hide ((unhide HF).below hb (Nat.le_refl _))
  replace HRx := hide ((unhide HRx).below hb (Nat.le_refl _))
  clear hb HC2 q0 q1 q2 q3 q4 q5 q6 q7 q8 q9 q10 q11 q12 q13 q14 q15 r0 r1 r2 r3 r4 r5 r6 r7 r8 r9 r10 r11 r12
  have HY := hide (Blk.new w6 #[.int .i64 K.id, .int .i64 K.st, .int .i64 K.be, .int .i64 K.out, .int .i64 K.rt, .int .i64 K.gr, .int .i64 K.due, .int .i64 K.inc, .int .i64 K.got, .int .i64 K.adj, .int .i64 K.wri, .int .i64 K.rcv, .slice a6 fl.length c6] 53)
  have HRy := hide (hr.alloc (.cells #[.int .i64 K.id, .int .i64 K.st, .int .i64 K.be, .int .i64 K.out, .int .i64 K.rt, .int .i64 K.gr, .int .i64 K.due, .int .i64 K.inc, .int .i64 K.got, .int .i64 K.adj, .int .i64 K.wri, .int .i64 K.rcv, .slice a6 fl.length c6] 53))
  replace HRx := hide ((unhide HRx).alloc (.cells #[.int .i64 K.id, .int .i64 K.st, .int .i64 K.be, .int .i64 K.out, .int .i64 K.rt, .int .i64 K.gr, .int .i64 K.due, .int .i64 K.inc, .int .i64 K.got, .int .i64 K.adj, .int .i64 K.wri, .int .i64 K.rcv, .slice a6 fl.length c6] 53))
  replace HF := hide ((unhide HF).alloc (.cells #[.int .i64 K.id, .int .i64 K.st, .int .i64 K.be, .int .i64 K.out, .int .i64 K.rt, .int .i64 K.gr, .int .i64 K.due, .int .i64 K.inc, .int .i64 K.got, .int .i64 K.adj, .int .i64 K.wri, .int .i64 K.rcv, .slice a6 fl.length c6] 53))
  replace HQ := hide ((show Blk _ _ _ _ from unhide HQ).alloc (.cells #[.int .i64 K.id, .int .i64 K.st, .int .i64 K.be, .int .i64 K.out, .int .i64 K.rt, .int .i64 K.gr, .int .i64 K.due, .int .i64 K.inc, .int .i64 K.got, .int .i64 K.adj, .int .i64 K.wri, .int .i64 K.rcv, .slice a6 fl.length c6] 53))
  replace HL := hide ((show Blk _ _ _ _ from unhide HL).alloc (.cells #[.int .i64 K.id, .int .i64 K.st, .int .i64 K.be, .int .i64 K.out, .int .i64 K.rt, .int .i64 K.gr, .int .i64 K.due, .int .i64 K.inc, .int .i64 K.got, .int .i64 K.adj, .int .i64 K.wri, .int .i64 K.rcv, .slice a6 fl.length c6] 53))
  replace HX := hide ((show Blk _ _ _ _ from unhide HX).alloc (.cells #[.int .i64 K.id, .int .i64 K.st, .int .i64 K.be, .int .i64 K.out, .int .i64 K.rt, .int .i64 K.gr, .int .i64 K.due, .int .i64 K.inc, .int .i64 K.got, .int .i64 K.adj, .int .i64 K.wri, .int .i64 K.rcv, .slice a6 fl.length c6] 53))
  replace HB := hide (below_via (unhide HB) (below1L w6 (.cells #[.int .i64 K.id, .int .i64 K.st, .int .i64 K.be, .int .i64 K.out, .int .i64 K.rt, .int .i64 K.gr, .int .i64 K.due, .int .i64 K.inc, .int .i64 K.got, .int .i64 K.adj, .int .i64 K.wri, .int .i64 K.rcv, .slice a6 fl.length c6] 53)))
  clear hr
  generalize hU : w6.alloc (.cells #[.int .i64 K.id, .int .i64 K.st, .int .i64 K.be, .int .i64 K.out, .int .i64 K.rt, .int .i64 K.gr, .int .i64 K.due, .int .i64 K.inc, .int .i64 K.got, .int .i64 K.adj, .int .i64 K.wri, .int .i64 K.rcv, .slice a6 fl.length c6] 53) = U6 at HX HY HRx HRy HF HQ HL HB
  have HFS : Hid (FS w U6 w.heap.size w3.heap.size w4.heap.size w6.heap.size #[.int .i64 L.id, .int .i64 L.st, .int .i64 L.be, .int .i64 L.out, .int .i64 L.rt, .int .i64 L.gr, .int .i64 L.due, .int .i64 L.inc, .int .i64 L.got, .int .i64 L.adj, .int .i64 L.wri, .int .i64 L.rcv, .slice a n c, .slice a2 n2 c2, .int .i64 id, .int .i64 fair] #[.int .i64 L.id, .int .i64 L.st, .int .i64 L.be, .int .i64 L.out, .int .i64 L.rt, .int .i64 L.gr, .int .i64 L.due, .int .i64 L.inc, .int .i64 L.got, .int .i64 L.adj, .int .i64 L.wri, .int .i64 L.rcv, .slice a3 l.length c3] #[.int .i64 K.id, .int .i64 K.st, .int .i64 K.be, .int .i64 K.out, .int .i64 K.rt, .int .i64 K.gr, .int .i64 K.due, .int .i64 K.inc, .int .i64 K.got, .int .i64 K.adj, .int .i64 K.wri, .int .i64 K.rcv, .slice a4 fl.length c4] #[.int .i64 K.id, .int .i64 K.st, .int .i64 K.be, .int .i64 K.out, .int .i64 K.rt, .int .i64 K.gr, .int .i64 K.due, .int .i64 K.inc, .int .i64 K.got, .int .i64 K.adj, .int .i64 K.wri, .int .i64 K.rcv, .slice a6 fl.length c6] (.slice a4 fl.length c4) (.slice a6 fl.length c6) (.slice a2 n2 c2) fl) := hide ⟨unhide HB, unhide HQ, unhide HL, unhide HX, unhide HY, unhide HRx, unhide HRy, unhide HF⟩
  clear HB HQ HL HX HY HRx HRy HF
  have mk : Hid (∀ W, FS w W w.heap.size w3.heap.size w4.heap.size w6.heap.size #[.int .i64 L.id, .int .i64 L.st, .int .i64 L.be, .int .i64 L.out, .int .i64 L.rt, .int .i64 L.gr, .int .i64 L.due, .int .i64 L.inc, .int .i64 L.got, .int .i64 L.adj, .int .i64 L.wri, .int .i64 L.rcv, .slice a n c, .slice a2 n2 c2, .int .i64 id, .int .i64 fair] #[.int .i64 L.id, .int .i64 L.st, .int .i64 L.be, .int .i64 L.out, .int .i64 L.rt, .int .i64 L.gr, .int .i64 L.due, .int .i64 L.inc, .int .i64 L.got, .int .i64 L.adj, .int .i64 L.wri, .int .i64 L.rcv, .slice a3 l.length c3] #[.int .i64 K.id, .int .i64 K.st, .int .i64 K.be, .int .i64 K.out, .int .i64 K.rt, .int .i64 K.gr, .int .i64 K.due, .int .i64 K.inc, .int .i64 K.got, .int .i64 K.adj, .int .i64 K.wri, .int .i64 K.rcv, .slice a4 fl.length c4] #[.int .i64 K.id, .int .i64 K.st, .int .i64 K.be, .int .i64 K.out, .int .i64 K.rt, .int .i64 K.gr, .int .i64 K.due, .int .i64 K.inc, .int .i64 K.got, .int .i64 K.adj, .int .i64 K.wri, .int .i64 K.rcv, .slice a6 fl.length c6] (.slice a4 fl.length c4) (.slice a6 fl.length c6) (.slice a2 n2 c2) fl → W.cell? ⟨w.heap.size, 13, none⟩ = some (.slice a2 n2 c2) ∧ W.cell? ⟨w3.heap.size, 4, none⟩ = some (.int .i64 L.rt) ∧ W.cell? ⟨w3.heap.size, 5, none⟩ = some (.int .i64 L.gr) ∧ W.cell? ⟨w3.heap.size, 9, none⟩ = some (.int .i64 L.adj) ∧ W.cell? ⟨w4.heap.size, 0, none⟩ = some (.int .i64 K.id) ∧ W.cell? ⟨w4.heap.size, 1, none⟩ = some (.int .i64 K.st) ∧ W.cell? ⟨w4.heap.size, 2, none⟩ = some (.int .i64 K.be) ∧ W.cell? ⟨w4.heap.size, 3, none⟩ = some (.int .i64 K.out) ∧ W.cell? ⟨w4.heap.size, 4, none⟩ = some (.int .i64 K.rt) ∧ W.cell? ⟨w4.heap.size, 5, none⟩ = some (.int .i64 K.gr) ∧ W.cell? ⟨w4.heap.size, 6, none⟩ = some (.int .i64 K.due) ∧ W.cell? ⟨w4.heap.size, 7, none⟩ = some (.int .i64 K.inc) ∧ W.cell? ⟨w4.heap.size, 8, none⟩ = some (.int .i64 K.got) ∧ W.cell? ⟨w4.heap.size, 9, none⟩ = some (.int .i64 K.adj) ∧ W.cell? ⟨w4.heap.size, 10, none⟩ = some (.int .i64 K.wri) ∧ W.cell? ⟨w4.heap.size, 11, none⟩ = some (.int .i64 K.rcv) ∧ W.cell? ⟨w4.heap.size, 12, none⟩ = some (.slice a4 fl.length c4) ∧ W.cell? ⟨w6.heap.size, 0, none⟩ = some (.int .i64 K.id) ∧ W.cell? ⟨w6.heap.size, 1, none⟩ = some (.int .i64 K.st) ∧ W.cell? ⟨w6.heap.size, 2, none⟩ = some (.int .i64 K.be) ∧ W.cell? ⟨w6.heap.size, 3, none⟩ = some (.int .i64 K.out) ∧ W.cell? ⟨w6.heap.size, 4, none⟩ = some (.int .i64 K.rt) ∧ W.cell? ⟨w6.heap.size, 5, none⟩ = some (.int .i64 K.gr) ∧ W.cell? ⟨w6.heap.size, 6, none⟩ = some (.int .i64 K.due) ∧ W.cell? ⟨w6.heap.size, 7, none⟩ = some (.int .i64 K.inc) ∧ W.cell? ⟨w6.heap.size, 8, none⟩ = some (.int .i64 K.got) ∧ W.cell? ⟨w6.heap.size, 9, none⟩ = some (.int .i64 K.adj) ∧ W.cell? ⟨w6.heap.size, 10, none⟩ = some (.int .i64 K.wri) ∧ W.cell? ⟨w6.heap.size, 11, none⟩ = some (.int .i64 K.rcv) ∧ W.cell? ⟨w6.heap.size, 12, none⟩ = some (.slice a6 fl.length c6) ∧ Hid (FS w W w.heap.size w3.heap.size w4.heap.size w6.heap.size #[.int .i64 L.id, .int .i64 L.st, .int .i64 L.be, .int .i64 L.out, .int .i64 L.rt, .int .i64 L.gr, .int .i64 L.due, .int .i64 L.inc, .int .i64 L.got, .int .i64 L.adj, .int .i64 L.wri, .int .i64 L.rcv, .slice a n c, .slice a2 n2 c2, .int .i64 id, .int .i64 fair] #[.int .i64 L.id, .int .i64 L.st, .int .i64 L.be, .int .i64 L.out, .int .i64 L.rt, .int .i64 L.gr, .int .i64 L.due, .int .i64 L.inc, .int .i64 L.got, .int .i64 L.adj, .int .i64 L.wri, .int .i64 L.rcv, .slice a3 l.length c3] #[.int .i64 K.id, .int .i64 K.st, .int .i64 K.be, .int .i64 K.out, .int .i64 K.rt, .int .i64 K.gr, .int .i64 K.due, .int .i64 K.inc, .int .i64 K.got, .int .i64 K.adj, .int .i64 K.wri, .int .i64 K.rcv, .slice a4 fl.length c4] #[.int .i64 K.id, .int .i64 K.st, .int .i64 K.be, .int .i64 K.out, .int .i64 K.rt, .int .i64 K.gr, .int .i64 K.due, .int .i64 K.inc, .int .i64 K.got, .int .i64 K.adj, .int .i64 K.wri, .int .i64 K.rcv, .slice a6 fl.length c6] (.slice a4 fl.length c4) (.slice a6 fl.length c6) (.slice a2 n2 c2) fl)) := hide (fun W h => ⟨h.q.at 13 _ rfl, h.l.at 4 _ rfl, h.l.at 5 _ rfl, h.l.at 9 _ rfl, h.x.at 0 _ rfl, h.x.at 1 _ rfl, h.x.at 2 _ rfl, h.x.at 3 _ rfl, h.x.at 4 _ rfl, h.x.at 5 _ rfl, h.x.at 6 _ rfl, h.x.at 7 _ rfl, h.x.at 8 _ rfl, h.x.at 9 _ rfl, h.x.at 10 _ rfl, h.x.at 11 _ rfl, h.x.at 12 _ rfl, h.y.at 0 _ rfl, h.y.at 1 _ rfl, h.y.at 2 _ rfl, h.y.at 3 _ rfl, h.y.at 4 _ rfl, h.y.at 5 _ rfl, h.y.at 6 _ rfl, h.y.at 7 _ rfl, h.y.at 8 _ rfl, h.y.at 9 _ rfl, h.y.at 10 _ rfl, h.y.at 11 _ rfl, h.y.at 12 _ rfl, hide h⟩)
  have HS0 := hide (unhide HFS).drew
  go_wp2_with fail
  clear hU HFS
  go_region_held3 (fun w' => w'.cell? ⟨w.heap.size, 13, none⟩ = some (.slice a2 n2 c2) ∧ w'.cell? ⟨w3.heap.size, 4, none⟩ = some (.int .i64 L.rt) ∧ w'.cell? ⟨w3.heap.size, 5, none⟩ = some (.int .i64 L.gr) ∧ w'.cell? ⟨w3.heap.size, 9, none⟩ = some (.int .i64 L.adj) ∧ w'.cell? ⟨w4.heap.size, 0, none⟩ = some (.int .i64 K.id) ∧ w'.cell? ⟨w4.heap.size, 1, none⟩ = some (.int .i64 K.st) ∧ w'.cell? ⟨w4.heap.size, 2, none⟩ = some (.int .i64 K.be) ∧ w'.cell? ⟨w4.heap.size, 3, none⟩ = some (.int .i64 K.out) ∧ w'.cell? ⟨w4.heap.size, 4, none⟩ = some (.int .i64 K.rt) ∧ w'.cell? ⟨w4.heap.size, 5, none⟩ = some (.int .i64 K.gr) ∧ w'.cell? ⟨w4.heap.size, 6, none⟩ = some (.int .i64 K.due) ∧ w'.cell? ⟨w4.heap.size, 7, none⟩ = some (.int .i64 K.inc) ∧ w'.cell? ⟨w4.heap.size, 8, none⟩ = some (.int .i64 K.got) ∧ w'.cell? ⟨w4.heap.size, 9, none⟩ = some (.int .i64 K.adj) ∧ w'.cell? ⟨w4.heap.size, 10, none⟩ = some (.int .i64 K.wri) ∧ w'.cell? ⟨w4.heap.size, 11, none⟩ = some (.int .i64 K.rcv) ∧ w'.cell? ⟨w4.heap.size, 12, none⟩ = some (.slice a4 fl.length c4) ∧ w'.cell? ⟨w6.heap.size, 0, none⟩ = some (.int .i64 K.id) ∧ w'.cell? ⟨w6.heap.size, 1, none⟩ = some (.int .i64 K.st) ∧ w'.cell? ⟨w6.heap.size, 2, none⟩ = some (.int .i64 K.be) ∧ w'.cell? ⟨w6.heap.size, 3, none⟩ = some (.int .i64 K.out) ∧ w'.cell? ⟨w6.heap.size, 4, none⟩ = some (.int .i64 K.rt) ∧ w'.cell? ⟨w6.heap.size, 5, none⟩ = some (.int .i64 K.gr) ∧ w'.cell? ⟨w6.heap.size, 6, none⟩ = some (.int .i64 K.due) ∧ w'.cell? ⟨w6.heap.size, 7, none⟩ = some (.int .i64 K.inc) ∧ w'.cell? ⟨w6.heap.size, 8, none⟩ = some (.int .i64 K.got) ∧ w'.cell? ⟨w6.heap.size, 9, none⟩ = some (.int .i64 K.adj) ∧ w'.cell? ⟨w6.heap.size, 10, none⟩ = some (.int .i64 K.wri) ∧ w'.cell? ⟨w6.heap.size, 11, none⟩ = some (.int .i64 K.rcv) ∧ w'.cell? ⟨w6.heap.size, 12, none⟩ = some (.slice a6 fl.length c6) ∧ Hid (FS w w' w.heap.size w3.heap.size w4.heap.size w6.heap.size #[.int .i64 L.id, .int .i64 L.st, .int .i64 L.be, .int .i64 L.out, .int .i64 L.rt, .int .i64 L.gr, .int .i64 L.due, .int .i64 L.inc, .int .i64 L.got, .int .i64 L.adj, .int .i64 L.wri, .int .i64 L.rcv, .slice a n c, .slice a2 n2 c2, .int .i64 id, .int .i64 fair] #[.int .i64 L.id, .int .i64 L.st, .int .i64 L.be, .int .i64 L.out, .int .i64 L.rt, .int .i64 L.gr, .int .i64 L.due, .int .i64 L.inc, .int .i64 L.got, .int .i64 L.adj, .int .i64 L.wri, .int .i64 L.rcv, .slice a3 l.length c3] #[.int .i64 K.id, .int .i64 K.st, .int .i64 K.be, .int .i64 K.out, .int .i64 K.rt, .int .i64 K.gr, .int .i64 K.due, .int .i64 K.inc, .int .i64 K.got, .int .i64 K.adj, .int .i64 K.wri, .int .i64 K.rcv, .slice a4 fl.length c4] #[.int .i64 K.id, .int .i64 K.st, .int .i64 K.be, .int .i64 K.out, .int .i64 K.rt, .int .i64 K.gr, .int .i64 K.due, .int .i64 K.inc, .int .i64 K.got, .int .i64 K.adj, .int .i64 K.wri, .int .i64 K.rcv, .slice a6 fl.length c6] (.slice a4 fl.length c4) (.slice a6 fl.length c6) (.slice a2 n2 c2) fl))
    (first
      | with_reducible exact unhide mk _ (unhide HS5)
      | with_reducible exact unhide mk _ (unhide HS4)
      | with_reducible exact unhide mk _ (unhide HS3)
      | with_reducible exact unhide mk _ (unhide HS2)
      | with_reducible exact unhide mk _ (unhide HS1)
      | exact unhide mk _ (unhide HS0))
    (first
      | (go_at_call 31; refine (unhide HI _ _ _ _ (unhide HS0).rx).mono ?_; rintro z w7 ⟨rfl, hb⟩; have HS1 := hide ((unhide HS0).keep hb))
      | (go_at_call 42; refine (unhide HSm _ _ _ (unhide HS1).rx (unhide HS1).rf).mono ?_; rintro z w8 ⟨rfl, hb⟩; have HS2 := hide ((unhide HS1).keep hb))
      | (go_at_call 30; refine (unhide HFr a6 fl.length c6 _).mono ?_; rintro z w9 ⟨rfl, hb⟩; have HS3 := hide ((unhide HS2).keep hb))
      | (go_at_call 30; refine (unhide HFr a4 fl.length c4 _).mono ?_; rintro z w10 ⟨rfl, hb⟩; have HS4 := hide ((unhide HS3).keep hb))
      | (go_at_call 29; refine (unhide HS9 _ _ _ _ _ _ _ (unhide HS4).ry (unhide HS4).rx).mono ?_; rintro z w11 ⟨rfl, hb⟩; have HS5 := hide ((unhide HS4).keep hb)))
  rename_i hH
  clear hH
  go_wp2_with fail
  go_ret
  exact ⟨rfl, (unhide HS5).bel⟩
theorem catches_any {L : Ln} {a a2 : Option Addr} {n c n2 c2 : Nat} {id fair : Int} {l fl : List Int} {w : World} (hR : Row w (.slice a n c) l) (hS : Sl a n c) (hF : Row w (.slice a2 n2 c2) fl) (hS2 : Sl a2 n2 c2) : CatchesL w L a a2 n c n2 c2 id fair := by
  have e1 : n = l.length := by obtain ⟨x, y, e⟩ := row_slice hR; injection e
  have e2 : n2 = fl.length := by obtain ⟨x, y, e⟩ := row_slice hF; injection e
  by_cases hg : (decide (700 < n) || decide (60 < n2)) = true
  · exact catches_great hR hF hg
  · have hg := Bool.eq_false_iff.2 hg
    have h1 : ¬ 700 < n := fun h => by rw [decide_eq_true h] at hg; cases hg
    have h2 : ¬ 60 < n2 := fun h => by rw [decide_eq_true h, Bool.or_true] at hg; cases hg
    by_cases he : cuE L l fl = 0
    · exact catches_yes hR hS hF hS2 (by omega) (by omega) hg he
    · exact catches_no hR hS hF hS2 (by omega) (by omega) hg he
end Go.Proofs.Ytpeoabopeihadaa.Mn
