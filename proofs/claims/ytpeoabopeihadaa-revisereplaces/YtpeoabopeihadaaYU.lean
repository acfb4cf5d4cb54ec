/- Pay, refused at a loan that is gone (lone). -/
import Derived.Test.YtpeoabopeihadaaYS
import Derived.Test.YtpeoabopeihadaaYL
import Derived.Test.YtpeoabopeihadaaYT
import Derived.Test.YtpeoabopeihadaaYQ
set_option linter.unusedVariables false
set_option linter.unusedSimpArgs false
set_option linter.unusedSectionVars false
namespace Go.Proofs.Ytpeoabopeihadaa.Mn
open Go.RowKit
attribute [local simp] Tri.typeInfo Tri.sizeOf Tri.underlying Tri.runUnderlying Tri.isAgg Tri.zeroValue Tri.depth Tri.stoodInHeld Tri.eqGuardType Tri.call15 Tri.call27 Tri.call31 Tri.call32 Tri.call38 Tri.call39 Tri.call40 Tri.call41 Tri.call43 Tri.call44 Tri.call45 Tri.call46 Tri.call49 Tri.call52 Tri.call54 Tri.call65 Tri.call69 Tri.call70 Tri.call72 Tri.call73 Tri.call74 Tri.call75 Tri.call82 Tri.call86 Tri.call89 Tri.call90 Tri.call91 Tri.call92 Tri.call93 Tri.call94 Tri.call95 Tri.call96 Tri.call97 Tri.call98 Tri.call99 Tri.call100 Tri.call102 Tri.call103 Tri.call104 Tri.call106 Tri.call116 Tri.call117 Tri.call118 Tri.call119 Tri.call120 Tri.call122 Tri.call126 Tri.call130 Tri.call131 Tri.call132 Tri.call143 Tri.call144 Tri.call145 Tri.call146 Tri.call147 Tri.call156 Tri.call157 Tri.call159 Tri.call160 Tri.call161 Tri.call162 Tri.call163 Tri.call164 Tri.call165 Tri.call175 Tri.call176 Tri.call186 Tri.call188 Tri.call205
theorem row65 : isRowB (Tri Try.prog) 65 = true := by kernel_rfl
theorem size65 : ((Tri Try.prog).info? 65).map (·.size) = some 4 := by kernel_rfl
theorem asks_gone {L : Ln} {a : Option Addr} {n c : Nat} {l : List Int} {w : World} (hR : Row w (.slice a n c) l) (t0 : rightB L l = true) (hs : L.st = 4) : Calls (Tri Try.prog) 82 #[.agg (lnA L (.slice a n c)), .int .i64 1, .int .i64 1, .int .i64 0] w fun z w' => z = .returned (.int .i64 12) ∧ Below w.heap.size w w' := by
  have t2 : (L.st != 1) = true := by rw [hs]; rfl
  clear hs
  have HR := hide (hR.alloc (.cells (lnA L (.slice a n c)) 53))
  have HL := hide (Blk.new w (lnA L (.slice a n c)) 53)
  have HB := hide (below1L w (.cells (lnA L (.slice a n c)) 53))
  have H0 : Hid (∀ w1, Row w1 (.slice a n c) l → Calls (Tri Try.prog) 31 #[.agg (lnA L (.slice a n c))] w1 fun z w2 => z = .returned (.bool true) ∧ Below w1.heap.size w1 w2) := hide (fun w1 h => by
    have k := right_any L a n c l w1 h
    unfold Tells at k
    rw [t0] at k
    exact k)
  have H1 := hide (within_is (n := 1) (lo := 0) (hi := 10000000000000) (B := true) (by decide))
  clear hR t0
  go_enter (Tri.at (by decide) Try.func82), Try.ntmps82
  generalize hU : w.alloc (.cells (lnA L (.slice a n c)) 53) = U at HR HL HB ⊢
  go_wp2_with (refine load_blk rfl 53 _ rfl (show Blk _ _ _ _ from unhide HL) rfl row53 size53 rfl ?_)
  clear hU
  refine (unhide H0 _ (unhide HR)).mono ?_
  rintro z w1 ⟨rfl, hb⟩
  replace HB := hide (below_via (unhide HB) hb)
  replace HL := hide ((show Blk _ _ _ _ from unhide HL).keep hb)
  clear hb HR H0
  have c1 := (show Blk _ _ _ _ from unhide HL).at 1 (.int .i64 L.st) rfl
  go_wp2_with fail
  refine (unhide H1 _).mono ?_
  rintro z w2 ⟨rfl, rfl⟩
  go_wp2_with fail
  go_ret
  exact ⟨rfl, unhide HB⟩
theorem pay1_gone {L : Ln} {a : Option Addr} {n c pb : Nat} {l : List Int} {w : World} (hR : Row w (.slice a n c) l) (t0 : rightB L l = true) (hs : L.st = 4) (hp : w.cell? ⟨pb, 0, none⟩ = some (.int .i64 1)) : Calls (Tri Try.prog) 99 #[.agg (lnA L (.slice a n c)), .pointer (some ⟨pb, 0, none⟩)] w fun z w' => z = .returned (.int .i64 12) ∧ Below w.heap.size w w' := by
  have HR := hide (hR.alloc (.cells (lnA L (.slice a n c)) 53))
  have HL := hide (Blk.new w (lnA L (.slice a n c)) 53)
  have HB := hide (below1L w (.cells (lnA L (.slice a n c)) 53))
  have hq := cell_old hp (.cells (lnA L (.slice a n c)) 53)
  have HA : Hid (∀ W, Row W (.slice a n c) l → Calls (Tri Try.prog) 82 #[.agg (lnA L (.slice a n c)), .int .i64 1, .int .i64 1, .int .i64 0] W fun z w' => z = .returned (.int .i64 12) ∧ Below W.heap.size W w') := hide (fun W h => asks_gone h t0 hs)
  clear hR t0 hs hp
  go_enter (Tri.at (by decide) Try.func99), Try.ntmps99
  generalize hU : w.alloc (.cells (lnA L (.slice a n c)) 53) = U at HR HL HB hq ⊢
  go_wp2_with (refine load_blk rfl 53 _ rfl (show Blk _ _ _ _ from unhide HL) rfl row53 size53 rfl ?_)
  clear hU
  refine (unhide HA _ (unhide HR)).mono ?_
  rintro z w1 ⟨rfl, hb⟩
  replace HB := hide (below_via (unhide HB) hb)
  clear hb
  go_wp2_with fail
  go_ret
  exact ⟨rfl, unhide HB⟩
theorem res_cct {fn : Func} {tmps : Array Value} {W : World} {s0 b0 n0 s1 b1 n1 : Nat} {ty0 T0 ty1 T1 : TypeId} {cs0 cs1 : Array Value} (hs0 : tmps.getD s0 undef = .pointer (some ⟨b0, 0, none⟩)) (hB0 : Blk W b0 cs0 T0) (hr0 : isRowB (Tri Try.prog) ty0 = true) (hi0 : ((Tri Try.prog).info? ty0).map (·.size) = some n0) (hn0 : cs0.size = n0) (hs1 : tmps.getD s1 undef = .pointer (some ⟨b1, 0, none⟩)) (hB1 : Blk W b1 cs1 T1) (hr1 : isRowB (Tri Try.prog) ty1 = true) (hi1 : ((Tri Try.prog).info? ty1).map (·.size) = some n1) (hn1 : cs1.size = n1) {t2 : Nat} {v2 : Value} (hv2 : tmps.getD t2 undef = v2) (hf : fn.results = #[.cell s0 ty0, .cell s1 ty1, .tmp t2]) : (results fn tmps).run (Tri Try.prog) W = .ok (.tuple #[.agg cs0, .agg cs1, v2]) W := by
  have gs0 : tmps[s0]?.getD undef = .pointer (some ⟨b0, 0, none⟩) := by simpa using hs0
  have gl0 := load_var hB0 hr0 hi0 hn0
  have gs1 : tmps[s1]?.getD undef = .pointer (some ⟨b1, 0, none⟩) := by simpa using hs1
  have gl1 := load_var hB1 hr1 hi1 hn1
  have gv2 : tmps[t2]?.getD undef = v2 := by simpa using hv2
  unfold results
  rw [hf]
  simp [Sem.run_bind, Sem.run_pure, Result.andThen_ok, asAddr, gs0, gl0, gs1, gl1, gv2]
theorem pay_gone {L : Ln} {a : Option Addr} {n c : Nat} {l : List Int} {w : World} (hR : Row w (.slice a n c) l) (t0 : rightB L l = true) (hs : L.st = 4) : Calls (Tri Try.prog) 44 #[.agg (lnA L (.slice a n c)), .int .i64 1] w fun z w2 => z = .returned (.tuple #[.agg lnZ, .agg #[.int .i64 0, .int .i64 0, .int .i64 0, .int .i64 0], .int .i64 12]) ∧ Below w.heap.size w w2 := by
  have HB : Hid (Below w.heap.size w ((((w.alloc (.cells (lnA L (.slice a n c)) 53)).alloc (.cells #[.int .i64 1] 2)).alloc (.cells lnZ 53)).alloc (.cells #[.int .i64 0, .int .i64 0, .int .i64 0, .int .i64 0] 65))) := hide ((((below1L w _).alloc (by simp) _).alloc (by simp; omega) _).alloc (by simp; omega) _)
  have HP : Hid (((((w.alloc (.cells (lnA L (.slice a n c)) 53)).alloc (.cells #[.int .i64 1] 2)).alloc (.cells lnZ 53)).alloc (.cells #[.int .i64 0, .int .i64 0, .int .i64 0, .int .i64 0] 65)).cell? ⟨w.heap.size + 1, 0, none⟩ = some (.int .i64 1)) := hide (cell_old (cell_old (by simp) _) _)
  have H2 : Hid (Blk ((((w.alloc (.cells (lnA L (.slice a n c)) 53)).alloc (.cells #[.int .i64 1] 2)).alloc (.cells lnZ 53)).alloc (.cells #[.int .i64 0, .int .i64 0, .int .i64 0, .int .i64 0] 65)) (w.heap.size + 1 + 1) lnZ 53) := hide (by have h := (Blk.new ((w.alloc (.cells (lnA L (.slice a n c)) 53)).alloc (.cells #[.int .i64 1] 2)) lnZ 53).alloc (.cells #[.int .i64 0, .int .i64 0, .int .i64 0, .int .i64 0] 65); simpa using h)
  have H3 : Hid (Blk ((((w.alloc (.cells (lnA L (.slice a n c)) 53)).alloc (.cells #[.int .i64 1] 2)).alloc (.cells lnZ 53)).alloc (.cells #[.int .i64 0, .int .i64 0, .int .i64 0, .int .i64 0] 65)) (w.heap.size + 1 + 1 + 1) #[.int .i64 0, .int .i64 0, .int .i64 0, .int .i64 0] 65) := hide (by have h := Blk.new (((w.alloc (.cells (lnA L (.slice a n c)) 53)).alloc (.cells #[.int .i64 1] 2)).alloc (.cells lnZ 53)) #[.int .i64 0, .int .i64 0, .int .i64 0, .int .i64 0] 65; simpa using h)
  have HT : Hid (∀ W, Below w.heap.size w W → W.cell? ⟨w.heap.size + 1, 0, none⟩ = some (.int .i64 1) → Calls (Tri Try.prog) 86 #[.agg #[.func (.func 99) #[] #[.pointer (some ⟨w.heap.size + 1, 0, none⟩)], .func (.func 100) #[] #[.pointer (some ⟨w.heap.size + 1, 0, none⟩)], .func (.func 85) #[] #[]], .agg (lnA L (.slice a n c))] W fun z w2 => z = .returned (.tuple #[.agg lnZ, .agg #[.int .i64 0, .int .i64 0, .int .i64 0, .int .i64 0], .int .i64 12]) ∧ Below W.heap.size W w2) := hide (fun W hb hp => take_a 99 100 Tri.call99 Tri.call100 L a n c _ W 12 rfl (hide (fun w1 hb1 => pay1_gone ((hR.below hb (Nat.le_refl _)).below hb1 (Nat.le_refl _)) t0 hs ((hb1.cell (p := ⟨_, 0, none⟩) (lt_of_cell hp)).trans hp))))
  clear hR t0 hs
  go_enter (Tri.at (by decide) Try.func44), Try.ntmps44
  go_wp2_with fail
  generalize hU : (((w.alloc (.cells (lnA L (.slice a n c)) 53)).alloc (.cells #[.int .i64 1] 2)).alloc (.cells lnZ 53)).alloc (.cells #[.int .i64 0, .int .i64 0, .int .i64 0, .int .i64 0] 65) = U at *
  clear hU
  refine (unhide HT _ (unhide HB) (unhide HP)).mono ?_
  rintro z w2 ⟨rfl, hb⟩
  replace HB := hide (below_via (unhide HB) hb)
  replace H2 := hide ((show Blk _ _ _ _ from unhide H2).keep hb)
  replace H3 := hide ((show Blk _ _ _ _ from unhide H3).keep hb)
  clear hb HT HP
  go_wp2_with (refine store_blk rfl 53 _ _ rfl (show Blk _ _ _ _ from unhide H2) rfl rfl size53 rfl rfl rfl ?_)
  intro W5 k2 kp
  replace HB := hide (kp.bel (by omega) (unhide HB))
  replace H3 := hide (kp.blk (by omega) (unhide H3))
  replace H2 := hide k2
  clear kp k2
  go_wp2_with (refine store_blk rfl 65 _ _ rfl (show Blk _ _ _ _ from unhide H3) rfl rfl size65 rfl rfl rfl ?_)
  intro W6 k3 kp
  replace HB := hide (kp.bel (by omega) (unhide HB))
  replace H2 := hide (kp.blk (by omega) (unhide H2))
  clear kp
  go_wp2_with fail
  exact bodyPost_ret (v := .tuple #[.agg lnZ, .agg #[.int .i64 0, .int .i64 0, .int .i64 0, .int .i64 0], .int .i64 12]) (res_cct rfl (show Blk _ _ _ _ from unhide H2) row53 size53 rfl rfl k3 row65 size65 rfl rfl rfl) rfl ⟨rfl, unhide HB⟩
theorem row81 : isRowB (Tri Try.prog) 81 = true := by kernel_rfl
theorem size81 : ((Tri Try.prog).info? 81).map (·.size) = some 16 := by kernel_rfl
theorem wrap_n {x : Int} (h1 : -9223372036854775808 ≤ x) (h2 : x ≤ 9223372036854775807) : IntKind.i64.wrap x = x := by
  rw [IntKind.wrap_i64]; omega
def ReplL (w : World) (L : Ln) (a a2 : Option Addr) (n c n2 c2 : Nat) (id fair : Int) : Prop := Calls (Tri Try.prog) 12 #[.agg #[.int .i64 L.id, .int .i64 L.st, .int .i64 L.be, .int .i64 L.out, .int .i64 L.rt, .int .i64 L.gr, .int .i64 L.due, .int .i64 L.inc, .int .i64 L.got, .int .i64 L.adj, .int .i64 L.wri, .int .i64 L.rcv, .slice a n c, .slice a2 n2 c2, .int .i64 id, .int .i64 fair]] w fun z w' => z = .returned (.bool true) ∧ Below w.heap.size w w'
set_option maxRecDepth 100000 in
set_option maxHeartbeats 4000000 in
theorem repl_great {L : Ln} {a a2 : Option Addr} {n c n2 c2 : Nat} {id fair : Int} {l fl : List Int} {w : World} (hR : Row w (.slice a n c) l) (hF : Row w (.slice a2 n2 c2) fl) (hg : (decide (700 < n) || decide (60 < n2)) = true) : ReplL w L a a2 n c n2 c2 id fair := by
  unfold ReplL
  have HB := hide (below1L w (.cells #[.int .i64 L.id, .int .i64 L.st, .int .i64 L.be, .int .i64 L.out, .int .i64 L.rt, .int .i64 L.gr, .int .i64 L.due, .int .i64 L.inc, .int .i64 L.got, .int .i64 L.adj, .int .i64 L.wri, .int .i64 L.rcv, .slice a n c, .slice a2 n2 c2, .int .i64 id, .int .i64 fair] 81))
  have HQ := hide (Blk.new w #[.int .i64 L.id, .int .i64 L.st, .int .i64 L.be, .int .i64 L.out, .int .i64 L.rt, .int .i64 L.gr, .int .i64 L.due, .int .i64 L.inc, .int .i64 L.got, .int .i64 L.adj, .int .i64 L.wri, .int .i64 L.rcv, .slice a n c, .slice a2 n2 c2, .int .i64 id, .int .i64 fair] 81)
  have HR := hide (hR.alloc (.cells #[.int .i64 L.id, .int .i64 L.st, .int .i64 L.be, .int .i64 L.out, .int .i64 L.rt, .int .i64 L.gr, .int .i64 L.due, .int .i64 L.inc, .int .i64 L.got, .int .i64 L.adj, .int .i64 L.wri, .int .i64 L.rcv, .slice a n c, .slice a2 n2 c2, .int .i64 id, .int .i64 fair] 81))
  have HF := hide (hF.alloc (.cells #[.int .i64 L.id, .int .i64 L.st, .int .i64 L.be, .int .i64 L.out, .int .i64 L.rt, .int .i64 L.gr, .int .i64 L.due, .int .i64 L.inc, .int .i64 L.got, .int .i64 L.adj, .int .i64 L.wri, .int .i64 L.rcv, .slice a n c, .slice a2 n2 c2, .int .i64 id, .int .i64 fair] 81))
  have HA := hide (aliveR (w.alloc (.cells #[.int .i64 L.id, .int .i64 L.st, .int .i64 L.be, .int .i64 L.out, .int .i64 L.rt, .int .i64 L.gr, .int .i64 L.due, .int .i64 L.inc, .int .i64 L.got, .int .i64 L.adj, .int .i64 L.wri, .int .i64 L.rcv, .slice a n c, .slice a2 n2 c2, .int .i64 id, .int .i64 fair] 81)))
  have HG := hide (fun W => great_any L a a2 n c n2 c2 id fair _ rfl W)
  go_enter (Tri.at (by decide) Try.func12), Try.ntmps12
  go_wp2_with fail
  refine (unhide HA).mono ?_
  rintro z w1 ⟨rfl, hb⟩
  replace HB := hide (below_via (unhide HB) hb)
  replace HQ := hide ((show Blk _ _ _ _ from unhide HQ).keep hb)
  replace HR := hide ((unhide HR).below hb (Nat.le_refl _))
  replace HF := hide ((unhide HF).below hb (Nat.le_refl _))
  clear hb HA
  go_wp2_with (refine load_blk rfl 81 _ rfl (show Blk _ _ _ _ from unhide HQ) rfl row81 size81 rfl ?_)
  refine (unhide HG _).mono ?_
  rintro z w2 ⟨rfl, hb⟩
  replace HB := hide (below_via (unhide HB) hb)
  replace HQ := hide ((show Blk _ _ _ _ from unhide HQ).keep hb)
  replace HR := hide ((unhide HR).below hb (Nat.le_refl _))
  replace HF := hide ((unhide HF).below hb (Nat.le_refl _))
  clear hb HG
  rw [hg]
  clear hg
  go_wp2_with fail
  go_ret
  exact ⟨rfl, unhide HB⟩
theorem inB_in {lo n hi : Int} (h : lo ≤ n ∧ n ≤ hi) : inB lo n hi = true := by
  unfold inB
  rw [decide_eq_true h.1, decide_eq_true h.2]
  rfl
theorem new_right {id out : Int} {l : List Int} {r : Int} (h : NewE id out l r 0) : rightB (newK id out r) l = true := by
  rcases h with ⟨_, _, h⟩ | ⟨hi, h⟩
  · cases h
  rcases h with ⟨_, _, h⟩ | ⟨hm, ⟨_, _, h⟩ | ⟨h, _⟩⟩
  · cases h
  · cases h
  have hs := maySo_yes hm
  have h1 := hs.lo
  have h2 := hs.hi
  have h3 := h.lo
  have h4 := h.hi
  unfold rightB mayBeB amtL sumB endB newK
  simp only [Bool.and_eq_true, Bool.or_eq_true, decide_eq_true_eq, List.all_eq_true]
  exact ⟨⟨⟨⟨⟨hi, inB_in (by omega)⟩, inB_in (by omega)⟩, inB_in ⟨h1, h2⟩⟩, mayB_yes ⟨h3, by omega⟩⟩, ⟨hs.len, fun x hx => inB_in (hs.amt x hx)⟩, ⟨⟨⟨⟨inB_in (by omega), inB_in (by omega)⟩, inB_in (by omega)⟩, inB_in (by omega)⟩, ⟨inB_in (by omega), inB_in (by omega)⟩, inB_in (by omega)⟩, by simp, by omega⟩
set_option maxRecDepth 100000 in
set_option maxHeartbeats 4000000 in
theorem repl_any0 {L : Ln} {a a2 : Option Addr} {n c n2 c2 : Nat} {id fair : Int} {l fl : List Int} {w : World} (hR : Row w (.slice a n c) l) (hS : Sl a n c) (hF : Row w (.slice a2 n2 c2) fl) (hS2 : Sl a2 n2 c2) (hl : l.length ≤ 700) (hl2 : fl.length ≤ 60) (hg : (decide (700 < n) || decide (60 < n2)) = false) (hf : In64 fair) : ReplL w L a a2 n c n2 c2 id fair := by
  unfold ReplL
  have HB := hide (below1L w (.cells #[.int .i64 L.id, .int .i64 L.st, .int .i64 L.be, .int .i64 L.out, .int .i64 L.rt, .int .i64 L.gr, .int .i64 L.due, .int .i64 L.inc, .int .i64 L.got, .int .i64 L.adj, .int .i64 L.wri, .int .i64 L.rcv, .slice a n c, .slice a2 n2 c2, .int .i64 id, .int .i64 fair] 81))
  have HQ := hide (Blk.new w #[.int .i64 L.id, .int .i64 L.st, .int .i64 L.be, .int .i64 L.out, .int .i64 L.rt, .int .i64 L.gr, .int .i64 L.due, .int .i64 L.inc, .int .i64 L.got, .int .i64 L.adj, .int .i64 L.wri, .int .i64 L.rcv, .slice a n c, .slice a2 n2 c2, .int .i64 id, .int .i64 fair] 81)
  have HR := hide (hR.alloc (.cells #[.int .i64 L.id, .int .i64 L.st, .int .i64 L.be, .int .i64 L.out, .int .i64 L.rt, .int .i64 L.gr, .int .i64 L.due, .int .i64 L.inc, .int .i64 L.got, .int .i64 L.adj, .int .i64 L.wri, .int .i64 L.rcv, .slice a n c, .slice a2 n2 c2, .int .i64 id, .int .i64 fair] 81))
  have HF := hide (hF.alloc (.cells #[.int .i64 L.id, .int .i64 L.st, .int .i64 L.be, .int .i64 L.out, .int .i64 L.rt, .int .i64 L.gr, .int .i64 L.due, .int .i64 L.inc, .int .i64 L.got, .int .i64 L.adj, .int .i64 L.wri, .int .i64 L.rcv, .slice a n c, .slice a2 n2 c2, .int .i64 id, .int .i64 fair] 81))
  have HA := hide (aliveR (w.alloc (.cells #[.int .i64 L.id, .int .i64 L.st, .int .i64 L.be, .int .i64 L.out, .int .i64 L.rt, .int .i64 L.gr, .int .i64 L.due, .int .i64 L.inc, .int .i64 L.got, .int .i64 L.adj, .int .i64 L.wri, .int .i64 L.rcv, .slice a n c, .slice a2 n2 c2, .int .i64 id, .int .i64 fair] 81)))
  have HG := hide (fun W => great_any L a a2 n c n2 c2 id fair _ rfl W)
  go_enter (Tri.at (by decide) Try.func12), Try.ntmps12
  go_wp2_with fail
  refine (unhide HA).mono ?_
  rintro z w1 ⟨rfl, hb⟩
  replace HB := hide (below_via (unhide HB) hb)
  replace HQ := hide ((show Blk _ _ _ _ from unhide HQ).keep hb)
  replace HR := hide ((unhide HR).below hb (Nat.le_refl _))
  replace HF := hide ((unhide HF).below hb (Nat.le_refl _))
  clear hb HA
  go_wp2_with (refine load_blk rfl 81 _ rfl (show Blk _ _ _ _ from unhide HQ) rfl row81 size81 rfl ?_)
  refine (unhide HG _).mono ?_
  rintro z w2 ⟨rfl, hb⟩
  replace HB := hide (below_via (unhide HB) hb)
  replace HQ := hide ((show Blk _ _ _ _ from unhide HQ).keep hb)
  replace HR := hide ((unhide HR).below hb (Nat.le_refl _))
  replace HF := hide ((unhide HF).below hb (Nat.le_refl _))
  clear hb HG
  rw [hg]
  clear hg
  have HT := hide (to_any (L := L) (unhide HR) hS (by omega))
  clear hS
  have HS2 := hide hS2
  clear hS2
  have q0 := (show Blk _ _ _ _ from unhide HQ).at 0 (.int .i64 L.id) rfl
  have q1 := (show Blk _ _ _ _ from unhide HQ).at 1 (.int .i64 L.st) rfl
  have q2 := (show Blk _ _ _ _ from unhide HQ).at 2 (.int .i64 L.be) rfl
  have q3 := (show Blk _ _ _ _ from unhide HQ).at 3 (.int .i64 L.out) rfl
  have q4 := (show Blk _ _ _ _ from unhide HQ).at 4 (.int .i64 L.rt) rfl
  have q5 := (show Blk _ _ _ _ from unhide HQ).at 5 (.int .i64 L.gr) rfl
  have q6 := (show Blk _ _ _ _ from unhide HQ).at 6 (.int .i64 L.due) rfl
  have q7 := (show Blk _ _ _ _ from unhide HQ).at 7 (.int .i64 L.inc) rfl
  have q8 := (show Blk _ _ _ _ from unhide HQ).at 8 (.int .i64 L.got) rfl
  have q9 := (show Blk _ _ _ _ from unhide HQ).at 9 (.int .i64 L.adj) rfl
  have q10 := (show Blk _ _ _ _ from unhide HQ).at 10 (.int .i64 L.wri) rfl
  have q11 := (show Blk _ _ _ _ from unhide HQ).at 11 (.int .i64 L.rcv) rfl
  have q12 := (show Blk _ _ _ _ from unhide HQ).at 12 (.slice a n c) rfl
  go_wp2_with fail
  refine (unhide HT).mono ?_
  rintro z w3 ⟨a3, c3, rfl, hr, hs, hf, hb⟩
  replace HB := hide (below_via (unhide HB) hb)
  replace HQ := hide ((show Blk _ _ _ _ from unhide HQ).keep hb)
  replace HF := hide ((unhide HF).below hb (Nat.le_refl _))
  clear q0 q1 q2 q3 q4 q5 q6 q7 q8 q9 q10 q11 q12 HT HR
  have HL := hide (Blk.new w3 (lnA L (.slice a3 l.length c3)) 53)
  have HRl := hide (hr.alloc (.cells (lnA L (.slice a3 l.length c3)) 53))
  replace HF := hide ((unhide HF).alloc (.cells (lnA L (.slice a3 l.length c3)) 53))
  replace HQ := hide ((show Blk _ _ _ _ from unhide HQ).alloc (.cells (lnA L (.slice a3 l.length c3)) 53))
  replace HB := hide (below_via (unhide HB) (below1L w3 (.cells (lnA L (.slice a3 l.length c3)) 53)))
  clear hb hr hs hf
  generalize hU : w3.alloc (.cells (lnA L (.slice a3 l.length c3)) 53) = U3 at HL HRl HF HQ HB
  have HP := hide (replace_any (L := L) (l := l) (fl := fl) (id := id) (fair := fair) (unhide HRl) hf (unhide HF) (unhide HS2) (by omega))
  clear hl hl2 hf HS2
  have q13 := (show Blk _ _ _ _ from unhide HQ).at 13 (.slice a2 n2 c2) rfl
  have q14 := (show Blk _ _ _ _ from unhide HQ).at 14 (.int .i64 id) rfl
  have q15 := (show Blk _ _ _ _ from unhide HQ).at 15 (.int .i64 fair) rfl
  go_wp2_with (refine load_blk rfl 53 _ rfl (show Blk _ _ _ _ from unhide HL) rfl row53 size53 rfl ?_)
  clear hU
  refine (unhide HP).mono ?_
  rintro z w4 ⟨K, M, l3, l4, m, e, hrp, a4, c4, a5, c5, rfl, hr3, hs3, hr4, hs4, hb⟩
  replace HB := hide (below_via (unhide HB) hb)
  replace HQ := hide ((show Blk _ _ _ _ from unhide HQ).keep hb)
  replace HL := hide ((show Blk _ _ _ _ from unhide HL).keep hb)
  have HR3 := hide hr3
  have HR4 := hide hr4
  clear hb HP q13 q14 q15 HF HRl hr3 hr4 hs3 hs4
  have hb := below_via (below1L w4 (.cells (lnA K (.slice a4 l3.length c4)) 53)) (below1L (w4.alloc (.cells (lnA K (.slice a4 l3.length c4)) 53)) (.cells (lnA M (.slice a5 l4.length c5)) 53))
  replace HB := hide (below_via (unhide HB) hb)
  replace HQ := hide ((show Blk _ _ _ _ from unhide HQ).keep hb)
  replace HL := hide ((show Blk _ _ _ _ from unhide HL).keep hb)
  replace HR3 := hide ((unhide HR3).below hb (Nat.le_refl _))
  replace HR4 := hide ((unhide HR4).below hb (Nat.le_refl _))
  clear hb
  have HO : Hid (Blk ((w4.alloc (.cells (lnA K (.slice a4 l3.length c4)) 53)).alloc (.cells (lnA M (.slice a5 l4.length c5)) 53)) w4.heap.size (lnA K (.slice a4 l3.length c4)) 53) := hide ((Blk.new w4 _ _).alloc _)
  have HM : Hid (Blk ((w4.alloc (.cells (lnA K (.slice a4 l3.length c4)) 53)).alloc (.cells (lnA M (.slice a5 l4.length c5)) 53)) (w4.heap.size + 1) (lnA M (.slice a5 l4.length c5)) 53) := hide (by have h := Blk.new (w4.alloc (.cells (lnA K (.slice a4 l3.length c4)) 53)) (lnA M (.slice a5 l4.length c5)) 53; simpa using h)
  generalize hU : (w4.alloc (.cells (lnA K (.slice a4 l3.length c4)) 53)).alloc (.cells (lnA M (.slice a5 l4.length c5)) 53) = U4 at HB HQ HL HR3 HR4 HO HM
  rcases hrp with ⟨he, hK, hM, h3, h4, rfl⟩ | ⟨rfl, h1, h2, h3, r, h4, h5, h6, h7, h8, h9⟩
  · have d1 : (e != 0) = true := by simpa using he
    have k1 := (show Blk _ _ _ _ from unhide HO).at 1 (.int .i64 K.st) rfl
    have k2 := (show Blk _ _ _ _ from unhide HM).at 1 (.int .i64 M.st) rfl
    have d2 : (K.st == 0) = true := by rw [hK]; rfl
    have d3 : (M.st == 0) = true := by rw [hM]; rfl
    clear he hK hM h3 h4
    generalize l3.length = n3 at *
    generalize l4.length = n4 at *
    go_wp2_with fail
    clear hU
    go_ret
    exact ⟨rfl, unhide HB⟩
  · obtain ⟨b1, b2, b3, b4, _⟩ := rt_bd h1
    obtain ⟨f1, f2⟩ := new_fair h4
    have HI1 : Hid (∀ W, Row W (.slice a4 l3.length c4) l3 → Calls (Tri Try.prog) 31 #[.agg (lnA K (.slice a4 l3.length c4))] W fun z w2 => z = .returned (.bool true) ∧ Below W.heap.size W w2) := hide (fun W h => by
      have k := right_any K a4 l3.length c4 l3 W h
      unfold Tells at k
      rw [h5, h7, h3] at k
      rw [h5, h7]
      exact k)
    have HI2 : Hid (∀ W, Row W (.slice a5 l4.length c5) l4 → Calls (Tri Try.prog) 31 #[.agg (lnA M (.slice a5 l4.length c5))] W fun z w2 => z = .returned (.bool true) ∧ Below W.heap.size W w2) := hide (fun W h => by
      have k := right_any M a5 l4.length c5 l4 W h
      unfold Tells at k
      rw [h6, h8, new_right h4] at k
      rw [h6, h8]
      exact k)
    have HPy : Hid (∀ W, Row W (.slice a4 l3.length c4) l3 → Calls (Tri Try.prog) 44 #[.agg (lnA K (.slice a4 l3.length c4)), .int .i64 1] W fun z w2 => z = .returned (.tuple #[.agg lnZ, .agg #[.int .i64 0, .int .i64 0, .int .i64 0, .int .i64 0], .int .i64 12]) ∧ Below W.heap.size W w2) := hide (fun W h => pay_gone h (by rw [h5, h7]; exact h3) (by rw [h5]; rfl))
    have d1 : (K.st != 4) = false := by rw [h5]; rfl
    have d2 : (K.gr != 0) = false := by rw [h5]; rfl
    have d3 : (M.st != 1) = false := by rw [h6]; rfl
    have d4 : (M.gr != fair) = false := by rw [h6]; simp [newK]
    have d5 : (M.id != id) = false := by rw [h6]; simp [newK]
    have g1 : K.gr = 0 := by rw [h5]; rfl
    have g2 : M.gr = fair := by rw [h6]; rfl
    have x1 : (K.gr + M.gr == L.gr + m) = true := by rw [g1, g2, h9, beq_iff_eq]; omega
    have y1 : IntKind.i64.wrap (K.gr + M.gr) = K.gr + M.gr := wrap_n (by omega) (by omega)
    have y2 : IntKind.i64.wrap (L.gr + m) = L.gr + m := wrap_n (by omega) (by omega)
    have y3 : IntKind.i64.wrap (L.adj - L.gr) = L.adj - L.gr := wrap_n (by omega) (by omega)
    have x2 : (K.adj == L.adj - L.gr) = true := by rw [h5, beq_iff_eq]; simp only [goneK, adjK]; omega
    have x3 : (K.inc == L.inc) = true := by rw [h5]; simp [goneK, adjK]
    have x4 : (K.got == L.got) = true := by rw [h5]; simp [goneK, adjK]
    clear h1 h2 h3 h4 h5 h6 h7 h8
    generalize hn3 : l3.length = n3 at *
    generalize hn4 : l4.length = n4 at *
    clear hn3 hn4
    replace g1 := hide g1
    replace g2 := hide g2
    replace h9 := hide h9
    go_wp2_with (first | refine load_blk rfl 53 _ rfl (show Blk _ _ _ _ from unhide HO) rfl row53 size53 rfl ?_ | refine load_blk rfl 53 _ rfl (show Blk _ _ _ _ from unhide HM) rfl row53 size53 rfl ?_)
    clear hU
    refine (unhide HI1 _ (unhide HR3)).mono ?_
    rintro z w5 ⟨rfl, hb⟩
    replace HB := hide (below_via (unhide HB) hb)
    replace HQ := hide ((show Blk _ _ _ _ from unhide HQ).keep hb)
    replace HL := hide ((show Blk _ _ _ _ from unhide HL).keep hb)
    replace HO := hide ((show Blk _ _ _ _ from unhide HO).keep hb)
    replace HM := hide ((show Blk _ _ _ _ from unhide HM).keep hb)
    replace HR3 := hide ((unhide HR3).below hb (Nat.le_refl _))
    replace HR4 := hide ((unhide HR4).below hb (Nat.le_refl _))
    clear hb
    have z0 := (show Blk _ _ _ _ from unhide HM).at 0 (.int .i64 M.id) rfl
    have z1 := (show Blk _ _ _ _ from unhide HM).at 1 (.int .i64 M.st) rfl
    have z2 := (show Blk _ _ _ _ from unhide HM).at 2 (.int .i64 M.be) rfl
    have z3 := (show Blk _ _ _ _ from unhide HM).at 3 (.int .i64 M.out) rfl
    have z4 := (show Blk _ _ _ _ from unhide HM).at 4 (.int .i64 M.rt) rfl
    have z5 := (show Blk _ _ _ _ from unhide HM).at 5 (.int .i64 M.gr) rfl
    have z6 := (show Blk _ _ _ _ from unhide HM).at 6 (.int .i64 M.due) rfl
    have z7 := (show Blk _ _ _ _ from unhide HM).at 7 (.int .i64 M.inc) rfl
    have z8 := (show Blk _ _ _ _ from unhide HM).at 8 (.int .i64 M.got) rfl
    have z9 := (show Blk _ _ _ _ from unhide HM).at 9 (.int .i64 M.adj) rfl
    have z10 := (show Blk _ _ _ _ from unhide HM).at 10 (.int .i64 M.wri) rfl
    have z11 := (show Blk _ _ _ _ from unhide HM).at 11 (.int .i64 M.rcv) rfl
    have z12 := (show Blk _ _ _ _ from unhide HM).at 12 (.slice a5 n4 c5) rfl
    go_wp2_with fail
    clear z0 z1 z2 z3 z4 z5 z6 z7 z8 z9 z10 z11 z12
    refine (unhide HI2 _ (unhide HR4)).mono ?_
    rintro z w6 ⟨rfl, hb⟩
    replace HB := hide (below_via (unhide HB) hb)
    replace HQ := hide ((show Blk _ _ _ _ from unhide HQ).keep hb)
    replace HL := hide ((show Blk _ _ _ _ from unhide HL).keep hb)
    replace HO := hide ((show Blk _ _ _ _ from unhide HO).keep hb)
    replace HM := hide ((show Blk _ _ _ _ from unhide HM).keep hb)
    replace HR3 := hide ((unhide HR3).below hb (Nat.le_refl _))
    replace HR4 := hide ((unhide HR4).below hb (Nat.le_refl _))
    clear hb
    have k0 := (show Blk _ _ _ _ from unhide HO).at 1 (.int .i64 K.st) rfl
    have k1 := (show Blk _ _ _ _ from unhide HO).at 5 (.int .i64 K.gr) rfl
    have k2 := (show Blk _ _ _ _ from unhide HM).at 1 (.int .i64 M.st) rfl
    have k3 := (show Blk _ _ _ _ from unhide HM).at 5 (.int .i64 M.gr) rfl
    have k4 := (show Blk _ _ _ _ from unhide HM).at 0 (.int .i64 M.id) rfl
    have q14 := (show Blk _ _ _ _ from unhide HQ).at 14 (.int .i64 id) rfl
    have q15 := (show Blk _ _ _ _ from unhide HQ).at 15 (.int .i64 fair) rfl
    go_wp2_with (first | refine load_blk rfl 53 _ rfl (show Blk _ _ _ _ from unhide HO) rfl row53 size53 rfl ?_ | refine load_blk rfl 53 _ rfl (show Blk _ _ _ _ from unhide HM) rfl row53 size53 rfl ?_)
    clear k0 k1 k2 k3 k4 q14 q15
    refine (unhide HPy _ (unhide HR3)).mono ?_
    rintro z w7 ⟨rfl, hb⟩
    replace hb := below_via hb (below_via (below1L _ (.cells lnZ 53)) (below1L _ (.cells #[.int .i64 0, .int .i64 0, .int .i64 0, .int .i64 0] 65)))
    replace HB := hide (below_via (unhide HB) hb)
    replace HQ := hide ((show Blk _ _ _ _ from unhide HQ).keep hb)
    replace HL := hide ((show Blk _ _ _ _ from unhide HL).keep hb)
    replace HO := hide ((show Blk _ _ _ _ from unhide HO).keep hb)
    replace HM := hide ((show Blk _ _ _ _ from unhide HM).keep hb)
    replace HR3 := hide ((unhide HR3).below hb (Nat.le_refl _))
    replace HR4 := hide ((unhide HR4).below hb (Nat.le_refl _))
    clear hb
    have k1 := (show Blk _ _ _ _ from unhide HO).at 5 (.int .i64 K.gr) rfl
    have k2 := (show Blk _ _ _ _ from unhide HO).at 9 (.int .i64 K.adj) rfl
    have k3 := (show Blk _ _ _ _ from unhide HO).at 7 (.int .i64 K.inc) rfl
    have k4 := (show Blk _ _ _ _ from unhide HO).at 8 (.int .i64 K.got) rfl
    have m1 := (show Blk _ _ _ _ from unhide HM).at 5 (.int .i64 M.gr) rfl
    have r1 := (show Blk _ _ _ _ from unhide HL).at 5 (.int .i64 L.gr) rfl
    have r2 := (show Blk _ _ _ _ from unhide HL).at 9 (.int .i64 L.adj) rfl
    have r3 := (show Blk _ _ _ _ from unhide HL).at 7 (.int .i64 L.inc) rfl
    have r4 := (show Blk _ _ _ _ from unhide HL).at 8 (.int .i64 L.got) rfl
    go_wp2_with fail
    go_ret
    exact ⟨rfl, unhide HB⟩
theorem repl_any {L : Ln} {a a2 : Option Addr} {n c n2 c2 : Nat} {id fair : Int} {l fl : List Int} {w : World} (hf : In64 fair) (hR : Row w (.slice a n c) l) (hS : Sl a n c) (hF : Row w (.slice a2 n2 c2) fl) (hS2 : Sl a2 n2 c2) : ReplL w L a a2 n c n2 c2 id fair := by
  have e1 : n = l.length := by obtain ⟨x, y, e⟩ := row_slice hR; injection e
  have e2 : n2 = fl.length := by obtain ⟨x, y, e⟩ := row_slice hF; injection e
  by_cases hg : (decide (700 < n) || decide (60 < n2)) = true
  · exact repl_great hR hF hg
  · have hg := Bool.eq_false_iff.2 hg
    have h1 : ¬ 700 < n := fun h => by rw [decide_eq_true h] at hg; cases hg
    have h2 : ¬ 60 < n2 := fun h => by rw [decide_eq_true h, Bool.or_true] at hg; cases hg
    exact repl_any0 hR hS hF hS2 (by omega) (by omega) hg hf
end Go.Proofs.Ytpeoabopeihadaa.Mn
