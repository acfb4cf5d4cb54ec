/- Whole structs loaded and stored. -/
import Derived.Test.YtpeoabopeihadaaYL
import Derived.Deep.MidRow
set_option linter.unusedVariables false
set_option linter.unusedSimpArgs false
set_option linter.unusedSectionVars false
namespace Go.Proofs.Ytpeoabopeihadaa.Mn
open Go.RowKit
attribute [local simp] Tri.typeInfo Tri.sizeOf Tri.underlying Tri.runUnderlying Tri.isAgg Tri.zeroValue Tri.depth Tri.stoodInHeld Tri.eqGuardType Tri.call15 Tri.call27 Tri.call31 Tri.call32 Tri.call38 Tri.call39 Tri.call40 Tri.call41 Tri.call43 Tri.call44 Tri.call45 Tri.call46 Tri.call49 Tri.call52 Tri.call54 Tri.call65 Tri.call69 Tri.call70 Tri.call72 Tri.call73 Tri.call74 Tri.call75 Tri.call82 Tri.call86 Tri.call89 Tri.call90 Tri.call91 Tri.call92 Tri.call93 Tri.call94 Tri.call95 Tri.call96 Tri.call97 Tri.call98 Tri.call99 Tri.call100 Tri.call102 Tri.call103 Tri.call104 Tri.call106 Tri.call116 Tri.call117 Tri.call118 Tri.call119 Tri.call120 Tri.call122 Tri.call126 Tri.call130 Tri.call131 Tri.call132 Tri.call143 Tri.call144 Tri.call145 Tri.call146 Tri.call147 Tri.call156 Tri.call157 Tri.call159 Tri.call160 Tri.call161 Tri.call162 Tri.call163 Tri.call164 Tri.call165 Tri.call175 Tri.call176 Tri.call186 Tri.call188 Tri.call205
structure Past (w W : World) (b : Nat) : Prop where
  blk : ∀ {b' : Nat} {cs : Array Value} {T : TypeId}, b' ≠ b → Blk w b' cs T → Blk W b' cs T
  bel : ∀ {B : Nat} {w0 : World}, B ≤ b → Below B w0 w → Below B w0 W
  row : ∀ {a : Option Addr} {n c : Nat} {l : List Int}, (∀ x, a = some x → x.block ≠ b) → Row w (.slice a n c) l → Row W (.slice a n c) l
theorem past_setCells {b : Nat} : ∀ (vs : List Value) (k : Nat) (w : World), Past w (w.setCells b k vs) b
  | [], _, w => ⟨fun _ h => h, fun _ h => h, fun _ h => h⟩
  | v :: vs, k, w =>
    have h := past_setCells (b := b) vs (k + 1) (w.setCell ⟨b, k, none⟩ v)
    ⟨fun hb hB => h.blk hb (hB.other hb k v), fun hb hB => h.bel hb (hB.setCell (p := ⟨b, k, none⟩) hb v), fun hb hR => h.row hb (hR.off (i := k) (v := v) hb)⟩
theorem blk_setCells {b : Nat} {T : TypeId} : ∀ (vs : List Value) (k : Nat) {w : World} {cs : Array Value}, Blk w b cs T → Blk (w.setCells b k vs) b (setsN cs k vs) T
  | [], _, _, _, h => h
  | v :: vs, k, _, _, h => blk_setCells vs (k + 1) (h.set k v)
theorem sets_get : ∀ (vs : List Value) (k : Nat) (cs : Array Value) (j : Nat), k + vs.length ≤ cs.size → (setsN cs k vs)[j]? = if k ≤ j ∧ j < k + vs.length then vs[j - k]? else cs[j]?
  | [], k, cs, j, _ => by rw [setsN, if_neg (by simp <;> omega)]
  | v :: vs, k, cs, j, h => by
    simp only [List.length_cons] at h
    rw [setsN, sets_get vs (k + 1) _ j (by simp; omega)]
    by_cases h1 : k + 1 ≤ j ∧ j < k + 1 + vs.length
    · rw [if_pos h1, if_pos ⟨by omega, by simp; omega⟩, show j - k = (j - (k + 1)) + 1 by omega]
      rfl
    · rw [if_neg h1]
      by_cases h2 : j = k
      · subst h2
        rw [if_pos ⟨by omega, by simp⟩, Nat.sub_self, Array.getElem?_setIfInBounds]
        simp
        omega
      · rw [if_neg (by simp; omega), Array.getElem?_setIfInBounds, if_neg (fun e => h2 e.symm)]
theorem sets_all {cs vs : Array Value} (h : cs.size = vs.size) : setsN cs 0 vs.toList = vs := by
  apply Array.ext_getElem?
  intro j
  rw [sets_get _ 0 cs j (by simp; omega)]
  by_cases h1 : j < vs.size
  · rw [if_pos ⟨Nat.zero_le _, by simpa using h1⟩]; simp
  · rw [if_neg (by simp; omega), Array.getElem?_eq_none (by omega), Array.getElem?_eq_none (by omega)]
theorem Blk.there {w : World} {b : Nat} {cs : Array Value} {T : TypeId} (h : Blk w b cs T) {n : Nat} (hn : cs.size = n) : w.there b 0 n := fun j hj => by
  rw [Nat.zero_add, cell_of_row w b j _ _ _ h, Array.getElem?_eq_getElem (by omega)]
  exact ⟨rfl, h.fz j⟩
theorem Blk.range {w : World} {b : Nat} {cs : Array Value} {T : TypeId} (h : Blk w b cs T) : w.rangeAt b 0 cs.toList := fun j v hv => by
  rw [Nat.zero_add, cell_of_row w b j _ _ _ h]
  simpa using hv
def isRowB (P : Program) (ty : TypeId) : Bool := match P.underlying ty with | some d => d.isRow | none => false
theorem store_blk {ops : Array Oper} {rest : List Oper} {op : Oper} {a : Act} {w : World} {Q : Exit → Act → World → Prop} (hgd : op.guard = none) (ty : TypeId) (x y : Operand) (ho : op.op = .store ty x y) {b : Nat} {T : TypeId} {old cells : Array Value} (hB : Blk w b old T) (hx : a.eval x = .pointer (some ⟨b, 0, none⟩)) (hy : a.eval y = .agg cells) {n : Nat} (hi : ((Tri Try.prog).info? ty).map (·.size) = some n) (ho' : old.size = n) (hn : cells.size = n) (h1 : cells.toList.all (·.oneCell') = true)
    (h : ∀ W, Blk W b cells T → Past w W b → wpList (Tri Try.prog) ops Q rest (a.put op.dst undef) W) : wpList (Tri Try.prog) ops Q (op :: rest) a w :=
  wpList_store_mid hgd ty x y ho b 0 cells hx hy (hB.there (ho'.trans hn.symm)) (hi.trans (by rw [hn])) (all_oneCell_toArray (cs := cells.toList) (fun v hv => List.all_eq_true.1 h1 v hv)) (h _ (by have k := blk_setCells cells.toList 0 hB; rw [sets_all (ho'.trans hn.symm)] at k; exact k) (past_setCells _ _ _))
theorem storeO_blk {op : Oper} {a : Act} {w : World} {K : Act → World → Prop} {Q : Exit → Act → World → Prop} (ty : TypeId) (x y : Operand) (ho : op.op = .store ty x y) {b : Nat} {T : TypeId} {old cells : Array Value} (hB : Blk w b old T) (hx : a.eval x = .pointer (some ⟨b, 0, none⟩)) (hy : a.eval y = .agg cells) {n : Nat} (hi : ((Tri Try.prog).info? ty).map (·.size) = some n) (ho' : old.size = n) (hn : cells.size = n) (h1 : cells.toList.all (·.oneCell') = true)
    (h : ∀ W, Blk W b cells T → Past w W b → K (a.put op.dst undef) W) : op.wp (Tri Try.prog) a w K Q :=
  wp_store_mid ty x y ho b 0 cells hx hy (hB.there (ho'.trans hn.symm)) (hi.trans (by rw [hn])) (all_oneCell_toArray (cs := cells.toList) (fun v hv => List.all_eq_true.1 h1 v hv)) (h _ (by have k := blk_setCells cells.toList 0 hB; rw [sets_all (ho'.trans hn.symm)] at k; exact k) (past_setCells _ _ _))
theorem load_blk {ops : Array Oper} {rest : List Oper} {op : Oper} {a : Act} {w : World} {Q : Exit → Act → World → Prop} (hgd : op.guard = none) (ty : TypeId) (x : Operand) (ho : op.op = .load ty x) {b : Nat} {T : TypeId} {cells : Array Value} (hB : Blk w b cells T) (hx : a.eval x = .pointer (some ⟨b, 0, none⟩)) (hr : isRowB (Tri Try.prog) ty = true) {n : Nat} (hi : ((Tri Try.prog).info? ty).map (·.size) = some n) (hn : cells.size = n)
    (h : wpList (Tri Try.prog) ops Q rest (a.put op.dst (.agg cells)) w) : wpList (Tri Try.prog) ops Q (op :: rest) a w := by
  unfold isRowB at hr
  split at hr
  · next d hu => exact wpList_load_mid hgd ty x ho b 0 hx cells.toList d hB.range hu hr (by rw [hi, ← hn]; simp) h
  · cases hr
theorem row53 : isRowB (Tri Try.prog) 53 = true := by kernel_rfl
theorem row131 : isRowB (Tri Try.prog) 131 = true := by kernel_rfl
theorem size53 : ((Tri Try.prog).info? 53).map (·.size) = some 13 := by kernel_rfl
theorem size131 : ((Tri Try.prog).info? 131).map (·.size) = some 27 := by kernel_rfl
theorem load_var {W : World} {b n : Nat} {ty T : TypeId} {cs : Array Value} (hB : Blk W b cs T) (hr : isRowB (Tri Try.prog) ty = true) (hi : ((Tri Try.prog).info? ty).map (·.size) = some n) (hn : cs.size = n) : (loadVar ty ⟨b, 0, none⟩).run (Tri Try.prog) W = .ok (.agg cs) W := by
  unfold isRowB at hr
  split at hr
  · next d hu => exact run_loadVar_mid W b 0 ty cs.toList d hB.range hu hr (by rw [hi, ← hn]; simp)
  · cases hr
theorem res_ct {fn : Func} {tmps : Array Value} {W : World} {s0 b0 n0 : Nat} {ty0 T0 : TypeId} {cs0 : Array Value} (hs0 : tmps.getD s0 undef = .pointer (some ⟨b0, 0, none⟩)) (hB0 : Blk W b0 cs0 T0) (hr0 : isRowB (Tri Try.prog) ty0 = true) (hi0 : ((Tri Try.prog).info? ty0).map (·.size) = some n0) (hn0 : cs0.size = n0) {t1 : Nat} {v1 : Value} (hv1 : tmps.getD t1 undef = v1) (hf : fn.results = #[.cell s0 ty0, .tmp t1]) : (results fn tmps).run (Tri Try.prog) W = .ok (.tuple #[.agg cs0, v1]) W := by
  have gs0 : tmps[s0]?.getD undef = .pointer (some ⟨b0, 0, none⟩) := by simpa using hs0
  have gl0 := load_var hB0 hr0 hi0 hn0
  have gv1 : tmps[t1]?.getD undef = v1 := by simpa using hv1
  unfold results
  rw [hf]
  simp [Sem.run_bind, Sem.run_pure, Result.andThen_ok, asAddr, gs0, gl0, gv1]
theorem res_cctt {fn : Func} {tmps : Array Value} {W : World} {s0 b0 n0 : Nat} {ty0 T0 : TypeId} {cs0 : Array Value} (hs0 : tmps.getD s0 undef = .pointer (some ⟨b0, 0, none⟩)) (hB0 : Blk W b0 cs0 T0) (hr0 : isRowB (Tri Try.prog) ty0 = true) (hi0 : ((Tri Try.prog).info? ty0).map (·.size) = some n0) (hn0 : cs0.size = n0) {s1 b1 n1 : Nat} {ty1 T1 : TypeId} {cs1 : Array Value} (hs1 : tmps.getD s1 undef = .pointer (some ⟨b1, 0, none⟩)) (hB1 : Blk W b1 cs1 T1) (hr1 : isRowB (Tri Try.prog) ty1 = true) (hi1 : ((Tri Try.prog).info? ty1).map (·.size) = some n1) (hn1 : cs1.size = n1) {t2 : Nat} {v2 : Value} (hv2 : tmps.getD t2 undef = v2) {t3 : Nat} {v3 : Value} (hv3 : tmps.getD t3 undef = v3) (hf : fn.results = #[.cell s0 ty0, .cell s1 ty1, .tmp t2, .tmp t3]) : (results fn tmps).run (Tri Try.prog) W = .ok (.tuple #[.agg cs0, .agg cs1, v2, v3]) W := by
  have gs0 : tmps[s0]?.getD undef = .pointer (some ⟨b0, 0, none⟩) := by simpa using hs0
  have gl0 := load_var hB0 hr0 hi0 hn0
  have gs1 : tmps[s1]?.getD undef = .pointer (some ⟨b1, 0, none⟩) := by simpa using hs1
  have gl1 := load_var hB1 hr1 hi1 hn1
  have gv2 : tmps[t2]?.getD undef = v2 := by simpa using hv2
  have gv3 : tmps[t3]?.getD undef = v3 := by simpa using hv3
  unfold results
  rw [hf]
  simp [Sem.run_bind, Sem.run_pure, Result.andThen_ok, asAddr, gs0, gl0, gs1, gl1, gv2, gv3]
theorem rp_st {L : Ln} {a : Option Addr} {n c cb : Nat} {cf : Array Value} {w : World} (hF : Blk w cb cf 115) : Hid (Below w.heap.size w (((w.alloc (.cells (lnA L (.slice a n c)) 53)).alloc (.cells #[.int .i64 0, .int .i64 0, .int .i64 0, .int .i64 0, .int .i64 0, .int .i64 0, .int .i64 0, .int .i64 0, .int .i64 0, .int .i64 0, .int .i64 0, .int .i64 0, .slice none 0 0, .int .i64 0, .int .i64 0, .int .i64 0, .int .i64 0, .int .i64 0, .int .i64 0, .int .i64 0, .int .i64 0, .int .i64 0, .int .i64 0, .int .i64 0, .int .i64 0, .slice none 0 0, .int .i64 0] 131)).alloc (.cells #[.int .i64 0, .int .i64 0, .int .i64 0, .int .i64 0, .int .i64 0, .int .i64 0, .int .i64 0, .int .i64 0, .int .i64 0, .int .i64 0, .int .i64 0, .int .i64 0, .slice none 0 0, .int .i64 0, .int .i64 0, .int .i64 0, .int .i64 0, .int .i64 0, .int .i64 0, .int .i64 0, .int .i64 0, .int .i64 0, .int .i64 0, .int .i64 0, .int .i64 0, .slice none 0 0, .int .i64 0] 131))) ∧ Hid (Blk (((w.alloc (.cells (lnA L (.slice a n c)) 53)).alloc (.cells #[.int .i64 0, .int .i64 0, .int .i64 0, .int .i64 0, .int .i64 0, .int .i64 0, .int .i64 0, .int .i64 0, .int .i64 0, .int .i64 0, .int .i64 0, .int .i64 0, .slice none 0 0, .int .i64 0, .int .i64 0, .int .i64 0, .int .i64 0, .int .i64 0, .int .i64 0, .int .i64 0, .int .i64 0, .int .i64 0, .int .i64 0, .int .i64 0, .int .i64 0, .slice none 0 0, .int .i64 0] 131)).alloc (.cells #[.int .i64 0, .int .i64 0, .int .i64 0, .int .i64 0, .int .i64 0, .int .i64 0, .int .i64 0, .int .i64 0, .int .i64 0, .int .i64 0, .int .i64 0, .int .i64 0, .slice none 0 0, .int .i64 0, .int .i64 0, .int .i64 0, .int .i64 0, .int .i64 0, .int .i64 0, .int .i64 0, .int .i64 0, .int .i64 0, .int .i64 0, .int .i64 0, .int .i64 0, .slice none 0 0, .int .i64 0] 131)) w.heap.size (lnA L (.slice a n c)) 53) ∧ Hid (Blk (((w.alloc (.cells (lnA L (.slice a n c)) 53)).alloc (.cells #[.int .i64 0, .int .i64 0, .int .i64 0, .int .i64 0, .int .i64 0, .int .i64 0, .int .i64 0, .int .i64 0, .int .i64 0, .int .i64 0, .int .i64 0, .int .i64 0, .slice none 0 0, .int .i64 0, .int .i64 0, .int .i64 0, .int .i64 0, .int .i64 0, .int .i64 0, .int .i64 0, .int .i64 0, .int .i64 0, .int .i64 0, .int .i64 0, .int .i64 0, .slice none 0 0, .int .i64 0] 131)).alloc (.cells #[.int .i64 0, .int .i64 0, .int .i64 0, .int .i64 0, .int .i64 0, .int .i64 0, .int .i64 0, .int .i64 0, .int .i64 0, .int .i64 0, .int .i64 0, .int .i64 0, .slice none 0 0, .int .i64 0, .int .i64 0, .int .i64 0, .int .i64 0, .int .i64 0, .int .i64 0, .int .i64 0, .int .i64 0, .int .i64 0, .int .i64 0, .int .i64 0, .int .i64 0, .slice none 0 0, .int .i64 0] 131)) (w.heap.size + 1) #[.int .i64 0, .int .i64 0, .int .i64 0, .int .i64 0, .int .i64 0, .int .i64 0, .int .i64 0, .int .i64 0, .int .i64 0, .int .i64 0, .int .i64 0, .int .i64 0, .slice none 0 0, .int .i64 0, .int .i64 0, .int .i64 0, .int .i64 0, .int .i64 0, .int .i64 0, .int .i64 0, .int .i64 0, .int .i64 0, .int .i64 0, .int .i64 0, .int .i64 0, .slice none 0 0, .int .i64 0] 131) ∧ Hid (Blk (((w.alloc (.cells (lnA L (.slice a n c)) 53)).alloc (.cells #[.int .i64 0, .int .i64 0, .int .i64 0, .int .i64 0, .int .i64 0, .int .i64 0, .int .i64 0, .int .i64 0, .int .i64 0, .int .i64 0, .int .i64 0, .int .i64 0, .slice none 0 0, .int .i64 0, .int .i64 0, .int .i64 0, .int .i64 0, .int .i64 0, .int .i64 0, .int .i64 0, .int .i64 0, .int .i64 0, .int .i64 0, .int .i64 0, .int .i64 0, .slice none 0 0, .int .i64 0] 131)).alloc (.cells #[.int .i64 0, .int .i64 0, .int .i64 0, .int .i64 0, .int .i64 0, .int .i64 0, .int .i64 0, .int .i64 0, .int .i64 0, .int .i64 0, .int .i64 0, .int .i64 0, .slice none 0 0, .int .i64 0, .int .i64 0, .int .i64 0, .int .i64 0, .int .i64 0, .int .i64 0, .int .i64 0, .int .i64 0, .int .i64 0, .int .i64 0, .int .i64 0, .int .i64 0, .slice none 0 0, .int .i64 0] 131)) (w.heap.size + 1 + 1) #[.int .i64 0, .int .i64 0, .int .i64 0, .int .i64 0, .int .i64 0, .int .i64 0, .int .i64 0, .int .i64 0, .int .i64 0, .int .i64 0, .int .i64 0, .int .i64 0, .slice none 0 0, .int .i64 0, .int .i64 0, .int .i64 0, .int .i64 0, .int .i64 0, .int .i64 0, .int .i64 0, .int .i64 0, .int .i64 0, .int .i64 0, .int .i64 0, .int .i64 0, .slice none 0 0, .int .i64 0] 131) ∧ Hid (Blk (((w.alloc (.cells (lnA L (.slice a n c)) 53)).alloc (.cells #[.int .i64 0, .int .i64 0, .int .i64 0, .int .i64 0, .int .i64 0, .int .i64 0, .int .i64 0, .int .i64 0, .int .i64 0, .int .i64 0, .int .i64 0, .int .i64 0, .slice none 0 0, .int .i64 0, .int .i64 0, .int .i64 0, .int .i64 0, .int .i64 0, .int .i64 0, .int .i64 0, .int .i64 0, .int .i64 0, .int .i64 0, .int .i64 0, .int .i64 0, .slice none 0 0, .int .i64 0] 131)).alloc (.cells #[.int .i64 0, .int .i64 0, .int .i64 0, .int .i64 0, .int .i64 0, .int .i64 0, .int .i64 0, .int .i64 0, .int .i64 0, .int .i64 0, .int .i64 0, .int .i64 0, .slice none 0 0, .int .i64 0, .int .i64 0, .int .i64 0, .int .i64 0, .int .i64 0, .int .i64 0, .int .i64 0, .int .i64 0, .int .i64 0, .int .i64 0, .int .i64 0, .int .i64 0, .slice none 0 0, .int .i64 0] 131)) cb cf 115) := by
  refine ⟨hide (((below1L w _).alloc (by simp) _).alloc (by simp; omega) _), hide (((Blk.new w (lnA L (.slice a n c)) 53).alloc _).alloc _), hide ?_, hide ?_, hide (((hF.alloc _).alloc _).alloc _)⟩
  · have h := (Blk.new (w.alloc (.cells (lnA L (.slice a n c)) 53)) #[.int .i64 0, .int .i64 0, .int .i64 0, .int .i64 0, .int .i64 0, .int .i64 0, .int .i64 0, .int .i64 0, .int .i64 0, .int .i64 0, .int .i64 0, .int .i64 0, .slice none 0 0, .int .i64 0, .int .i64 0, .int .i64 0, .int .i64 0, .int .i64 0, .int .i64 0, .int .i64 0, .int .i64 0, .int .i64 0, .int .i64 0, .int .i64 0, .int .i64 0, .slice none 0 0, .int .i64 0] 131).alloc (.cells #[.int .i64 0, .int .i64 0, .int .i64 0, .int .i64 0, .int .i64 0, .int .i64 0, .int .i64 0, .int .i64 0, .int .i64 0, .int .i64 0, .int .i64 0, .int .i64 0, .slice none 0 0, .int .i64 0, .int .i64 0, .int .i64 0, .int .i64 0, .int .i64 0, .int .i64 0, .int .i64 0, .int .i64 0, .int .i64 0, .int .i64 0, .int .i64 0, .int .i64 0, .slice none 0 0, .int .i64 0] 131)
    simpa using h
  · have h := Blk.new ((w.alloc (.cells (lnA L (.slice a n c)) 53)).alloc (.cells #[.int .i64 0, .int .i64 0, .int .i64 0, .int .i64 0, .int .i64 0, .int .i64 0, .int .i64 0, .int .i64 0, .int .i64 0, .int .i64 0, .int .i64 0, .int .i64 0, .slice none 0 0, .int .i64 0, .int .i64 0, .int .i64 0, .int .i64 0, .int .i64 0, .int .i64 0, .int .i64 0, .int .i64 0, .int .i64 0, .int .i64 0, .int .i64 0, .int .i64 0, .slice none 0 0, .int .i64 0] 131)) #[.int .i64 0, .int .i64 0, .int .i64 0, .int .i64 0, .int .i64 0, .int .i64 0, .int .i64 0, .int .i64 0, .int .i64 0, .int .i64 0, .int .i64 0, .int .i64 0, .slice none 0 0, .int .i64 0, .int .i64 0, .int .i64 0, .int .i64 0, .int .i64 0, .int .i64 0, .int .i64 0, .int .i64 0, .int .i64 0, .int .i64 0, .int .i64 0, .int .i64 0, .slice none 0 0, .int .i64 0] 131
    simpa using h
set_option maxHeartbeats 4000000 in
theorem rp_0 {L : Ln} {a : Option Addr} {n c : Nat} {w : World} {cb mb fb0 fb1 fb2 : Nat} {e0 : Int} (hF : Blk w cb #[.func (.func 92) #[] #[], .func (.func 93) #[] #[]] 115) (HC0 : Hid (∀ W, Below w.heap.size w W → Calls (Tri Try.prog) 92 #[.agg (lnA L (.slice a n c))] W fun z w2 => z = .returned (.int .i64 e0) ∧ Below W.heap.size W w2))  (h0 : (e0 != 0) = true) : Calls (Tri Try.prog) 96 #[.agg (lnA L (.slice a n c)), .func (.func 97) #[] #[.pointer (some ⟨fb0, 0, none⟩), .pointer (some ⟨fb1, 0, none⟩), .pointer (some ⟨fb2, 0, none⟩)], .slice (some ⟨cb, 0, none⟩) 2 2] w fun z w2 => z = .returned (.tuple #[.agg #[.int .i64 0, .int .i64 0, .int .i64 0, .int .i64 0, .int .i64 0, .int .i64 0, .int .i64 0, .int .i64 0, .int .i64 0, .int .i64 0, .int .i64 0, .int .i64 0, .slice none 0 0, .int .i64 0, .int .i64 0, .int .i64 0, .int .i64 0, .int .i64 0, .int .i64 0, .int .i64 0, .int .i64 0, .int .i64 0, .int .i64 0, .int .i64 0, .int .i64 0, .slice none 0 0, .int .i64 0], .int .i64 e0]) ∧ Below w.heap.size w w2 := by
  obtain ⟨HB, HK, HZ, HO, HF⟩ := rp_st (L := L) (a := a) (n := n) (c := c) hF
  clear hF
  go_enter (Tri.at (by decide) Try.func96), Try.ntmps96
  go_wp2_with fail
  refine wp_loop_rounds 3 ?_
  rw [rounds_succ]
  have x0 := (show Blk _ _ _ _ from unhide HF).at 0 _ rfl
  go_wp2_with (refine load_blk rfl 53 _ rfl (show Blk _ _ _ _ from unhide HK) rfl row53 size53 rfl ?_)
  refine (unhide HC0 _ (unhide HB)).mono ?_
  rintro z w1 ⟨rfl, hb⟩
  replace HB := hide (below_via (unhide HB) hb)
  replace HK := hide ((show Blk _ _ _ _ from unhide HK).keep hb)
  replace HZ := hide ((show Blk _ _ _ _ from unhide HZ).keep hb)
  replace HO := hide ((show Blk _ _ _ _ from unhide HO).keep hb)
  replace HF := hide ((show Blk _ _ _ _ from unhide HF).keep hb)
  clear hb x0 HC0
  go_wp2_with (first | refine load_blk rfl 131 _ rfl (show Blk _ _ _ _ from unhide HO) rfl row131 size131 rfl ?_ | refine store_blk rfl 131 _ _ rfl (show Blk _ _ _ _ from unhide HZ) rfl rfl size131 rfl rfl rfl ?_)
  intro W k2 kp
  have k4 := kp.bel (by omega) (unhide HB)
  clear kp
  go_wp2_with fail
  exact bodyPost_ret (v := .tuple #[.agg #[.int .i64 0, .int .i64 0, .int .i64 0, .int .i64 0, .int .i64 0, .int .i64 0, .int .i64 0, .int .i64 0, .int .i64 0, .int .i64 0, .int .i64 0, .int .i64 0, .slice none 0 0, .int .i64 0, .int .i64 0, .int .i64 0, .int .i64 0, .int .i64 0, .int .i64 0, .int .i64 0, .int .i64 0, .int .i64 0, .int .i64 0, .int .i64 0, .int .i64 0, .slice none 0 0, .int .i64 0], .int .i64 e0]) (res_ct rfl k2 row131 size131 rfl rfl rfl) rfl ⟨rfl, k4⟩
set_option maxHeartbeats 4000000 in
theorem rp_1 {L : Ln} {a : Option Addr} {n c : Nat} {w : World} {cb mb fb0 fb1 fb2 : Nat} {e0 e1 : Int} (hF : Blk w cb #[.func (.func 92) #[] #[], .func (.func 93) #[] #[]] 115) (HC0 : Hid (∀ W, Below w.heap.size w W → Calls (Tri Try.prog) 92 #[.agg (lnA L (.slice a n c))] W fun z w2 => z = .returned (.int .i64 e0) ∧ Below W.heap.size W w2)) (HC1 : Hid (∀ W, Below w.heap.size w W → Calls (Tri Try.prog) 93 #[.agg (lnA L (.slice a n c))] W fun z w2 => z = .returned (.int .i64 e1) ∧ Below W.heap.size W w2)) (h0 : e0 = 0) (h1 : (e1 != 0) = true) : Calls (Tri Try.prog) 96 #[.agg (lnA L (.slice a n c)), .func (.func 97) #[] #[.pointer (some ⟨fb0, 0, none⟩), .pointer (some ⟨fb1, 0, none⟩), .pointer (some ⟨fb2, 0, none⟩)], .slice (some ⟨cb, 0, none⟩) 2 2] w fun z w2 => z = .returned (.tuple #[.agg #[.int .i64 0, .int .i64 0, .int .i64 0, .int .i64 0, .int .i64 0, .int .i64 0, .int .i64 0, .int .i64 0, .int .i64 0, .int .i64 0, .int .i64 0, .int .i64 0, .slice none 0 0, .int .i64 0, .int .i64 0, .int .i64 0, .int .i64 0, .int .i64 0, .int .i64 0, .int .i64 0, .int .i64 0, .int .i64 0, .int .i64 0, .int .i64 0, .int .i64 0, .slice none 0 0, .int .i64 0], .int .i64 e1]) ∧ Below w.heap.size w w2 := by
  obtain ⟨HB, HK, HZ, HO, HF⟩ := rp_st (L := L) (a := a) (n := n) (c := c) hF
  clear hF
  go_enter (Tri.at (by decide) Try.func96), Try.ntmps96
  go_wp2_with fail
  refine wp_loop_rounds 3 ?_
  rw [rounds_succ]
  have x0 := (show Blk _ _ _ _ from unhide HF).at 0 _ rfl
  go_wp2_with (refine load_blk rfl 53 _ rfl (show Blk _ _ _ _ from unhide HK) rfl row53 size53 rfl ?_)
  refine (unhide HC0 _ (unhide HB)).mono ?_
  rintro z w1 ⟨rfl, hb⟩
  replace HB := hide (below_via (unhide HB) hb)
  replace HK := hide ((show Blk _ _ _ _ from unhide HK).keep hb)
  replace HZ := hide ((show Blk _ _ _ _ from unhide HZ).keep hb)
  replace HO := hide ((show Blk _ _ _ _ from unhide HO).keep hb)
  replace HF := hide ((show Blk _ _ _ _ from unhide HF).keep hb)
  clear hb x0 HC0
  subst h0
  have t0 : ((0 : Int) != 0) = false := rfl
  go_wp2_with fail
  rw [rounds_succ]
  have x0 := (show Blk _ _ _ _ from unhide HF).at 1 _ rfl
  go_wp2_with (refine load_blk rfl 53 _ rfl (show Blk _ _ _ _ from unhide HK) rfl row53 size53 rfl ?_)
  refine (unhide HC1 _ (unhide HB)).mono ?_
  rintro z w2 ⟨rfl, hb⟩
  replace HB := hide (below_via (unhide HB) hb)
  replace HK := hide ((show Blk _ _ _ _ from unhide HK).keep hb)
  replace HZ := hide ((show Blk _ _ _ _ from unhide HZ).keep hb)
  replace HO := hide ((show Blk _ _ _ _ from unhide HO).keep hb)
  replace HF := hide ((show Blk _ _ _ _ from unhide HF).keep hb)
  clear hb x0 HC1
  go_wp2_with (first | refine load_blk rfl 131 _ rfl (show Blk _ _ _ _ from unhide HO) rfl row131 size131 rfl ?_ | refine store_blk rfl 131 _ _ rfl (show Blk _ _ _ _ from unhide HZ) rfl rfl size131 rfl rfl rfl ?_)
  intro W k2 kp
  have k4 := kp.bel (by omega) (unhide HB)
  clear kp
  go_wp2_with fail
  exact bodyPost_ret (v := .tuple #[.agg #[.int .i64 0, .int .i64 0, .int .i64 0, .int .i64 0, .int .i64 0, .int .i64 0, .int .i64 0, .int .i64 0, .int .i64 0, .int .i64 0, .int .i64 0, .int .i64 0, .slice none 0 0, .int .i64 0, .int .i64 0, .int .i64 0, .int .i64 0, .int .i64 0, .int .i64 0, .int .i64 0, .int .i64 0, .int .i64 0, .int .i64 0, .int .i64 0, .int .i64 0, .slice none 0 0, .int .i64 0], .int .i64 e1]) (res_ct rfl k2 row131 size131 rfl rfl rfl) rfl ⟨rfl, k4⟩
set_option maxHeartbeats 4000000 in
theorem rp_e {L : Ln} {a : Option Addr} {n c : Nat} {w : World} {cb mb fb0 fb1 fb2 : Nat} {e0 e1 : Int} (hF : Blk w cb #[.func (.func 92) #[] #[], .func (.func 93) #[] #[]] 115) (HC0 : Hid (∀ W, Below w.heap.size w W → Calls (Tri Try.prog) 92 #[.agg (lnA L (.slice a n c))] W fun z w2 => z = .returned (.int .i64 e0) ∧ Below W.heap.size W w2)) (HC1 : Hid (∀ W, Below w.heap.size w W → Calls (Tri Try.prog) 93 #[.agg (lnA L (.slice a n c))] W fun z w2 => z = .returned (.int .i64 e1) ∧ Below W.heap.size W w2)) {K M : Ln} {n3 n4 : Nat} {l3 l4 : List Int} {m e : Int} (HD : Hid (∀ W, Below w.heap.size w W → Calls (Tri Try.prog) 97 #[.agg (lnA L (.slice a n c)), .pointer (some ⟨fb0, 0, none⟩), .pointer (some ⟨fb1, 0, none⟩), .pointer (some ⟨fb2, 0, none⟩)] W fun z w2 => ∃ a3 c3 a4 c4, z = .returned (.tuple #[.agg #[.int .i64 K.id, .int .i64 K.st, .int .i64 K.be, .int .i64 K.out, .int .i64 K.rt, .int .i64 K.gr, .int .i64 K.due, .int .i64 K.inc, .int .i64 K.got, .int .i64 K.adj, .int .i64 K.wri, .int .i64 K.rcv, .slice a3 n3 c3, .int .i64 M.id, .int .i64 M.st, .int .i64 M.be, .int .i64 M.out, .int .i64 M.rt, .int .i64 M.gr, .int .i64 M.due, .int .i64 M.inc, .int .i64 M.got, .int .i64 M.adj, .int .i64 M.wri, .int .i64 M.rcv, .slice a4 n4 c4, .int .i64 m], .int .i64 e]) ∧ Row w2 (.slice a3 n3 c3) l3 ∧ Sl a3 n3 c3 ∧ (∀ x, a3 = some x → W.heap.size ≤ x.block) ∧ Row w2 (.slice a4 n4 c4) l4 ∧ Sl a4 n4 c4 ∧ (∀ x, a4 = some x → W.heap.size ≤ x.block) ∧ Below W.heap.size W w2)) (h0 : e0 = 0) (h1 : e1 = 0) (he : (e != 0) = true) : Calls (Tri Try.prog) 96 #[.agg (lnA L (.slice a n c)), .func (.func 97) #[] #[.pointer (some ⟨fb0, 0, none⟩), .pointer (some ⟨fb1, 0, none⟩), .pointer (some ⟨fb2, 0, none⟩)], .slice (some ⟨cb, 0, none⟩) 2 2] w fun z w2 => z = .returned (.tuple #[.agg #[.int .i64 0, .int .i64 0, .int .i64 0, .int .i64 0, .int .i64 0, .int .i64 0, .int .i64 0, .int .i64 0, .int .i64 0, .int .i64 0, .int .i64 0, .int .i64 0, .slice none 0 0, .int .i64 0, .int .i64 0, .int .i64 0, .int .i64 0, .int .i64 0, .int .i64 0, .int .i64 0, .int .i64 0, .int .i64 0, .int .i64 0, .int .i64 0, .int .i64 0, .slice none 0 0, .int .i64 0], .int .i64 e]) ∧ Below w.heap.size w w2 := by
  obtain ⟨HB, HK, HZ, HO, HF⟩ := rp_st (L := L) (a := a) (n := n) (c := c) hF
  clear hF
  go_enter (Tri.at (by decide) Try.func96), Try.ntmps96
  go_wp2_with fail
  refine wp_loop_rounds 3 ?_
  rw [rounds_succ]
  have x0 := (show Blk _ _ _ _ from unhide HF).at 0 _ rfl
  go_wp2_with (refine load_blk rfl 53 _ rfl (show Blk _ _ _ _ from unhide HK) rfl row53 size53 rfl ?_)
  refine (unhide HC0 _ (unhide HB)).mono ?_
  rintro z w1 ⟨rfl, hb⟩
  replace HB := hide (below_via (unhide HB) hb)
  replace HK := hide ((show Blk _ _ _ _ from unhide HK).keep hb)
  replace HZ := hide ((show Blk _ _ _ _ from unhide HZ).keep hb)
  replace HO := hide ((show Blk _ _ _ _ from unhide HO).keep hb)
  replace HF := hide ((show Blk _ _ _ _ from unhide HF).keep hb)
  clear hb x0 HC0
  subst h0
  have t0 : ((0 : Int) != 0) = false := rfl
  go_wp2_with fail
  rw [rounds_succ]
  have x0 := (show Blk _ _ _ _ from unhide HF).at 1 _ rfl
  go_wp2_with (refine load_blk rfl 53 _ rfl (show Blk _ _ _ _ from unhide HK) rfl row53 size53 rfl ?_)
  refine (unhide HC1 _ (unhide HB)).mono ?_
  rintro z w2 ⟨rfl, hb⟩
  replace HB := hide (below_via (unhide HB) hb)
  replace HK := hide ((show Blk _ _ _ _ from unhide HK).keep hb)
  replace HZ := hide ((show Blk _ _ _ _ from unhide HZ).keep hb)
  replace HO := hide ((show Blk _ _ _ _ from unhide HO).keep hb)
  replace HF := hide ((show Blk _ _ _ _ from unhide HF).keep hb)
  clear hb x0 HC1
  subst h1
  have t1 : ((0 : Int) != 0) = false := rfl
  go_wp2_with fail
  rw [rounds_succ]
  go_wp2_with (refine load_blk rfl 53 _ rfl (show Blk _ _ _ _ from unhide HK) rfl row53 size53 rfl ?_)
  refine (unhide HD _ (unhide HB)).mono ?_
  rintro z w9 ⟨a3, c3, a4, c4, rfl, hr3, hs3, hf3, hr4, hs4, hf4, hb⟩
  have HN3 : Hid (∀ x, a3 = some x → w.heap.size + 1 < x.block) := hide (fun x hx => Nat.lt_of_lt_of_le (show Blk _ _ _ _ from unhide HZ).lt (hf3 x hx))
  have HN4 : Hid (∀ x, a4 = some x → w.heap.size + 1 < x.block) := hide (fun x hx => Nat.lt_of_lt_of_le (show Blk _ _ _ _ from unhide HZ).lt (hf4 x hx))
  replace HB := hide (below_via (unhide HB) hb)
  replace HK := hide ((show Blk _ _ _ _ from unhide HK).keep hb)
  replace HZ := hide ((show Blk _ _ _ _ from unhide HZ).keep hb)
  replace HO := hide ((show Blk _ _ _ _ from unhide HO).keep hb)
  replace HF := hide ((show Blk _ _ _ _ from unhide HF).keep hb)
  have HR3 := hide hr3
  have HS3 := hide hs3
  have HR4 := hide hr4
  have HS4 := hide hs4
  have HA0 := hide (Blk.new w9 #[.int .i64 0, .int .i64 0, .int .i64 0, .int .i64 0, .int .i64 0, .int .i64 0, .int .i64 0, .int .i64 0, .int .i64 0, .int .i64 0, .int .i64 0, .int .i64 0, .slice none 0 0, .int .i64 0, .int .i64 0, .int .i64 0, .int .i64 0, .int .i64 0, .int .i64 0, .int .i64 0, .int .i64 0, .int .i64 0, .int .i64 0, .int .i64 0, .int .i64 0, .slice none 0 0, .int .i64 0] 131)
  clear hb HD hr3 hs3 hf3 hr4 hs4 hf4
  go_wp2_with (refine store_blk rfl 131 _ _ rfl (show Blk _ _ _ _ from unhide HA0) rfl rfl size131 rfl rfl rfl ?_)
  intro W9 kA kp
  have bb : Below w9.heap.size w9 W9 := kp.bel (Nat.le_refl _) (below1L w9 _)
  replace HR3 := hide ((unhide HR3).below bb (Nat.le_refl _))
  replace HR4 := hide ((unhide HR4).below bb (Nat.le_refl _))
  have HA := hide kA
  replace HB := hide (below_via (unhide HB) bb)
  replace HK := hide ((show Blk _ _ _ _ from unhide HK).keep bb)
  replace HZ := hide ((show Blk _ _ _ _ from unhide HZ).keep bb)
  replace HO := hide ((show Blk _ _ _ _ from unhide HO).keep bb)
  replace HF := hide ((show Blk _ _ _ _ from unhide HF).keep bb)
  clear bb kA kp HA0
  go_wp2_with (first | refine load_blk rfl 131 _ rfl (show Blk _ _ _ _ from unhide HO) rfl row131 size131 rfl ?_ | refine store_blk rfl 131 _ _ rfl (show Blk _ _ _ _ from unhide HZ) rfl rfl size131 rfl rfl rfl ?_)
  intro W k2 kp
  have k4 := kp.bel (by omega) (unhide HB)
  clear kp
  go_wp2_with fail
  exact bodyPost_ret (v := .tuple #[.agg #[.int .i64 0, .int .i64 0, .int .i64 0, .int .i64 0, .int .i64 0, .int .i64 0, .int .i64 0, .int .i64 0, .int .i64 0, .int .i64 0, .int .i64 0, .int .i64 0, .slice none 0 0, .int .i64 0, .int .i64 0, .int .i64 0, .int .i64 0, .int .i64 0, .int .i64 0, .int .i64 0, .int .i64 0, .int .i64 0, .int .i64 0, .int .i64 0, .int .i64 0, .slice none 0 0, .int .i64 0], .int .i64 e]) (res_ct rfl k2 row131 size131 rfl rfl rfl) rfl ⟨rfl, k4⟩
set_option maxHeartbeats 4000000 in
theorem rp_y {L : Ln} {a : Option Addr} {n c : Nat} {w : World} {cb mb fb0 fb1 fb2 : Nat} {e0 e1 : Int} (hF : Blk w cb #[.func (.func 92) #[] #[], .func (.func 93) #[] #[]] 115) (HC0 : Hid (∀ W, Below w.heap.size w W → Calls (Tri Try.prog) 92 #[.agg (lnA L (.slice a n c))] W fun z w2 => z = .returned (.int .i64 e0) ∧ Below W.heap.size W w2)) (HC1 : Hid (∀ W, Below w.heap.size w W → Calls (Tri Try.prog) 93 #[.agg (lnA L (.slice a n c))] W fun z w2 => z = .returned (.int .i64 e1) ∧ Below W.heap.size W w2)) {K M : Ln} {n3 n4 : Nat} {l3 l4 : List Int} {m e : Int} (HD : Hid (∀ W, Below w.heap.size w W → Calls (Tri Try.prog) 97 #[.agg (lnA L (.slice a n c)), .pointer (some ⟨fb0, 0, none⟩), .pointer (some ⟨fb1, 0, none⟩), .pointer (some ⟨fb2, 0, none⟩)] W fun z w2 => ∃ a3 c3 a4 c4, z = .returned (.tuple #[.agg #[.int .i64 K.id, .int .i64 K.st, .int .i64 K.be, .int .i64 K.out, .int .i64 K.rt, .int .i64 K.gr, .int .i64 K.due, .int .i64 K.inc, .int .i64 K.got, .int .i64 K.adj, .int .i64 K.wri, .int .i64 K.rcv, .slice a3 n3 c3, .int .i64 M.id, .int .i64 M.st, .int .i64 M.be, .int .i64 M.out, .int .i64 M.rt, .int .i64 M.gr, .int .i64 M.due, .int .i64 M.inc, .int .i64 M.got, .int .i64 M.adj, .int .i64 M.wri, .int .i64 M.rcv, .slice a4 n4 c4, .int .i64 m], .int .i64 e]) ∧ Row w2 (.slice a3 n3 c3) l3 ∧ Sl a3 n3 c3 ∧ (∀ x, a3 = some x → W.heap.size ≤ x.block) ∧ Row w2 (.slice a4 n4 c4) l4 ∧ Sl a4 n4 c4 ∧ (∀ x, a4 = some x → W.heap.size ≤ x.block) ∧ Below W.heap.size W w2)) (h0 : e0 = 0) (h1 : e1 = 0) (he : e = 0) : Calls (Tri Try.prog) 96 #[.agg (lnA L (.slice a n c)), .func (.func 97) #[] #[.pointer (some ⟨fb0, 0, none⟩), .pointer (some ⟨fb1, 0, none⟩), .pointer (some ⟨fb2, 0, none⟩)], .slice (some ⟨cb, 0, none⟩) 2 2] w fun z w2 => ∃ a3 c3 a4 c4, z = .returned (.tuple #[.agg #[.int .i64 K.id, .int .i64 K.st, .int .i64 K.be, .int .i64 K.out, .int .i64 K.rt, .int .i64 K.gr, .int .i64 K.due, .int .i64 K.inc, .int .i64 K.got, .int .i64 K.adj, .int .i64 K.wri, .int .i64 K.rcv, .slice a3 n3 c3, .int .i64 M.id, .int .i64 M.st, .int .i64 M.be, .int .i64 M.out, .int .i64 M.rt, .int .i64 M.gr, .int .i64 M.due, .int .i64 M.inc, .int .i64 M.got, .int .i64 M.adj, .int .i64 M.wri, .int .i64 M.rcv, .slice a4 n4 c4, .int .i64 m], .int .i64 0]) ∧ Row w2 (.slice a3 n3 c3) l3 ∧ Sl a3 n3 c3 ∧ (∀ x, a3 = some x → w.heap.size ≤ x.block) ∧ Row w2 (.slice a4 n4 c4) l4 ∧ Sl a4 n4 c4 ∧ (∀ x, a4 = some x → w.heap.size ≤ x.block) ∧ Below w.heap.size w w2 := by
  obtain ⟨HB, HK, HZ, HO, HF⟩ := rp_st (L := L) (a := a) (n := n) (c := c) hF
  clear hF
  go_enter (Tri.at (by decide) Try.func96), Try.ntmps96
  go_wp2_with fail
  refine wp_loop_rounds 3 ?_
  rw [rounds_succ]
  have x0 := (show Blk _ _ _ _ from unhide HF).at 0 _ rfl
  go_wp2_with (refine load_blk rfl 53 _ rfl (show Blk _ _ _ _ from unhide HK) rfl row53 size53 rfl ?_)
  refine (unhide HC0 _ (unhide HB)).mono ?_
  rintro z w1 ⟨rfl, hb⟩
  replace HB := hide (below_via (unhide HB) hb)
  replace HK := hide ((show Blk _ _ _ _ from unhide HK).keep hb)
  replace HZ := hide ((show Blk _ _ _ _ from unhide HZ).keep hb)
  replace HO := hide ((show Blk _ _ _ _ from unhide HO).keep hb)
  replace HF := hide ((show Blk _ _ _ _ from unhide HF).keep hb)
  clear hb x0 HC0
  subst h0
  have t0 : ((0 : Int) != 0) = false := rfl
  go_wp2_with fail
  rw [rounds_succ]
  have x0 := (show Blk _ _ _ _ from unhide HF).at 1 _ rfl
  go_wp2_with (refine load_blk rfl 53 _ rfl (show Blk _ _ _ _ from unhide HK) rfl row53 size53 rfl ?_)
  refine (unhide HC1 _ (unhide HB)).mono ?_
  rintro z w2 ⟨rfl, hb⟩
  replace HB := hide (below_via (unhide HB) hb)
  replace HK := hide ((show Blk _ _ _ _ from unhide HK).keep hb)
  replace HZ := hide ((show Blk _ _ _ _ from unhide HZ).keep hb)
  replace HO := hide ((show Blk _ _ _ _ from unhide HO).keep hb)
  replace HF := hide ((show Blk _ _ _ _ from unhide HF).keep hb)
  clear hb x0 HC1
  subst h1
  have t1 : ((0 : Int) != 0) = false := rfl
  go_wp2_with fail
  rw [rounds_succ]
  go_wp2_with (refine load_blk rfl 53 _ rfl (show Blk _ _ _ _ from unhide HK) rfl row53 size53 rfl ?_)
  refine (unhide HD _ (unhide HB)).mono ?_
  rintro z w9 ⟨a3, c3, a4, c4, rfl, hr3, hs3, hf3, hr4, hs4, hf4, hb⟩
  have HN3 : Hid (∀ x, a3 = some x → w.heap.size + 1 < x.block) := hide (fun x hx => Nat.lt_of_lt_of_le (show Blk _ _ _ _ from unhide HZ).lt (hf3 x hx))
  have HN4 : Hid (∀ x, a4 = some x → w.heap.size + 1 < x.block) := hide (fun x hx => Nat.lt_of_lt_of_le (show Blk _ _ _ _ from unhide HZ).lt (hf4 x hx))
  replace HB := hide (below_via (unhide HB) hb)
  replace HK := hide ((show Blk _ _ _ _ from unhide HK).keep hb)
  replace HZ := hide ((show Blk _ _ _ _ from unhide HZ).keep hb)
  replace HO := hide ((show Blk _ _ _ _ from unhide HO).keep hb)
  replace HF := hide ((show Blk _ _ _ _ from unhide HF).keep hb)
  have HR3 := hide hr3
  have HS3 := hide hs3
  have HR4 := hide hr4
  have HS4 := hide hs4
  have HA0 := hide (Blk.new w9 #[.int .i64 0, .int .i64 0, .int .i64 0, .int .i64 0, .int .i64 0, .int .i64 0, .int .i64 0, .int .i64 0, .int .i64 0, .int .i64 0, .int .i64 0, .int .i64 0, .slice none 0 0, .int .i64 0, .int .i64 0, .int .i64 0, .int .i64 0, .int .i64 0, .int .i64 0, .int .i64 0, .int .i64 0, .int .i64 0, .int .i64 0, .int .i64 0, .int .i64 0, .slice none 0 0, .int .i64 0] 131)
  clear hb HD hr3 hs3 hf3 hr4 hs4 hf4
  go_wp2_with (refine store_blk rfl 131 _ _ rfl (show Blk _ _ _ _ from unhide HA0) rfl rfl size131 rfl rfl rfl ?_)
  intro W9 kA kp
  have bb : Below w9.heap.size w9 W9 := kp.bel (Nat.le_refl _) (below1L w9 _)
  replace HR3 := hide ((unhide HR3).below bb (Nat.le_refl _))
  replace HR4 := hide ((unhide HR4).below bb (Nat.le_refl _))
  have HA := hide kA
  replace HB := hide (below_via (unhide HB) bb)
  replace HK := hide ((show Blk _ _ _ _ from unhide HK).keep bb)
  replace HZ := hide ((show Blk _ _ _ _ from unhide HZ).keep bb)
  replace HO := hide ((show Blk _ _ _ _ from unhide HO).keep bb)
  replace HF := hide ((show Blk _ _ _ _ from unhide HF).keep bb)
  clear bb kA kp HA0
  subst he
  have t9 : ((0 : Int) != 0) = false := rfl
  go_wp2_with (first | refine load_blk rfl 131 _ rfl (show Blk _ _ _ _ from unhide HA) rfl row131 size131 rfl ?_ | refine store_blk rfl 131 _ _ rfl (show Blk _ _ _ _ from unhide HZ) rfl rfl size131 rfl rfl rfl ?_)
  intro W k2 kp
  have k4 := kp.bel (by omega) (unhide HB)
  have k53 := kp.row (fun x hx => by have := unhide HN3 x hx; omega) (unhide HR3)
  have k63 : ∀ x, a3 = some x → w.heap.size ≤ x.block := fun x hx => by have := unhide HN3 x hx; omega
  have k73 := unhide HS3
  have k54 := kp.row (fun x hx => by have := unhide HN4 x hx; omega) (unhide HR4)
  have k64 : ∀ x, a4 = some x → w.heap.size ≤ x.block := fun x hx => by have := unhide HN4 x hx; omega
  have k74 := unhide HS4
  have Kk63 := hide k63
  clear k63
  have Kk64 := hide k64
  clear k64
  clear kp
  go_wp2_with fail
  exact bodyPost_ret (v := .tuple #[.agg #[.int .i64 K.id, .int .i64 K.st, .int .i64 K.be, .int .i64 K.out, .int .i64 K.rt, .int .i64 K.gr, .int .i64 K.due, .int .i64 K.inc, .int .i64 K.got, .int .i64 K.adj, .int .i64 K.wri, .int .i64 K.rcv, .slice a3 n3 c3, .int .i64 M.id, .int .i64 M.st, .int .i64 M.be, .int .i64 M.out, .int .i64 M.rt, .int .i64 M.gr, .int .i64 M.due, .int .i64 M.inc, .int .i64 M.got, .int .i64 M.adj, .int .i64 M.wri, .int .i64 M.rcv, .slice a4 n4 c4, .int .i64 m], .int .i64 0]) (res_ct rfl k2 row131 size131 rfl rfl rfl) rfl ⟨a3, c3, a4, c4, rfl, k53, k73, unhide Kk63, k54, k74, unhide Kk64, k4⟩
theorem clo_97 {L : Ln} {a a2 : Option Addr} {n c n2 c2 : Nat} {id fair : Int} {w : World} {fb0 fb1 fb2 : Nat} {K M : Ln} {n3 n4 : Nat} {l3 l4 : List Int} {m e : Int} (HC : Hid (∀ W, Below w.heap.size w W → Calls (Tri Try.prog) 98 #[.agg (lnA L (.slice a n c)), .int .i64 id, .int .i64 fair, .slice a2 n2 c2] W fun z w2 => ∃ a3 c3 a4 c4, z = .returned (.tuple #[.agg #[.int .i64 K.id, .int .i64 K.st, .int .i64 K.be, .int .i64 K.out, .int .i64 K.rt, .int .i64 K.gr, .int .i64 K.due, .int .i64 K.inc, .int .i64 K.got, .int .i64 K.adj, .int .i64 K.wri, .int .i64 K.rcv, .slice a3 n3 c3, .int .i64 M.id, .int .i64 M.st, .int .i64 M.be, .int .i64 M.out, .int .i64 M.rt, .int .i64 M.gr, .int .i64 M.due, .int .i64 M.inc, .int .i64 M.got, .int .i64 M.adj, .int .i64 M.wri, .int .i64 M.rcv, .slice a4 n4 c4, .int .i64 m], .int .i64 e]) ∧ Row w2 (.slice a3 n3 c3) l3 ∧ Sl a3 n3 c3 ∧ (∀ x, a3 = some x → W.heap.size ≤ x.block) ∧ Row w2 (.slice a4 n4 c4) l4 ∧ Sl a4 n4 c4 ∧ (∀ x, a4 = some x → W.heap.size ≤ x.block) ∧ Below W.heap.size W w2)) (h0 : w.cell? ⟨fb0, 0, none⟩ = some (.int .i64 id)) (h1 : w.cell? ⟨fb1, 0, none⟩ = some (.int .i64 fair)) (h2 : w.cell? ⟨fb2, 0, none⟩ = some (.slice a2 n2 c2)) : Calls (Tri Try.prog) 97 #[.agg (lnA L (.slice a n c)), .pointer (some ⟨fb0, 0, none⟩), .pointer (some ⟨fb1, 0, none⟩), .pointer (some ⟨fb2, 0, none⟩)] w fun z w2 => ∃ a3 c3 a4 c4, z = .returned (.tuple #[.agg #[.int .i64 K.id, .int .i64 K.st, .int .i64 K.be, .int .i64 K.out, .int .i64 K.rt, .int .i64 K.gr, .int .i64 K.due, .int .i64 K.inc, .int .i64 K.got, .int .i64 K.adj, .int .i64 K.wri, .int .i64 K.rcv, .slice a3 n3 c3, .int .i64 M.id, .int .i64 M.st, .int .i64 M.be, .int .i64 M.out, .int .i64 M.rt, .int .i64 M.gr, .int .i64 M.due, .int .i64 M.inc, .int .i64 M.got, .int .i64 M.adj, .int .i64 M.wri, .int .i64 M.rcv, .slice a4 n4 c4, .int .i64 m], .int .i64 e]) ∧ Row w2 (.slice a3 n3 c3) l3 ∧ Sl a3 n3 c3 ∧ (∀ x, a3 = some x → w.heap.size ≤ x.block) ∧ Row w2 (.slice a4 n4 c4) l4 ∧ Sl a4 n4 c4 ∧ (∀ x, a4 = some x → w.heap.size ≤ x.block) ∧ Below w.heap.size w w2 := by
  have HB : Hid (Below w.heap.size w ((w.alloc (.cells (lnA L (.slice a n c)) 53)).alloc (.cells #[.int .i64 0, .int .i64 0, .int .i64 0, .int .i64 0, .int .i64 0, .int .i64 0, .int .i64 0, .int .i64 0, .int .i64 0, .int .i64 0, .int .i64 0, .int .i64 0, .slice none 0 0, .int .i64 0, .int .i64 0, .int .i64 0, .int .i64 0, .int .i64 0, .int .i64 0, .int .i64 0, .int .i64 0, .int .i64 0, .int .i64 0, .int .i64 0, .int .i64 0, .slice none 0 0, .int .i64 0] 131))) := hide ((below1L w _).alloc (by simp) _)
  have HK : Hid (Blk ((w.alloc (.cells (lnA L (.slice a n c)) 53)).alloc (.cells #[.int .i64 0, .int .i64 0, .int .i64 0, .int .i64 0, .int .i64 0, .int .i64 0, .int .i64 0, .int .i64 0, .int .i64 0, .int .i64 0, .int .i64 0, .int .i64 0, .slice none 0 0, .int .i64 0, .int .i64 0, .int .i64 0, .int .i64 0, .int .i64 0, .int .i64 0, .int .i64 0, .int .i64 0, .int .i64 0, .int .i64 0, .int .i64 0, .int .i64 0, .slice none 0 0, .int .i64 0] 131)) w.heap.size (lnA L (.slice a n c)) 53) := hide ((Blk.new w (lnA L (.slice a n c)) 53).alloc _)
  have HZ : Hid (Blk ((w.alloc (.cells (lnA L (.slice a n c)) 53)).alloc (.cells #[.int .i64 0, .int .i64 0, .int .i64 0, .int .i64 0, .int .i64 0, .int .i64 0, .int .i64 0, .int .i64 0, .int .i64 0, .int .i64 0, .int .i64 0, .int .i64 0, .slice none 0 0, .int .i64 0, .int .i64 0, .int .i64 0, .int .i64 0, .int .i64 0, .int .i64 0, .int .i64 0, .int .i64 0, .int .i64 0, .int .i64 0, .int .i64 0, .int .i64 0, .slice none 0 0, .int .i64 0] 131)) (w.heap.size + 1) #[.int .i64 0, .int .i64 0, .int .i64 0, .int .i64 0, .int .i64 0, .int .i64 0, .int .i64 0, .int .i64 0, .int .i64 0, .int .i64 0, .int .i64 0, .int .i64 0, .slice none 0 0, .int .i64 0, .int .i64 0, .int .i64 0, .int .i64 0, .int .i64 0, .int .i64 0, .int .i64 0, .int .i64 0, .int .i64 0, .int .i64 0, .int .i64 0, .int .i64 0, .slice none 0 0, .int .i64 0] 131) := hide (by have h := Blk.new (w.alloc (.cells (lnA L (.slice a n c)) 53)) #[.int .i64 0, .int .i64 0, .int .i64 0, .int .i64 0, .int .i64 0, .int .i64 0, .int .i64 0, .int .i64 0, .int .i64 0, .int .i64 0, .int .i64 0, .int .i64 0, .slice none 0 0, .int .i64 0, .int .i64 0, .int .i64 0, .int .i64 0, .int .i64 0, .int .i64 0, .int .i64 0, .int .i64 0, .int .i64 0, .int .i64 0, .int .i64 0, .int .i64 0, .slice none 0 0, .int .i64 0] 131; simpa using h)
  have q0 := cell_old (cell_old h0 (.cells (lnA L (.slice a n c)) 53)) (.cells #[.int .i64 0, .int .i64 0, .int .i64 0, .int .i64 0, .int .i64 0, .int .i64 0, .int .i64 0, .int .i64 0, .int .i64 0, .int .i64 0, .int .i64 0, .int .i64 0, .slice none 0 0, .int .i64 0, .int .i64 0, .int .i64 0, .int .i64 0, .int .i64 0, .int .i64 0, .int .i64 0, .int .i64 0, .int .i64 0, .int .i64 0, .int .i64 0, .int .i64 0, .slice none 0 0, .int .i64 0] 131)
  have q1 := cell_old (cell_old h1 (.cells (lnA L (.slice a n c)) 53)) (.cells #[.int .i64 0, .int .i64 0, .int .i64 0, .int .i64 0, .int .i64 0, .int .i64 0, .int .i64 0, .int .i64 0, .int .i64 0, .int .i64 0, .int .i64 0, .int .i64 0, .slice none 0 0, .int .i64 0, .int .i64 0, .int .i64 0, .int .i64 0, .int .i64 0, .int .i64 0, .int .i64 0, .int .i64 0, .int .i64 0, .int .i64 0, .int .i64 0, .int .i64 0, .slice none 0 0, .int .i64 0] 131)
  have q2 := cell_old (cell_old h2 (.cells (lnA L (.slice a n c)) 53)) (.cells #[.int .i64 0, .int .i64 0, .int .i64 0, .int .i64 0, .int .i64 0, .int .i64 0, .int .i64 0, .int .i64 0, .int .i64 0, .int .i64 0, .int .i64 0, .int .i64 0, .slice none 0 0, .int .i64 0, .int .i64 0, .int .i64 0, .int .i64 0, .int .i64 0, .int .i64 0, .int .i64 0, .int .i64 0, .int .i64 0, .int .i64 0, .int .i64 0, .int .i64 0, .slice none 0 0, .int .i64 0] 131)
  replace HC := hide (unhide HC _ (unhide HB))
  clear h0 h1 h2
  generalize hU : (w.alloc (.cells (lnA L (.slice a n c)) 53)).alloc (.cells #[.int .i64 0, .int .i64 0, .int .i64 0, .int .i64 0, .int .i64 0, .int .i64 0, .int .i64 0, .int .i64 0, .int .i64 0, .int .i64 0, .int .i64 0, .int .i64 0, .slice none 0 0, .int .i64 0, .int .i64 0, .int .i64 0, .int .i64 0, .int .i64 0, .int .i64 0, .int .i64 0, .int .i64 0, .int .i64 0, .int .i64 0, .int .i64 0, .int .i64 0, .slice none 0 0, .int .i64 0] 131) = U at *
  go_enter (Tri.at (by decide) Try.func97), Try.ntmps97
  go_wp2_with (refine load_blk rfl 53 _ rfl (show Blk _ _ _ _ from unhide HK) rfl row53 size53 rfl ?_)
  clear hU
  refine (unhide HC).mono ?_
  rintro z w9 ⟨a3, c3, a4, c4, rfl, hr3, hs3, hf3, hr4, hs4, hf4, hb⟩
  have HN3 : Hid (∀ x, a3 = some x → w.heap.size + 1 < x.block) := hide (fun x hx => Nat.lt_of_lt_of_le (show Blk _ _ _ _ from unhide HZ).lt (hf3 x hx))
  have HR3 := hide hr3
  have HS3 := hide hs3
  have HN4 : Hid (∀ x, a4 = some x → w.heap.size + 1 < x.block) := hide (fun x hx => Nat.lt_of_lt_of_le (show Blk _ _ _ _ from unhide HZ).lt (hf4 x hx))
  have HR4 := hide hr4
  have HS4 := hide hs4
  replace HB := hide (below_via (unhide HB) hb)
  replace HZ := hide ((show Blk _ _ _ _ from unhide HZ).keep hb)
  clear hb HC HK q0 q1 q2 hr3 hs3 hf3 hr4 hs4 hf4
  go_wp2_with (refine store_blk rfl 131 _ _ rfl (show Blk _ _ _ _ from unhide HZ) rfl rfl size131 rfl rfl rfl ?_)
  intro W k2 kp
  have k4 := kp.bel (by omega) (unhide HB)
  have k53 := kp.row (fun x hx => by have := unhide HN3 x hx; omega) (unhide HR3)
  have k63 := hide (show ∀ x, a3 = some x → w.heap.size ≤ x.block from fun x hx => by have := unhide HN3 x hx; omega)
  have k73 := unhide HS3
  have k54 := kp.row (fun x hx => by have := unhide HN4 x hx; omega) (unhide HR4)
  have k64 := hide (show ∀ x, a4 = some x → w.heap.size ≤ x.block from fun x hx => by have := unhide HN4 x hx; omega)
  have k74 := unhide HS4
  clear kp
  go_wp2_with fail
  exact bodyPost_ret (v := .tuple #[.agg #[.int .i64 K.id, .int .i64 K.st, .int .i64 K.be, .int .i64 K.out, .int .i64 K.rt, .int .i64 K.gr, .int .i64 K.due, .int .i64 K.inc, .int .i64 K.got, .int .i64 K.adj, .int .i64 K.wri, .int .i64 K.rcv, .slice a3 n3 c3, .int .i64 M.id, .int .i64 M.st, .int .i64 M.be, .int .i64 M.out, .int .i64 M.rt, .int .i64 M.gr, .int .i64 M.due, .int .i64 M.inc, .int .i64 M.got, .int .i64 M.adj, .int .i64 M.wri, .int .i64 M.rcv, .slice a4 n4 c4, .int .i64 m], .int .i64 e]) (res_ct rfl k2 row131 size131 rfl rfl rfl) rfl ⟨a3, c3, a4, c4, rfl, k53, k73, unhide k63, k54, k74, unhide k64, k4⟩
end Go.Proofs.Ytpeoabopeihadaa.Mn
