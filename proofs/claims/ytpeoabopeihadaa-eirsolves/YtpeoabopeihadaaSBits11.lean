/- What the walk of the reference's div wants. -/
import Derived.Test.YtpeoabopeihadaaSD
import Derived.Test.YtpeoabopeihadaaSRefNum
import Derived.Test.YtpeoabopeihadaaSTri
set_option linter.unusedVariables false
set_option linter.unusedSimpArgs false
set_option linter.unusedSectionVars false
namespace Go.Proofs.Ytpeoabopeihadaa
open Go.RowKit
attribute [local simp] Tri.typeInfo Tri.sizeOf Tri.underlying Tri.runUnderlying Tri.isAgg Tri.zeroValue Tri.depth Tri.stoodInHeld Tri.eqGuardType Tri.call15 Tri.call14 Tri.call16 Tri.call17 Tri.call18 Tri.call19 Tri.call20 Tri.call46 Tri.call49 Tri.call50 Tri.call51 Tri.call52 Tri.call53 Tri.call54 Tri.call55 Tri.call65 Tri.call95 Tri.call106 Tri.call107 Tri.call108 Tri.call109 Tri.call116 Tri.call117 Tri.call118 Tri.call119 Tri.call120 Tri.call122 Tri.call135 Tri.call136 Tri.call137 Tri.call143 Tri.call144 Tri.call145 Tri.call146 Tri.call147 Tri.call149 Tri.call150 Tri.call151 Tri.call152 Tri.call156 Tri.call157 Tri.call159 Tri.call160 Tri.call161 Tri.call162 Tri.call163 Tri.call164 Tri.call165 Tri.call166 Tri.call167 Tri.call175 Tri.call176 Tri.call178 Tri.call179 Tri.call180 Tri.call181 Tri.call182 Tri.call183 Tri.call186 Tri.call187 Tri.call188 Tri.call204 Tri.call205
theorem g_start (v : World) (m : Bool) (g : Nat → Nat) : ∃ V : World, (storeCells ⟨v.heap.size, 0, none⟩ (gv m g).toList).run (Tri Try.prog) (v.alloc (.cells (gv false zb) 201)) = .ok () V ∧ GRow V v.heap.size m g ∧ Below v.heap.size v V ∧ V.heap.size = v.heap.size + 1 := by
  have r := GRow.new v false zb
  have b := (Below.refl v.heap.size v).alloc (Nat.le_refl _) (.cells (gv false zb) 201)
  have hs : (v.alloc (.cells (gv false zb) 201)).heap.size = v.heap.size + 1 := by simp
  generalize v.alloc (.cells (gv false zb) 201) = V at *
  exact ⟨_, store56c m g r, r.put (m := m) g, below_put b (Nat.le_refl _) _, by rw [setRow_size, hs]⟩
theorem two_bits (v : World) (f g : Nat → Nat) : ∃ W6 W7 : World,
    (storeCells ⟨v.heap.size, 0, none⟩ (bv f).toList).run (Tri Try.prog) ((v.alloc (.cells (bv zb) 199)).alloc (.cells (bv zb) 199)) = .ok () W6 ∧
    (storeCells ⟨v.heap.size + 1, 0, none⟩ (bv g).toList).run (Tri Try.prog) W6 = .ok () W7 ∧ Row W7 v.heap.size f ∧ Row W7 (v.heap.size + 1) g ∧ Below v.heap.size v W7 ∧ W7.heap.size = v.heap.size + 1 + 1 := by
  obtain ⟨a, b, c⟩ := rows2 v zb zb
  have hs : ((v.alloc (.cells (bv zb) 199)).alloc (.cells (bv zb) 199)).heap.size = v.heap.size + 1 + 1 := by simp
  generalize (v.alloc (.cells (bv zb) 199)).alloc (.cells (bv zb) 199) = V at *
  refine ⟨_, _, store54c f a, store54c g (b.putOther (by omega) _), ?_, ?_, ?_, ?_⟩
  · exact (a.put f).putOther (by omega) _
  · exact (b.putOther (by omega) _).put g
  · exact below_put (below_put c (by omega) _) (by omega) _
  · rw [setRow_size, setRow_size, hs]
structure DR (w : World) (n8 n9 : Nat) (wr : World) (l : Bool) (f : Nat → Nat) (lb : Bool) (fb q r : Nat → Nat) : Prop where
  ra : GRow wr w.heap.size l f
  rb : GRow wr n8 lb fb
  rq : Row wr n9 q
  rr : Row wr (n9 + 1) r
  r1 : Row wr (n9 + 1 + 1) (upd zb 0 1)
  l8 : w.heap.size < n8
  l9 : n8 < n9
  below : Below w.heap.size w wr
theorem DR.keep {w wr w2 : World} {n8 n9 : Nat} {l lb : Bool} {f fb q r : Nat → Nat} (t : DR w n8 n9 wr l f lb fb q r) (hb : Below wr.heap.size wr w2) : DR w n8 n9 w2 l f lb fb q r :=
  ⟨t.ra.keep hb t.ra.lt, t.rb.keep hb t.rb.lt, t.rq.keep hb t.rq.lt, t.rr.keep hb t.rr.lt, t.r1.keep hb t.r1.lt, t.l8, t.l9, below_via t.below hb⟩
theorem DR.putq {w wr : World} {n8 n9 : Nat} {l lb : Bool} {f fb q r : Nat → Nat} (t : DR w n8 n9 wr l f lb fb q r) (k : Nat → Nat) : DR w n8 n9 (wr.setRow n9 (bv k)) l f lb fb k r :=
  ⟨t.ra.putOther (by have := t.l8; have := t.l9; omega) _, t.rb.putOther (by have := t.l9; omega) _, t.rq.put k, t.rr.putOther (by omega) _, t.r1.putOther (by omega) _, t.l8, t.l9, below_put t.below (by have := t.l8; have := t.l9; omega) _⟩
theorem yields54 {ops : Array Oper} {S : World → Prop} {op : Oper} {a : Act} {x : Operand} {b : Nat} {f : Nat → Nat} (hS : ∀ w, S w → Row w b f) (hw : Region.wanted op (yielded ops a.tmps) = true) (ho : op.op = .load 199 x) (hx : a.eval x = .pointer (some ⟨b, 0, none⟩)) : YieldsIf (Tri Try.prog) ops S op (.agg (bv f)) a := by
  have := yieldsIf_load_mid (P := (Tri Try.prog)) (S := S) hw 199 x ho b 0 hx (bv f).toList _ (fun w h => (hS w h).range) (Tri.und Try.underlying199) rfl (by rw [show (bv f).toList.length = (bv f).size by simp]; exact size54 f)
  simpa using this
theorem yieldsB {ops : Array Oper} {S : World → Prop} {op : Oper} {a : Act} {x : Operand} {b : Nat} {l : Bool} {f : Nat → Nat} (hS : ∀ w, S w → GRow w b l f) (hw : Region.wanted op (yielded ops a.tmps) = true) (ho : op.op = .load 199 x) (hx : a.eval x = .pointer (some ⟨b, 1, none⟩)) : YieldsIf (Tri Try.prog) ops S op (.agg (bv f)) a := by
  have := yieldsIf_load_mid (P := (Tri Try.prog)) (S := S) hw 199 x ho b 1 hx (bv f).toList _ (fun w h => (hS w h).range) (Tri.und Try.underlying199) rfl (by rw [show (bv f).toList.length = (bv f).size by simp]; exact size54 f)
  simpa using this
theorem fold_bits (m : Bool) (g q : Nat → Nat) : ∀ n, (List.range n).foldl (fun (cs : Array Value) i => cs.setIfInBounds (1 + i) (.int .u8 (q i))) (gv m g) = gv m (fun j => if j < n then q j else g j)
  | 0 => by simp
  | n + 1 => by
    rw [List.range_succ, List.foldl_append, fold_bits m g q n]
    show (gv m (fun j => if j < n then q j else g j)).setIfInBounds (1 + n) (.int .u8 (q n)) = _
    rw [gv_set]
    congr 1
    funext j
    unfold upd
    by_cases e : j = n
    · subst e; rw [if_pos rfl, if_pos (by omega)]
    · rw [if_neg e]
      show (if j < n then q j else g j) = _
      by_cases c : j < n
      · rw [if_pos c, if_pos (by omega)]
      · rw [if_neg c, if_neg (by omega)]
theorem twice {r h : Nat → Nat} (hP : Plus r r h) (hr : val r 260 < 18446744073709551616) : val h 260 = 2 * val r 260 := by
  obtain ⟨_, c, hc, e⟩ := hP
  have := big260
  have m := P2_mono 259 1
  rcases (show c = 0 ∨ c = 1 by omega) with rfl | rfl
  · omega
  · rw [Nat.one_mul] at e
    change P2 259 ≤ P2 260 at m
    have s := small_260
    omega
theorem one_more {q k : Nat → Nat} (hP : Plus q (upd zb 0 1) k) (hq : val q 260 + 1 < P2 260) : val k 260 = val q 260 + 1 := by
  obtain ⟨_, c, hc, e⟩ := hP
  rw [val_lim (by omega)] at e
  change _ = val q 260 + 1 at e
  rcases (show c = 0 ∨ c = 1 by omega) with rfl | rfl
  · omega
  · rw [Nat.one_mul] at e
    omega
theorem last_bit {q : Nat → Nat} (hq : Bit q) : q 0 = val q 260 % 2 := by
  have e := val_split q 1 259
  change val q 260 = (0 + q 0 * 1) + 2 * val (fun j => q (1 + j)) 259 at e
  have := hq 0
  omega
theorem gv_congr {m : Bool} {f g : Nat → Nat} (h : ∀ i, i < 260 → f i = g i) : gv m f = gv m g :=
  gv_ext (gv_size _ _) (gv_zero _ _) (fun i hi => by rw [gv_get hi, h i hi])
theorem zip_bits (q : Nat → Nat) : (bv q).zipIdx.toList = (List.range 260).map (fun i => (Value.int .u8 (q i), i)) := by
  rw [Array.toList_zipIdx]
  unfold bv
  apply List.ext_getElem?
  intro i
  rw [List.getElem?_zipIdx, List.getElem?_map]
  by_cases h : i < 260
  · simp [h]
  · simp [h]
theorem gv_fold (m : Bool) (q : Nat → Nat) : Array.foldl (fun (cs : Array Value) (x : Value × Nat) => cs.setIfInBounds (1 + x.snd) x.fst) ((gv false zb).setIfInBounds 0 (.bool m)) (bv q).zipIdx 0 260 = gv m q := by
  have hs : (bv q).zipIdx.size = 260 := by simp [bv_size]
  rw [gv_less]
  have e : Array.foldl (fun (cs : Array Value) (x : Value × Nat) => cs.setIfInBounds (1 + x.snd) x.fst) (gv m zb) (bv q).zipIdx 0 260 = (bv q).zipIdx.toList.foldl (fun (cs : Array Value) (x : Value × Nat) => cs.setIfInBounds (1 + x.snd) x.fst) (gv m zb) := by
    rw [← hs, Array.foldl_toList]
  rw [e, zip_bits, List.foldl_map, fold_bits]
  exact gv_congr (fun i hi => if_pos hi)
end Go.Proofs.Ytpeoabopeihadaa
