/- What the reference rounds by sign and bits is what 'near' and the quotient downwards are. -/
import Derived.Test.YtpeoabopeihadaaNQI
import Derived.Test.YtpeoabopeihadaaNTri
import Derived.Test.YtpeoabopeihadaaNB
set_option linter.unusedVariables false
set_option linter.unusedSimpArgs false
set_option linter.unusedSectionVars false
set_option maxHeartbeats 40000000
namespace Go.Proofs.Ytpeoabopeihadaa
open Go.RowKit
attribute [local simp] Tri.typeInfo Tri.sizeOf Tri.underlying Tri.runUnderlying Tri.isAgg Tri.zeroValue Tri.depth Tri.stoodInHeld Tri.eqGuardType Tri.call15 Tri.call16 Tri.call26 Tri.call27 Tri.call28 Tri.call29 Tri.call30 Tri.call31 Tri.call46 Tri.call49 Tri.call50 Tri.call51 Tri.call52 Tri.call53 Tri.call54 Tri.call65 Tri.call66 Tri.call68 Tri.call69 Tri.call70 Tri.call71 Tri.call72 Tri.call73 Tri.call74 Tri.call75 Tri.call82 Tri.call84 Tri.call85 Tri.call86 Tri.call95 Tri.call101 Tri.call106 Tri.call107 Tri.call116 Tri.call117 Tri.call118 Tri.call119 Tri.call120 Tri.call122 Tri.call123 Tri.call124 Tri.call125 Tri.call126 Tri.call135 Tri.call137 Tri.call143 Tri.call144 Tri.call145 Tri.call146 Tri.call147 Tri.call149 Tri.call150 Tri.call151 Tri.call152 Tri.call156 Tri.call157 Tri.call159 Tri.call160 Tri.call161 Tri.call162 Tri.call163 Tri.call164 Tri.call165 Tri.call166 Tri.call167 Tri.call175 Tri.call176 Tri.call178 Tri.call179 Tri.call180 Tri.call181 Tri.call182 Tri.call183 Tri.call186 Tri.call187 Tri.call188 Tri.call205
theorem near_neg2 (x B : Int) (hB : 0 < B) : -x / B + up (-x / B) (-x % B) B = -(x / B + up (x / B) (x % B) B) ∧ (-x / B = -(x / B) ∨ -x / B = -(x / B) - 1) := by
 have e : x % B + B * (x / B) = x := Int.emod_add_mul_ediv _ _
 have r0 := Int.emod_nonneg x (show B ≠ 0 from by omega)
 have r1 := Int.emod_lt_of_pos x hB
 generalize x / B = q at *
 generalize x % B = r at *
 by_cases h : r = 0
 ·have e1 : -x = B * (-q) := by rw [Int.mul_neg]; omega
  rw [e1, Int.mul_ediv_cancel_left _ (by omega), Int.mul_emod_right, h]
  have u1 : ∀ p : Int, up p 0 B = 0 := by intro p; unfold up; rw [if_neg (by omega)]
  rw [u1, u1]
  omega
 ·have e1 : -x = (B - r) + B * (-q - 1) := by rw [Int.mul_sub, Int.mul_neg]; omega
  have e2 : -x / B = -q - 1 := by rw [e1, Int.add_mul_ediv_left _ _ (by omega), Int.ediv_eq_zero_of_lt (by omega) (by omega)]; omega
  have e3 : -x % B = B - r := by rw [e1, Int.add_mul_emod_self_left, Int.emod_eq_of_lt (by omega) (by omega)]
  rw [e2, e3]
  refine ⟨?_, by omega⟩
  unfold up
  split <;> split <;> omega
theorem near_neg (x B : Int) (hB : 0 < B) : near (-x) B = -near x B := (near_neg2 x B hB).1
def upN (q r B : Nat) : Nat := if B < 2 * r ∨ 2 * r = B ∧ q % 2 = 1 then 1 else 0
theorem near_nat (n B : Nat) (hB : 0 < B) : near (n : Int) (B : Int) = ((n / B + upN (n / B) (n % B) B : Nat) : Int) := by
 unfold near
 rw [← Int.natCast_ediv, ← Int.natCast_emod]
 have hr := Nat.mod_lt n hB
 generalize n / B = q at *
 generalize n % B = r at *
 unfold up upN
 split <;> split <;> omega
theorem ref_near (X : Int) (B : Nat) (hB : 0 < B) (l : Bool) (hl : X ≠ 0 → l = decide (X < 0)) :
  (if l = true then -((X.natAbs / B + upN (X.natAbs / B) (X.natAbs % B) B : Nat) : Int) else ((X.natAbs / B + upN (X.natAbs / B) (X.natAbs % B) B : Nat) : Int)) = near X (B : Int) := by
 rw [← near_nat X.natAbs B hB]
 by_cases h0 : X = 0
 ·subst h0
  show (if l = true then -near (0 : Int) B else near (0 : Int) B) = near 0 B
  rw [near_zero (by omega)]
  split <;> rfl
 ·rw [hl h0]
  by_cases h : X < 0
  ·rw [if_pos (decide_eq_true h), ← near_neg _ _ (by omega)]
   congr 1
   omega
  ·rw [if_neg (by rw [decide_eq_false h]; decide)]
   congr 1
   omega
theorem g_start (v : World) (m : Bool) (g : Nat → Nat) : ∃ V : World, (storeCells ⟨v.heap.size, 0, none⟩ (gv m g).toList).run (Tri Try.prog) (v.alloc (.cells (gv false zb) 201)) = .ok () V ∧ GRow V v.heap.size m g ∧ Below v.heap.size v V ∧ V.heap.size = v.heap.size + 1 := by
 have r := GRow.new v false zb
 have b := (Below.refl v.heap.size v).alloc (Nat.le_refl _) (.cells (gv false zb) 201)
 have hs : (v.alloc (.cells (gv false zb) 201)).heap.size = v.heap.size + 1 := by simp
 generalize v.alloc (.cells (gv false zb) 201) = V at *
 exact ⟨_, store56c m g r, r.put (m := m) g, below_put b (Nat.le_refl _) _, by rw [setRow_size, hs]⟩
theorem two_bits (v : World) (f g : Nat → Nat) : ∃ W6 W7 : World,
  (storeCells ⟨v.heap.size, 0, none⟩ (bv f).toList).run (Tri Try.prog) ((v.alloc (.cells (bv zb) 199)).alloc (.cells (bv zb) 199)) = .ok () W6 ∧
  (storeCells ⟨v.heap.size + 1, 0, none⟩ (bv g).toList).run (Tri Try.prog) W6 = .ok () W7 ∧ Row W7 v.heap.size f ∧ Row W7 (v.heap.size + 1) g ∧ Below v.heap.size v W7 ∧ W7.heap.size = v.heap.size + 1 + 1 := by
 obtain ⟨a, b, c⟩ := rows2 v zb zb
 have hs : ((v.alloc (.cells (bv zb) 199)).alloc (.cells (bv zb) 199)).heap.size = v.heap.size + 1 + 1 := by simp
 generalize (v.alloc (.cells (bv zb) 199)).alloc (.cells (bv zb) 199) = V at *
 refine ⟨_, _, store54c f a, store54c g (b.putOther (by omega) _), ?_, ?_, ?_, ?_⟩
 ·exact (a.put f).putOther (by omega) _
 ·exact (b.putOther (by omega) _).put g
 ·exact below_put (below_put c (by omega) _) (by omega) _
 ·rw [setRow_size, setRow_size, hs]
structure DR (w : World) (n8 n9 : Nat) (wr : World) (l : Bool) (f : Nat → Nat) (lb : Bool) (fb q r : Nat → Nat) : Prop where
 ra : GRow wr w.heap.size l f
 rb : GRow wr n8 lb fb
 rq : Row wr n9 q
 rr : Row wr (n9 + 1) r
 r1 : Row wr (n9 + 1 + 1) (upd zb 0 1)
 l8 : w.heap.size < n8
 l9 : n8 < n9
 below : Below w.heap.size w wr
theorem DR.keep {w wr w2 : World} {n8 n9 : Nat} {l lb : Bool} {f fb q r : Nat → Nat} (t : DR w n8 n9 wr l f lb fb q r) (hb : Below wr.heap.size wr w2) : DR w n8 n9 w2 l f lb fb q r :=
 ⟨t.ra.keep hb t.ra.lt, t.rb.keep hb t.rb.lt, t.rq.keep hb t.rq.lt, t.rr.keep hb t.rr.lt, t.r1.keep hb t.r1.lt, t.l8, t.l9, below_via t.below hb⟩
theorem DR.putq {w wr : World} {n8 n9 : Nat} {l lb : Bool} {f fb q r : Nat → Nat} (t : DR w n8 n9 wr l f lb fb q r) (k : Nat → Nat) : DR w n8 n9 (wr.setRow n9 (bv k)) l f lb fb k r :=
 ⟨t.ra.putOther (by have := t.l8; have := t.l9; omega) _, t.rb.putOther (by have := t.l9; omega) _, t.rq.put k, t.rr.putOther (by omega) _, t.r1.putOther (by omega) _, t.l8, t.l9, below_put t.below (by have := t.l8; have := t.l9; omega) _⟩
theorem yields54 {ops : Array Oper} {S : World → Prop} {op : Oper} {a : Act} {x : Operand} {b : Nat} {f : Nat → Nat} (hS : ∀ w, S w → Row w b f) (hw : Region.wanted op (yielded ops a.tmps) = true) (ho : op.op = .load 199 x) (hx : a.eval x = .pointer (some ⟨b, 0, none⟩)) : YieldsIf (Tri Try.prog) ops S op (.agg (bv f)) a := by
 have := yieldsIf_load_mid (P := (Tri Try.prog)) (S := S) hw 199 x ho b 0 hx (bv f).toList _ (fun w h => (hS w h).range) (Tri.und Try.underlying199) rfl (by rw [show (bv f).toList.length = (bv f).size by simp]; exact size54 f)
 simpa using this
theorem yieldsB {ops : Array Oper} {S : World → Prop} {op : Oper} {a : Act} {x : Operand} {b : Nat} {l : Bool} {f : Nat → Nat} (hS : ∀ w, S w → GRow w b l f) (hw : Region.wanted op (yielded ops a.tmps) = true) (ho : op.op = .load 199 x) (hx : a.eval x = .pointer (some ⟨b, 1, none⟩)) : YieldsIf (Tri Try.prog) ops S op (.agg (bv f)) a := by
 have := yieldsIf_load_mid (P := (Tri Try.prog)) (S := S) hw 199 x ho b 1 hx (bv f).toList _ (fun w h => (hS w h).range) (Tri.und Try.underlying199) rfl (by rw [show (bv f).toList.length = (bv f).size by simp]; exact size54 f)
 simpa using this
theorem fold_bits (m : Bool) (g q : Nat → Nat) : ∀ n, (List.range n).foldl (fun (cs : Array Value) i => cs.setIfInBounds (1 + i) (.int .u8 (q i))) (gv m g) = gv m (fun j => if j < n then q j else g j)
 | 0 => by simp
 | n + 1 => by
  rw [List.range_succ, List.foldl_append, fold_bits m g q n]
  show (gv m (fun j => if j < n then q j else g j)).setIfInBounds (1 + n) (.int .u8 (q n)) = _
  rw [gv_set]
  congr 1
  funext j
  unfold upd
  by_cases e : j = n
  ·subst e; rw [if_pos rfl, if_pos (by omega)]
  ·rw [if_neg e]
   show (if j < n then q j else g j) = _
   by_cases c : j < n
   ·rw [if_pos c, if_pos (by omega)]
   ·rw [if_neg c, if_neg (by omega)]
theorem twice {r h : Nat → Nat} (hP : Plus r r h) (hr : val r 260 < 18446744073709551616) : val h 260 = 2 * val r 260 := by
 obtain ⟨_, c, hc, e⟩ := hP
 have := big260
 have m := P2_mono 259 1
 rcases (show c = 0 ∨ c = 1 by omega) with rfl | rfl
 ·omega
 ·rw [Nat.one_mul] at e
  change P2 259 ≤ P2 260 at m
  have s := small_260
  omega
theorem one_more {q k : Nat → Nat} (hP : Plus q (upd zb 0 1) k) (hq : val q 260 + 1 < P2 260) : val k 260 = val q 260 + 1 := by
 obtain ⟨_, c, hc, e⟩ := hP
 rw [val_lim (by omega)] at e
 change _ = val q 260 + 1 at e
 rcases (show c = 0 ∨ c = 1 by omega) with rfl | rfl
 ·omega
 ·rw [Nat.one_mul] at e
  omega
theorem last_bit {q : Nat → Nat} (hq : Bit q) : q 0 = val q 260 % 2 := by
 have e := val_split q 1 259
 change val q 260 = (0 + q 0 * 1) + 2 * val (fun j => q (1 + j)) 259 at e
 have := hq 0
 omega
theorem gv_congr {m : Bool} {f g : Nat → Nat} (h : ∀ i, i < 260 → f i = g i) : gv m f = gv m g :=
 gv_ext (gv_size _ _) (gv_zero _ _) (fun i hi => by rw [gv_get hi, h i hi])
theorem zip_bits (q : Nat → Nat) : (bv q).zipIdx.toList = (List.range 260).map (fun i => (Value.int .u8 (q i), i)) := by
 rw [Array.toList_zipIdx]
 unfold bv
 apply List.ext_getElem?
 intro i
 rw [List.getElem?_zipIdx, List.getElem?_map]
 by_cases h : i < 260
 ·simp [h]
 ·simp [h]
theorem gv_fold (m : Bool) (q : Nat → Nat) : Array.foldl (fun (cs : Array Value) (x : Value × Nat) => cs.setIfInBounds (1 + x.snd) x.fst) ((gv false zb).setIfInBounds 0 (.bool m)) (bv q).zipIdx 0 260 = gv m q := by
 have hs : (bv q).zipIdx.size = 260 := by simp [bv_size]
 rw [gv_less]
 have e : Array.foldl (fun (cs : Array Value) (x : Value × Nat) => cs.setIfInBounds (1 + x.snd) x.fst) (gv m zb) (bv q).zipIdx 0 260 = (bv q).zipIdx.toList.foldl (fun (cs : Array Value) (x : Value × Nat) => cs.setIfInBounds (1 + x.snd) x.fst) (gv m zb) := by
  rw [← hs, Array.foldl_toList]
 rw [e, zip_bits, List.foldl_map, fold_bits]
 exact gv_congr (fun i hi => if_pos hi)
def Near (l : Bool) (V : Nat) (b : Int) : Int := sgn (!(l == decide (b < 0))) (V / b.natAbs + upN (V / b.natAbs) (V % b.natAbs) b.natAbs)
set_option maxRecDepth 20000 in
theorem rdiv_near (l : Bool) (f : Nat → Nat) (hf : Bit f) (b : Int) (hb : In64 b) (h0 : b ≠ 0) (hV : val f 260 + 1 < P2 260) (w : World) : Calls (Tri Try.prog) 166 #[.agg (gv l f), .int .i64 b, .int .i64 1] w fun e w' => e = .returned (.tuple #[.int .i64 (okN (Near l (val f 260) b)), .int .i64 (okE (Near l (val f 260) b))]) ∧ Below w.heap.size w w' := by
 have hz := zero56
 have hz4 := zero54
 have HF := hide hf
 have HB := hide hb
 have H0 := hide h0
 have t0 : (b == 0) = false := by rw [beq_eq_false_iff_ne]; exact h0
 have HVV := hide hV
 clear hf hb h0 hV
 have ga := hide (GRow.new w l f)
 have B := hide ((Below.refl w.heap.size w).alloc (Nat.le_refl _) (.cells (gv l f) 201))
 go_enter (Tri.at (by decide) Try.func166), Try.ntmps166
 go_wp2_with fail
 refine (rof_any b (uh HB) _).mono ?_
 rintro e w1 ⟨rfl, hb1⟩
 replace ga := hide ((uh ga).keep hb1 (uh ga).lt)
 replace B := hide (below_via (uh B) hb1)
 clear hb1
 go_wp2_with fail
 refine (big_any b (in128_of (uh HB)) _).mono ?_
 rintro e w2 ⟨⟨lb, fb, hD, rfl⟩, hb2⟩
 replace ga := hide ((uh ga).keep hb2 (uh ga).lt)
 replace B := hide (below_via (uh B) hb2)
 replace hD := hide hD
 clear hb2
 have L8 := hide (uh ga).lt
 obtain ⟨W3, s3, gb, bb, hs3⟩ := g_start w2 lb fb
 replace ga := hide ((uh ga).keep bb (uh ga).lt)
 replace B := hide (below_via (uh B) bb)
 replace gb := hide gb
 clear bb
 go_wp2_with fail
 refine wp_loadB (uh ga) rfl rfl ?_
 go_wp2_with fail
 refine wp_loadB (uh gb) rfl rfl ?_
 go_wp2_with fail
 refine (quo_any f fb (uh HF) (uh hD).1 (by rw [(uh hD).2.2]; have := uh H0; omega) (by rw [(uh hD).2.2]; have := (uh HB).lo; have := (uh HB).hi; omega) _).mono ?_
 rintro e w4 ⟨⟨q, r, hQ, rfl⟩, hb4⟩
 have L9 : w2.heap.size < w4.heap.size := Nat.lt_of_lt_of_le (by rw [hs3]; omega) hb4.size
 replace ga := hide ((uh ga).keep hb4 (uh ga).lt)
 replace gb := hide ((uh gb).keep hb4 (uh gb).lt)
 replace B := hide (below_via (uh B) hb4)
 replace hQ := hide hQ
 clear hb4 s3 hs3
 obtain ⟨W6, W7, s6, s7, rq, rr, b7, hs7⟩ := two_bits w4 q r
 replace ga := hide ((uh ga).keep b7 (uh ga).lt)
 replace gb := hide ((uh gb).keep b7 (uh gb).lt)
 replace B := hide (below_via (uh B) b7)
 clear b7
 obtain ⟨W8, s8, r1, b8, hs8⟩ := bits_start W7 (upd zb 0 1)
 rw [← bv_tl1, hs7] at s8
 rw [hs7] at r1
 have ca := (uh ga).less
 have cb := (uh gb).less
 have HD := hide (show DR w w2.heap.size w4.heap.size W8 l f lb fb q r from ⟨(uh ga).keep b8 (uh ga).lt, (uh gb).keep b8 (uh gb).lt, rq.keep b8 rq.lt, rr.keep b8 rr.lt, r1, uh L8, L9, below_via (uh B) b8⟩)
 clear ga gb B b8 rq rr r1 L8 L9 hs8
 have gs := bv_size zb
 go_wp2_with fail
 clear s6 s7 s8 ca cb gs hs7
 refine wp_region_held_drew (S := fun W => DR w w2.heap.size w4.heap.size W l f lb fb q r) (by kernel_rfl) ((uh HD).keep (below_drew (Below.refl _ _))) (fun hS => ?_)
 refine wpAnyH_take (i := 0) (v := .agg (bv r)) rfl (by kernel_rfl) (by kernel_rfl) (by kernel_rfl) (fun _ _ _ h => h) (yields54 (fun _ h => h.rr) (by rfl) rfl rfl) hS ?_
 refine wpAnyH_take (i := 1) (v := .agg (bv r)) rfl (by kernel_rfl) (by kernel_rfl) (by kernel_rfl) (fun _ _ _ h => h) (yields54 (fun _ h => h.rr) (by rfl) rfl rfl) hS ?_
 refine wpAnyH_take (i := 3) (v := .pointer (some ⟨w2.heap.size, 1, none⟩)) rfl (by kernel_rfl) (by kernel_rfl) (by kernel_rfl) (fun _ _ _ h => h) (Or.inl ⟨by rfl, fun W _ => by go_simp⟩) hS ?_
 refine wpAnyH_take (i := 4) (v := .agg (bv fb)) rfl (by kernel_rfl) (by kernel_rfl) (by kernel_rfl) (fun _ _ _ h => h) (yieldsB (fun _ h => h.rb) (by rfl) rfl rfl) hS ?_
 refine wpAnyH_all (rs := [2]) (by kernel_rfl) (by simp) (AllReadyH.cons (i := 2) rfl (fun K' hK => ?_) AllReadyH.nil)
 rw [if_pos (by rfl)]
 go_wp2_with fail
 refine (plus_any r r (uh hQ).2.1 (uh hQ).2.1 _).mono ?_
 rintro e w9 ⟨⟨h, hP, rfl⟩, hb9⟩
 have hS9 := hide (hS.keep hb9)
 replace hP := hide hP
 clear hb9 hS
 go_wp2_with fail
 refine hK.out _ _ (uh hS9) (fun hS2 => ?_)
 clear hK hS9
 refine wpAnyH_all (rs := [5]) (by kernel_rfl) (by simp) (AllReadyH.cons (i := 5) rfl (fun K2 hK2 => ?_) AllReadyH.nil)
 rw [if_pos (by rfl)]
 replace hS2 := hide hS2
 go_wp2_with fail
 refine (size_any h fb (uh hP).1 (uh hD).1 _).mono ?_
 rintro e w10 ⟨rfl, hb10⟩
 have hS10 := hide ((uh hS2).keep hb10)
 clear hb10 hS2
 go_wp2_with fail
 refine hK2.out _ _ (uh hS10) (fun hS3 => ?_)
 clear hK2 hS10
 refine wpAnyH_all (rs := [6]) (by kernel_rfl) (by simp) (AllReadyH.cons (i := 6) rfl (fun K3 hK3 => ?_) AllReadyH.nil)
 rw [if_pos (by rfl)]
 replace hS3 := hide hS3
 go_wp2_with fail
 refine hK3.out _ _ (uh hS3) (fun hS4 => ?_)
 clear hK3 hS3
 refine wpAnyH_done (by kernel_rfl) ?_ _
 replace hS4 := hide hS4
 have cq := (uh hS4).rq.cell (i := 0) (by omega)
 have hDv := (uh hD).2.2
 have hb64 : b.natAbs ≤ 9223372036854775808 := by have := (uh HB).lo; have := (uh HB).hi; omega
 have hb0 : 0 < b.natAbs := by have := uh H0; omega
 have eq := (uh hQ).2.2.1
 have er := (uh hQ).2.2.2
 rw [hDv] at eq er
 have hrl : val r 260 < b.natAbs := by rw [er]; exact Nat.mod_lt _ hb0
 have hh := twice (uh hP) (by omega)
 have hlb := last_bit (uh hQ).1
 have HQ1 := hide (show val q 260 + 1 < P2 260 by have := uh HVV; have := Nat.div_le_self (val f 260) b.natAbs; omega)
 have HN := hide (fun (u : Nat) (hu : upN (val q 260) (val r 260) b.natAbs = u) (k : Nat → Nat) (hk : val k 260 = val q 260 + u) => show sgn (!(l == lb)) (val k 260) = Near l (val f 260) b by
  unfold Near
  rw [hk, (uh hD).2.1, ← eq, ← er, hu])
 rw [hDv, hh]
 generalize hVr : val r 260 = R at *
 generalize hVb : b.natAbs = Bn at *
 generalize hVq : val q 260 = Qn at *
 have HVq := hide hVq
 clear eq er hDv hh hVr hVq hVb hP
 replace hb64 := hide hb64
 by_cases hc : Bn < 2 * R
 ·rw [ord_gt (by omega)]
  have hu : upN Qn R Bn = 1 := by unfold upN; rw [if_pos (Or.inl hc)]
  replace HN := hide (uh HN 1 hu)
  clear hc hu
  go_wp2_with fail
  refine wp_load54 (uh hS4).rq rfl rfl ?_
  go_wp2_with fail
  refine wp_load54 (uh hS4).r1 rfl rfl ?_
  go_wp2_with fail
  refine (plus_any q (upd zb 0 1) (uh hQ).1 (lim_bit 0) _).mono ?_
  rintro e w11 ⟨⟨q2, hP2, rfl⟩, hb11⟩
  have hS5 := (uh hS4).keep hb11
  have hst := store54c q2 hS5.rq
  have hS6 := hide (hS5.putq q2)
  replace hP2 := hide hP2
  clear hb11 hS5 hS4 cq
  generalize w11.setRow w4.heap.size (bv q2) = W12 at *
  go_wp2_with fail
  refine wp_load54 (uh hS6).rq rfl rfl ?_
  go_wp2_with fail
  rw [gv_fold]
  refine (small_any (!(l == lb)) q2 (uh hP2).1 _).mono ?_
  rintro e w13 ⟨rfl, hb13⟩
  have B13 := hide (below_via (uh hS6).below hb13)
  clear hb13
  rw [show sgn (!(l == lb)) (val q2 260) = Near l (val f 260) b from uh HN q2 (by have h1 := one_more (uh hP2) (by rw [uh HVq]; exact uh HQ1); have h2 := uh HVq; omega)]
  obtain ⟨z, hz⟩ : ∃ z, z = Near l (val f 260) b := ⟨_, rfl⟩
  rw [← hz]
  replace hz := hide hz
  by_cases tz : turn z = 0
  ·rw [okN_in tz, decide_eq_true tz]
   have e1 := hide (okN_in tz)
   have e2 := hide (okE_in tz)
   clear tz
   go_wp2_with fail
   go_ret2
   exact ⟨by rw [← uh hz, uh e1, uh e2]; rfl, uh B13⟩
  ·rw [okN_out tz, decide_eq_false tz]
   have e1 := hide (okN_out tz)
   have e2 := hide (okE_out tz)
   clear tz
   go_wp2_with fail
   go_ret2
   exact ⟨by rw [← uh hz, uh e1, uh e2]; rfl, uh B13⟩
 ·by_cases hc2 : 2 * R = Bn
  ·rw [show ((2 * R : Nat) : Int) = (Bn : Int) by omega, ord_same]
   have hq0 := (uh hQ).1 0
   rcases (show q 0 = 0 ∨ q 0 = 1 by omega) with e0 | e0
   ·have hu : upN Qn R Bn = 0 := by unfold upN; rw [if_neg (by omega)]
    replace HN := hide (uh HN 0 hu)
    rw [e0] at cq
    clear hc hc2 hu hq0 e0 hlb hrl
    go_wp2_with fail
    refine wp_load54 (uh hS4).rq rfl rfl ?_
    go_wp2_with fail
    rw [gv_fold]
    refine (small_any (!(l == lb)) q (uh hQ).1 _).mono ?_
    rintro e w13 ⟨rfl, hb13⟩
    have B13 := hide (below_via (uh hS4).below hb13)
    clear hb13
    rw [show sgn (!(l == lb)) (val q 260) = Near l (val f 260) b from uh HN q ((uh HVq).trans (Nat.add_zero _).symm)]
    obtain ⟨z, hz⟩ : ∃ z, z = Near l (val f 260) b := ⟨_, rfl⟩
    rw [← hz]
    replace hz := hide hz
    by_cases tz : turn z = 0
    ·rw [okN_in tz, decide_eq_true tz]
     have e1 := hide (okN_in tz)
     have e2 := hide (okE_in tz)
     clear tz
     go_wp2_with fail
     go_ret2
     exact ⟨by rw [← uh hz, uh e1, uh e2]; rfl, uh B13⟩
    ·rw [okN_out tz, decide_eq_false tz]
     have e1 := hide (okN_out tz)
     have e2 := hide (okE_out tz)
     clear tz
     go_wp2_with fail
     go_ret2
     exact ⟨by rw [← uh hz, uh e1, uh e2]; rfl, uh B13⟩
   ·have hu : upN Qn R Bn = 1 := by unfold upN; rw [if_pos (Or.inr ⟨hc2, by omega⟩)]
    replace HN := hide (uh HN 1 hu)
    rw [e0] at cq
    clear hc hc2 hu hq0 e0 hlb hrl
    go_wp2_with fail
    refine wp_load54 (uh hS4).rq rfl rfl ?_
    go_wp2_with fail
    refine wp_load54 (uh hS4).r1 rfl rfl ?_
    go_wp2_with fail
    refine (plus_any q (upd zb 0 1) (uh hQ).1 (lim_bit 0) _).mono ?_
    rintro e w11 ⟨⟨q2, hP2, rfl⟩, hb11⟩
    have hS5 := (uh hS4).keep hb11
    have hst := store54c q2 hS5.rq
    have hS6 := hide (hS5.putq q2)
    replace hP2 := hide hP2
    clear hb11 hS5 hS4 cq
    generalize w11.setRow w4.heap.size (bv q2) = W12 at *
    go_wp2_with fail
    refine wp_load54 (uh hS6).rq rfl rfl ?_
    go_wp2_with fail
    rw [gv_fold]
    refine (small_any (!(l == lb)) q2 (uh hP2).1 _).mono ?_
    rintro e w13 ⟨rfl, hb13⟩
    have B13 := hide (below_via (uh hS6).below hb13)
    clear hb13
    rw [show sgn (!(l == lb)) (val q2 260) = Near l (val f 260) b from uh HN q2 (by have h1 := one_more (uh hP2) (by rw [uh HVq]; exact uh HQ1); have h2 := uh HVq; omega)]
    obtain ⟨z, hz⟩ : ∃ z, z = Near l (val f 260) b := ⟨_, rfl⟩
    rw [← hz]
    replace hz := hide hz
    by_cases tz : turn z = 0
    ·rw [okN_in tz, decide_eq_true tz]
     have e1 := hide (okN_in tz)
     have e2 := hide (okE_in tz)
     clear tz
     go_wp2_with fail
     go_ret2
     exact ⟨by rw [← uh hz, uh e1, uh e2]; rfl, uh B13⟩
    ·rw [okN_out tz, decide_eq_false tz]
     have e1 := hide (okN_out tz)
     have e2 := hide (okE_out tz)
     clear tz
     go_wp2_with fail
     go_ret2
     exact ⟨by rw [← uh hz, uh e1, uh e2]; rfl, uh B13⟩
  ·rw [ord_lt (by omega)]
   have hu : upN Qn R Bn = 0 := by unfold upN; rw [if_neg (by omega)]
   replace HN := hide (uh HN 0 hu)
   clear hc hc2 hu hlb hrl
   go_wp2_with fail
   refine wp_load54 (uh hS4).rq rfl rfl ?_
   go_wp2_with fail
   rw [gv_fold]
   refine (small_any (!(l == lb)) q (uh hQ).1 _).mono ?_
   rintro e w13 ⟨rfl, hb13⟩
   have B13 := hide (below_via (uh hS4).below hb13)
   clear hb13
   rw [show sgn (!(l == lb)) (val q 260) = Near l (val f 260) b from uh HN q ((uh HVq).trans (Nat.add_zero _).symm)]
   obtain ⟨z, hz⟩ : ∃ z, z = Near l (val f 260) b := ⟨_, rfl⟩
   rw [← hz]
   replace hz := hide hz
   by_cases tz : turn z = 0
   ·rw [okN_in tz, decide_eq_true tz]
    have e1 := hide (okN_in tz)
    have e2 := hide (okE_in tz)
    clear tz
    go_wp2_with fail
    go_ret2
    exact ⟨by rw [← uh hz, uh e1, uh e2]; rfl, uh B13⟩
   ·rw [okN_out tz, decide_eq_false tz]
    have e1 := hide (okN_out tz)
    have e2 := hide (okE_out tz)
    clear tz
    go_wp2_with fail
    go_ret2
    exact ⟨by rw [← uh hz, uh e1, uh e2]; rfl, uh B13⟩
theorem sign_mul {a b : Int} (h : a * b ≠ 0) : (decide (a < 0) != decide (b < 0)) = decide (a * b < 0) := by
 have ha : a ≠ 0 := fun c => h (by rw [c, Int.zero_mul])
 have hb : b ≠ 0 := fun c => h (by rw [c, Int.mul_zero])
 by_cases a0 : a < 0
 ·by_cases b0 : b < 0
  ·have := Int.mul_pos_of_neg_of_neg a0 b0
   rw [decide_eq_true a0, decide_eq_true b0, decide_eq_false (by omega)]; rfl
  ·have := Int.mul_neg_of_neg_of_pos a0 (show 0 < b by omega)
   rw [decide_eq_true a0, decide_eq_false b0, decide_eq_true this]; rfl
 ·by_cases b0 : b < 0
  ·have := Int.mul_neg_of_pos_of_neg (show 0 < a by omega) b0
   rw [decide_eq_false a0, decide_eq_true b0, decide_eq_true this]; rfl
  ·have := Int.mul_pos (show 0 < a by omega) (show 0 < b by omega)
   rw [decide_eq_false a0, decide_eq_false b0, decide_eq_false (by omega)]; rfl
theorem near_times {a b c : Int} {l : Bool} {f : Nat → Nat} (h : Times a b l f) (hc : 0 < c) : Near l (val f 260) c = near (a * b) c := by
 obtain ⟨-, hl, hv⟩ := h
 unfold Near
 rw [hv, ← Int.natAbs_mul, decide_eq_false (show ¬ c < 0 by omega)]
 have e : ((c.natAbs : Nat) : Int) = c := by omega
 have r := ref_near (a * b) c.natAbs (by omega) l (fun h0 => by rw [hl]; exact sign_mul h0)
 rw [e] at r
 rw [← r]
 unfold sgn
 cases l <;> rfl
theorem times_small {a b : Int} (ha : In64 a) (hb : In64 b) : a.natAbs * b.natAbs + 1 < P2 260 := by
 have h1 : a.natAbs ≤ 9223372036854775808 := by have := ha.lo; have := ha.hi; omega
 have h2 : b.natAbs ≤ 9223372036854775808 := by have := hb.lo; have := hb.hi; omega
 have h3 := Nat.mul_le_mul h1 h2
 have h4 : (9223372036854775808 : Nat) * 9223372036854775808 = 85070591730234615865843651857942052864 := by decide
 rw [h4] at h3
 have h5 := small_260
 omega
theorem rmd (a b c : Int) (ha : In64 a) (hb : In64 b) (hc : In64 c) (h0 : 0 < c) (w : World) : Calls (Tri Try.prog) 152 #[.int .i64 a, .int .i64 b, .int .i64 c, .int .i64 1] w fun e w' => e = .returned (.tuple #[.int .i64 (okN (near (a * b) c)), .int .i64 (okE (near (a * b) c))]) ∧ Below w.heap.size w w' := by
 have ht := hide (times_any a b ha hb)
 have hd := hide (fun (l : Bool) (f : Nat → Nat) (h : Times a b l f) => rdiv_near l f h.1 c hc (by omega) (by rw [h.2.2]; exact times_small ha hb))
 have hn := hide (fun (l : Bool) (f : Nat → Nat) (h : Times a b l f) => near_times (c := c) h h0)
 go_enter (Tri.at (by decide) Try.func152), Try.ntmps152
 go_wp2_with fail
 refine (uh ht _).mono ?_
 rintro e w1 ⟨⟨l, f, hT, rfl⟩, hb1⟩
 have hd2 := uh hd l f hT
 rw [uh hn l f hT] at hd2
 replace hd2 := hide hd2
 replace hb1 := hide hb1
 replace hT := hide hT
 clear hd hn ht
 go_wp2_with fail
 refine (uh hd2 _).mono ?_
 rintro e w2 ⟨rfl, hb2⟩
 replace hb2 := hide (below_via (uh hb1) hb2)
 go_wp2_with fail
 go_ret2
 exact ⟨rfl, uh hb2⟩
theorem rmay_any (r : Int) (w : World) : Calls (Tri Try.prog) 53 #[.int .i64 r] w fun e w' => e = .returned (.bool (mayB r)) ∧ w = w' := by
 by_cases h1 : -990000000000 ≤ r
 ·by_cases h2 : r ≤ 10000000000000
  ·rw [mayB_yes (show May r from ⟨h1, h2⟩)]
   have d1 : decide (-990000000000 ≤ r) = true := decide_eq_true h1
   have d2 : decide (r ≤ 10000000000000) = true := decide_eq_true h2
   go_enter (Tri.at (by decide) Try.func53), Try.ntmps53
   go_wp2_with fail
   go_ret
   exact ⟨rfl, rfl⟩
  ·rw [mayB_no (show ¬ May r from fun h => h2 h.2)]
   have d1 : decide (-990000000000 ≤ r) = true := decide_eq_true h1
   have d2 : decide (r ≤ 10000000000000) = false := decide_eq_false h2
   go_enter (Tri.at (by decide) Try.func53), Try.ntmps53
   go_wp2_with fail
   go_ret
   exact ⟨rfl, rfl⟩
 ·rw [mayB_no (show ¬ May r from fun h => h1 h.1)]
  have d1 : decide (-990000000000 ≤ r) = false := decide_eq_false h1
  go_enter (Tri.at (by decide) Try.func53), Try.ntmps53
  go_wp2_with fail
  go_ret
  exact ⟨rfl, rfl⟩
theorem rmay_yes {r : Int} (h : May r) (w : World) : Calls (Tri Try.prog) 53 #[.int .i64 r] w fun e w' => e = .returned (.bool true) ∧ w = w' := by
 have := rmay_any r w
 rwa [mayB_yes h] at this
def Nears (r a b c n e : Int) : Prop := ∀ w : World, Calls (Tri Try.prog) 137 #[.int .i64 r, .int .i64 a, .int .i64 b, .int .i64 c] w fun z w' => z = .returned (.tuple #[.int .i64 n, .int .i64 e]) ∧ Below w.heap.size w w'
theorem near_yes (r a b c : Int) (h : May r) (ha : In64 a) (hb : In64 b) (hc : In64 c) (h0 : 0 < c) : Nears r a b c (okN (near (a * b) c)) (okE (near (a * b) c)) := by
 intro w
 have hm := hide (rmay_yes h)
 have hd := hide (rmd a b c ha hb hc h0)
 obtain ⟨n, hn⟩ : ∃ n, n = okN (near (a * b) c) := ⟨_, rfl⟩
 obtain ⟨f, hf⟩ : ∃ f, f = okE (near (a * b) c) := ⟨_, rfl⟩
 rw [← hn, ← hf] at hd ⊢
 clear hn hf
 go_enter (Tri.at (by decide) Try.func137), Try.ntmps137
 go_wp2_with fail
 refine (uh hm _).mono ?_
 rintro e w1 ⟨rfl, rfl⟩
 go_wp2_with fail
 refine (uh hd _).mono ?_
 rintro e w2 ⟨rfl, hb2⟩
 replace hb2 := hide hb2
 go_wp2_with fail
 go_ret2
 exact ⟨rfl, uh hb2⟩
theorem rdisc_of {x r n e : Int} (hM : May r) (h : Nears r x 1000000000000 (1000000000000 + r) n e) : Ans 151 x r n e := by
 intro w
 have hm := hide (rmay_yes hM)
 have m1 := hM.1
 have m2 := hM.2
 clear hM
 replace h := hide h
 go_enter (Tri.at (by decide) Try.func151), Try.ntmps151
 go_wp2_with fail
 refine (uh hm _).mono ?_
 rintro e w1 ⟨rfl, rfl⟩
 go_wp2_with fail
 refine (uh h _).mono ?_
 rintro e w2 ⟨rfl, hb2⟩
 replace hb2 := hide hb2
 go_wp2_with fail
 go_ret2
 exact ⟨rfl, uh hb2⟩
theorem unit_in {r : Int} (h : May r) : In64 (1000000000000 + r) := by have := h.1; have := h.2; exact ⟨by omega, by omega⟩
theorem rdisc_ok {x r : Int} (hx : In64 x) (h : May r) : Ans 151 x r (okN (qD x r)) (okE (qD x r)) := rdisc_of h (near_yes r x _ _ h hx ⟨by omega, by omega⟩ (unit_in h) (by have := h.1; omega))
end Go.Proofs.Ytpeoabopeihadaa
