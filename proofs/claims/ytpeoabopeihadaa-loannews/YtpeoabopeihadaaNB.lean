/- Rows of 260 bits: what they are as numbers, and where they lie. -/
import Derived.Test.YtpeoabopeihadaaNQI
import Derived.Test.YtpeoabopeihadaaNTri
import Derived.Deep.OwnRows
import Derived.Deep.WholeRow
import Derived.Deep.RegionHeld
import Derived.Deep.MidRow
set_option linter.unusedVariables false
set_option linter.unusedSimpArgs false
set_option linter.unusedSectionVars false
set_option maxHeartbeats 4000000
namespace Go.Proofs.Ytpeoabopeihadaa
open Go.RowKit
attribute [local simp] Tri.typeInfo Tri.sizeOf Tri.underlying Tri.runUnderlying Tri.isAgg Tri.zeroValue Tri.depth Tri.stoodInHeld Tri.eqGuardType Tri.call15 Tri.call16 Tri.call26 Tri.call27 Tri.call28 Tri.call29 Tri.call30 Tri.call31 Tri.call46 Tri.call49 Tri.call50 Tri.call51 Tri.call52 Tri.call53 Tri.call54 Tri.call65 Tri.call66 Tri.call68 Tri.call69 Tri.call70 Tri.call71 Tri.call72 Tri.call73 Tri.call74 Tri.call75 Tri.call82 Tri.call84 Tri.call85 Tri.call86 Tri.call95 Tri.call101 Tri.call106 Tri.call107 Tri.call116 Tri.call117 Tri.call118 Tri.call119 Tri.call120 Tri.call122 Tri.call123 Tri.call124 Tri.call125 Tri.call126 Tri.call135 Tri.call137 Tri.call143 Tri.call144 Tri.call145 Tri.call146 Tri.call147 Tri.call149 Tri.call150 Tri.call151 Tri.call152 Tri.call156 Tri.call157 Tri.call159 Tri.call160 Tri.call161 Tri.call162 Tri.call163 Tri.call164 Tri.call165 Tri.call166 Tri.call167 Tri.call175 Tri.call176 Tri.call178 Tri.call179 Tri.call180 Tri.call181 Tri.call182 Tri.call183 Tri.call186 Tri.call187 Tri.call188 Tri.call205
def bv (f : Nat → Nat) : Array Value := ((List.range 260).map fun i => Value.int .u8 (f i)).toArray
theorem bv_size (f : Nat → Nat) : (bv f).size = 260 := by simp [bv]
theorem bv_get {f : Nat → Nat} {i : Nat} (h : i < 260) : (bv f)[i]? = some (.int .u8 (f i)) := by simp [bv, h]
theorem bv_all (f : Nat → Nat) : (bv f).all (·.oneCell') = true := by
 rw [Array.all_eq_true]
 intro i h
 rw [bv_size] at h
 have := bv_get (f := f) h
 rw [Array.getElem?_eq_getElem (by rw [bv_size]; exact h)] at this
 rw [Option.some.inj this]
 rfl
def upd (f : Nat → Nat) (k v : Nat) : Nat → Nat := fun j => if j = k then v else f j
theorem bv_set {f : Nat → Nat} {k v : Nat} : (bv f).setIfInBounds k (.int .u8 v) = bv (upd f k v) := by
 apply Array.ext_getElem?
 intro j
 by_cases hj : j < 260
 ·rw [bv_get hj, Array.getElem?_setIfInBounds, bv_size]
  unfold upd
  by_cases e : k = j
  ·subst e; simp [hj]
  ·rw [if_neg e, if_neg (fun h => e h.symm), bv_get hj]
 ·rw [Array.getElem?_eq_none (by simp [bv_size]; omega), Array.getElem?_eq_none (by rw [bv_size]; omega)]
def Row (w : World) (b : Nat) (f : Nat → Nat) : Prop := w.heap[b]? = some (.cells (bv f) 199 (0, 0))
theorem Row.cell {w : World} {b : Nat} {f : Nat → Nat} (h : Row w b f) {i : Nat} (hi : i < 260) : w.cell? ⟨b, i, none⟩ = some (.int .u8 (f i)) := by
 rw [cell_of_row w b i _ _ _ h]; exact bv_get hi
theorem Row.frozen {w : World} {b : Nat} {f : Nat → Nat} (h : Row w b f) (i : Nat) : w.frozen? ⟨b, i, none⟩ = false := frozen_of_row w b i _ _ h
theorem Row.lt {w : World} {b : Nat} {f : Nat → Nat} (h : Row w b f) : b < w.heap.size := (Array.getElem?_eq_some_iff.1 h).1
theorem Row.set {w : World} {b : Nat} {f : Nat → Nat} (h : Row w b f) (k v : Nat) : Row (w.setCell ⟨b, k, none⟩ (.int .u8 v)) b (upd f k v) := by
 unfold Row
 rw [Go.heap_setCell_same w b k _ _ _ h, bv_set]
theorem Row.other {w : World} {b : Nat} {f : Nat → Nat} (h : Row w b f) {a : Addr} (ha : b ≠ a.block) (v : Value) : Row (w.setCell a v) b f := (heap_setCell_other w a b v ha).trans h
theorem Row.alloc {w : World} {b : Nat} {f : Nat → Nat} (h : Row w b f) (o : Obj) : Row (w.alloc o) b f := (Below.heap_alloc w o b h.lt).trans h
theorem Row.drew {w : World} {b : Nat} {f : Nat → Nat} (h : Row w b f) : Row w.drew b f := h
theorem Row.keep {w w' : World} {B b : Nat} {f : Nat → Nat} (h : Row w b f) (hb : Below B w w') (hB : b < B) : Row w' b f := (hb.block b hB).trans h
theorem Row.new (w : World) (f : Nat → Nat) : Row (w.alloc (.cells (bv f) 199)) w.heap.size f := heap_alloc_new w _
def P2 : Nat → Nat
 | 0 => 1
 | n + 1 => P2 n * 2
theorem P2_zero : P2 0 = 1 := rfl
theorem P2_succ (n : Nat) : P2 (n + 1) = P2 n * 2 := rfl
theorem P2_mono (n : Nat) : ∀ m, P2 n ≤ P2 (n + m)
 | 0 => Nat.le_refl _
 | m + 1 => by
  have := P2_mono n m
  show P2 n ≤ P2 (n + m) * 2
  omega
def val (f : Nat → Nat) : Nat → Nat
 | 0 => 0
 | n + 1 => val f n + f n * P2 n
def Bit (f : Nat → Nat) : Prop := ∀ i, f i ≤ 1
theorem val_congr {f g : Nat → Nat} : ∀ {n : Nat}, (∀ i, i < n → f i = g i) → val f n = val g n
 | 0, _ => rfl
 | n + 1, h => by
  show val f n + f n * P2 n = val g n + g n * P2 n
  rw [val_congr (n := n) (fun i hi => h i (by omega)), h n (by omega)]
theorem val_lt {f : Nat → Nat} (hf : Bit f) : ∀ n, val f n < P2 n
 | 0 => by show 0 < 1; omega
 | n + 1 => by
  have h1 := val_lt hf n
  have h2 := hf n
  show val f n + f n * P2 n < P2 (n + 1)
  rw [P2_succ]
  rcases Nat.lt_or_ge (f n) 1 with h | h
  ·rw [show f n = 0 by omega]; omega
  ·rw [show f n = 1 by omega]; omega
theorem val_top {f g : Nat → Nat} : ∀ {k m : Nat}, (∀ j, k ≤ j → j < k + m → f j = g j) → ∃ t, val f (k + m) = val f k + t ∧ val g (k + m) = val g k + t
 | k, 0, _ => ⟨0, rfl, rfl⟩
 | k, m + 1, h => by
  obtain ⟨t, h1, h2⟩ := val_top (k := k) (m := m) (fun j a b => h j a (by omega))
  refine ⟨t + f (k + m) * P2 (k + m), ?_, ?_⟩
  ·show val f (k + m) + f (k + m) * P2 (k + m) = _
   omega
  ·show val g (k + m) + g (k + m) * P2 (k + m) = _
   rw [h (k + m) (by omega) (by omega)]
   omega
theorem val_less {f g : Nat → Nat} (hf : Bit f) (hg : Bit g) {k : Nat} (hk : k < 260) (h : ∀ j, k < j → j < 260 → f j = g j) (hl : f k < g k) : val f 260 < val g 260 := by
 obtain ⟨t, h1, h2⟩ := val_top (k := k + 1) (m := 260 - (k + 1)) (fun j a b => h j (by omega) (by omega))
 rw [show k + 1 + (260 - (k + 1)) = 260 by omega] at h1 h2
 rw [h1, h2]
 have a := val_lt hf k
 have b := hg k
 show val f k + f k * P2 k + t < val g k + g k * P2 k + t
 rw [show f k = 0 by omega, show g k = 1 by omega]
 omega
def ord (x y : Int) : Int := if x < y then -1 else if y < x then 1 else 0
theorem ord_lt {x y : Int} (h : x < y) : ord x y = -1 := if_pos h
theorem ord_gt {x y : Int} (h : y < x) : ord x y = 1 := by unfold ord; rw [if_neg (by omega), if_pos h]
theorem ord_same (x : Int) : ord x x = 0 := by unfold ord; rw [if_neg (by omega), if_neg (by omega)]
theorem size_any (f g : Nat → Nat) (hf : Bit f) (hg : Bit g) (w : World) : Calls (Tri Try.prog) 181 #[.agg (bv f), .agg (bv g)] w fun e w' => e = .returned (.int .i64 (ord (val f 260) (val g 260))) ∧ Below w.heap.size w w' := by
 have Hf := hide hf
 have Hg := hide hg
 clear hf hg
 go_enter (Tri.at (by decide) Try.func181), Try.ntmps181
 go_wp2_with fail
 go_loopw [5] (fun i wr => ∃ (k : Nat) (z : Int), k ≤ 260 ∧ Hid (z = (k : Int) - 1) ∧ i = .int .i64 z ∧ Hid (∀ j, k ≤ j → j < 260 → f j = g j) ∧ Hid (Row wr w.heap.size f) ∧ Hid (Row wr (w.heap.size + 1) g) ∧ Hid (Below w.heap.size w wr)) (fun i _ => (intOf i + 1).toNat)
 case atStart =>
  refine ⟨260, 259, by omega, hide (by omega), rfl, hide (fun j a b => by omega), hide ((Row.new w f).alloc _), hide ?_, hide (((Below.refl _ _).alloc (Nat.le_refl _) _).alloc (by simp) _)⟩
  have := Row.new (w.alloc (.cells (bv f) 199)) g
  simpa using this
 case round =>
  obtain ⟨k, z, hk, HZ, rfl, HE, HR, HS, HB⟩ := hrel
  rcases k with _ | m
  ·obtain rfl : z = -1 := by have := uh HZ; omega
   have he : val f 260 = val g 260 := val_congr (fun i hi => uh HE i (by omega) hi)
   go_wp2_with fail
   rw [he, ord_same]
   go_ret
   exact ⟨rfl, uh HB⟩
  ·obtain rfl : z = (m : Int) := by have := uh HZ; omega
   have c1 := (uh HR).cell (i := m) (by omega)
   have c2 := (uh HS).cell (i := m) (by omega)
   have hm : m < 260 := by omega
   have hfm := uh Hf m
   have hgm := uh Hg m
   have HL := hide (fun h => val_less (uh Hf) (uh Hg) (k := m) hm (fun j a b => uh HE j a b) h)
   have HG := hide (fun h => val_less (uh Hg) (uh Hf) (k := m) hm (fun j a b => (uh HE j a b).symm) h)
   have HN := hide (fun (h : f m = g m) j (a : m ≤ j) (b : j < 260) => if e : j = m then (show f j = g j by rw [e]; exact h) else uh HE j (by omega) b)
   generalize f m = x at *
   generalize g m = y at *
   by_cases hxy : x = y
   ·subst hxy
    go_wp2_with fail
    go_region
    go_wp2_with fail
    go_roundw
    case rel => exact ⟨m, (m : Int) - 1, by omega, hide rfl, by go_num, hide (uh HN trivial), HR, HS, hide (below_drew (uh HB))⟩
    case measure => simp [intOf]
   ·have t1 : ((x : Int) != (y : Int)) = true := by rw [bne_iff_ne]; omega
    by_cases hlt : x < y
    ·have t2 : decide ((x : Int) < (y : Int)) = true := decide_eq_true (by omega)
     have hv := uh HL hlt
     go_wp2_with fail
     go_region
     go_wp2_with fail
     go_region
     go_wp2_with fail
     rw [ord_lt (by omega)]
     go_ret
     exact ⟨rfl, below_drew (below_drew (uh HB))⟩
    ·have t2 : decide ((x : Int) < (y : Int)) = false := decide_eq_false (by omega)
     have hv := uh HG (by omega)
     go_wp2_with fail
     go_region
     go_wp2_with fail
     go_region
     go_wp2_with fail
     rw [ord_gt (by omega)]
     go_ret
     exact ⟨rfl, below_drew (below_drew (uh HB))⟩
def zb : Nat → Nat := fun _ => 0
theorem info199 : ((Tri Try.prog).info? 199).map (fun i => (i.zero, i.size)) = some (some (.agg (bv zb)), 260) := by kernel_rfl
theorem zero54 (w : World) : (zeroValue 199).run (Tri Try.prog) w = .ok (.agg (bv zb)) w := (zero_of_info info199).1 w
theorem size54 (f : Nat → Nat) : ((Tri Try.prog).info? 199).map (·.size) = some (bv f).size := by rw [bv_size]; exact (zero_of_info info199).2
theorem store54c {w : World} {b : Nat} {f : Nat → Nat} (g : Nat → Nat) (h : Row w b f) : (storeCells ⟨b, 0, none⟩ (bv g).toList).run (Tri Try.prog) w = .ok () (w.setRow b (bv g)) := by
 have := run_storeVar_row (P := (Tri Try.prog)) w b 199 199 (bv f) (bv g) h (size54 g) (by rw [bv_size, bv_size]) (bv_all g)
 have hi := size54 g
 cases hq : (Tri Try.prog).info? 199 with
 | none => simp [hq] at hi
 | some i =>
  have hs : (bv g).size = i.size := by simp [hq] at hi; omega
  simpa [storeVar, sizeOf, typeInfo, hq, Value.cells, hs] using this
theorem Row.put {w : World} {b : Nat} {f : Nat → Nat} (h : Row w b f) (g : Nat → Nat) : Row (w.setRow b (bv g)) b g := by
 unfold Row at *
 simp [World.setRow, Array.getElem?_modify, h]
theorem Row.putOther {w : World} {b c : Nat} {f : Nat → Nat} (h : Row w b f) (hc : c ≠ b) (g : Array Value) : Row (w.setRow c g) b f := by
 unfold Row at *
 simp [World.setRow, Array.getElem?_modify, h, hc]
theorem below_put {B b : Nat} {a w : World} (h : Below B a w) (hb : B ≤ b) (g : Array Value) : Below B a (w.setRow b g) :=
 h.trans ⟨rfl, rfl, rfl, by simp, fun k hk => by simp [World.setRow, Array.getElem?_modify, show ¬ b = k by omega]⟩
theorem results54 {fn : Func} {p : Tmp} (h : fn.results = #[.cell p 199]) (tmps : Array Value) {w : World} {b : Nat} {f : Nat → Nat} (hp : tmps.getD p undef = .pointer (some ⟨b, 0, none⟩)) (hr : Row w b f) :
  (results fn tmps).run (Tri Try.prog) w = .ok (.agg (bv f)) w := results_cell_row h tmps w b 199 (bv f) (0, 0) _ hp hr (Tri.und Try.underlying199) rfl (size54 f)
theorem wp_load54 {o : Oper} {a : Act} {w : World} {K : Act → World → Prop} {Q : Exit → Act → World → Prop} {x : Operand} {b : Nat} {f : Nat → Nat} (hr : Row w b f) (ho : o.op = .load 199 x) (hx : a.eval x = .pointer (some ⟨b, 0, none⟩))
  (h : K (a.put o.dst (.agg (bv f))) w) : o.wp (Tri Try.prog) a w K Q := wp_load_row 199 x ho b hx 199 (bv f) (0, 0) _ hr (Tri.und Try.underlying199) rfl (size54 f) h
theorem val_upd (h : Nat → Nat) (k b : Nat) : val (upd h k b) (k + 1) = val h k + b * P2 k := by
 show val (upd h k b) k + upd h k b k * P2 k = _
 rw [val_congr (g := h) (fun i hi => by unfold upd; rw [if_neg (by omega)]), show upd h k b k = b by unfold upd; rw [if_pos rfl]]
theorem bit_upd {h : Nat → Nat} (hh : Bit h) {k b : Nat} (hb : b ≤ 1) : Bit (upd h k b) := by
 intro i
 unfold upd
 split
 ·exact hb
 ·exact hh i
theorem plus_step {f g h : Nat → Nat} {k c b d : Nat} (H : val h k + c * P2 k = val f k + val g k) (e : b + 2 * d = f k + g k + c) : val (upd h k b) (k + 1) + d * P2 (k + 1) = val f (k + 1) + val g (k + 1) := by
 rw [val_upd]
 show val h k + b * P2 k + d * P2 (k + 1) = val f k + f k * P2 k + (val g k + g k * P2 k)
 have e2 : (b + 2 * d) * P2 k = (f k + g k + c) * P2 k := by rw [e]
 rw [Nat.add_mul, Nat.add_mul, Nat.add_mul] at e2
 rw [P2_succ]
 have : d * (P2 k * 2) = 2 * d * P2 k := by rw [Nat.mul_comm (P2 k) 2, ← Nat.mul_assoc, Nat.mul_comm d 2]
 omega
def Plus (f g h : Nat → Nat) : Prop := Bit h ∧ ∃ c, c ≤ 1 ∧ val h 260 + c * P2 260 = val f 260 + val g 260
theorem rows2 (w : World) (f g : Nat → Nat) : Row ((w.alloc (.cells (bv f) 199)).alloc (.cells (bv g) 199)) w.heap.size f ∧ Row ((w.alloc (.cells (bv f) 199)).alloc (.cells (bv g) 199)) (w.heap.size + 1) g ∧ Below w.heap.size w ((w.alloc (.cells (bv f) 199)).alloc (.cells (bv g) 199)) := by
 refine ⟨(Row.new w f).alloc _, ?_, ((Below.refl _ _).alloc (Nat.le_refl _) _).alloc (by simp) _⟩
 have := Row.new (w.alloc (.cells (bv f) 199)) g
 simpa using this
theorem rows4 (w : World) (f g h i : Nat → Nat) : Row ((((w.alloc (.cells (bv f) 199)).alloc (.cells (bv g) 199)).alloc (.cells (bv h) 199)).alloc (.cells (bv i) 199)) w.heap.size f ∧
  Row ((((w.alloc (.cells (bv f) 199)).alloc (.cells (bv g) 199)).alloc (.cells (bv h) 199)).alloc (.cells (bv i) 199)) (w.heap.size + 1) g ∧
  Row ((((w.alloc (.cells (bv f) 199)).alloc (.cells (bv g) 199)).alloc (.cells (bv h) 199)).alloc (.cells (bv i) 199)) (w.heap.size + 1 + 1) h ∧
  Row ((((w.alloc (.cells (bv f) 199)).alloc (.cells (bv g) 199)).alloc (.cells (bv h) 199)).alloc (.cells (bv i) 199)) (w.heap.size + 1 + 1 + 1) i ∧
  Below w.heap.size w ((((w.alloc (.cells (bv f) 199)).alloc (.cells (bv g) 199)).alloc (.cells (bv h) 199)).alloc (.cells (bv i) 199)) := by
 obtain ⟨a, b, c⟩ := rows2 w f g
 have hs : ((w.alloc (.cells (bv f) 199)).alloc (.cells (bv g) 199)).heap.size = w.heap.size + 1 + 1 := by simp
 generalize ((w.alloc (.cells (bv f) 199)).alloc (.cells (bv g) 199)) = W at *
 obtain ⟨d, e, k⟩ := rows2 W h i
 rw [hs] at d e
 exact ⟨(a.alloc _).alloc _, (b.alloc _).alloc _, d, e, c.trans (k.mono (by omega))⟩
set_option maxRecDepth 20000 in
theorem plus_any (f g : Nat → Nat) (hf : Bit f) (hg : Bit g) (w : World) : Calls (Tri Try.prog) 182 #[.agg (bv f), .agg (bv g)] w fun e w' => (∃ h, Plus f g h ∧ e = .returned (.agg (bv h))) ∧ Below w.heap.size w w' := by
 have Hf := hide hf
 have Hg := hide hg
 have hz := zero54
 clear hf hg
 go_enter (Tri.at (by decide) Try.func182), Try.ntmps182
 go_wp2_with fail
 go_loopw [6, 7] (fun cr i wr => ∃ (k c : Nat) (h : Nat → Nat), k ≤ 260 ∧ i = .int .i64 k ∧ cr = .int .u8 c ∧ c ≤ 1 ∧ Hid (Bit h) ∧ Hid (val h k + c * P2 k = val f k + val g k) ∧ Hid (Row wr w.heap.size f) ∧ Hid (Row wr (w.heap.size + 1) g) ∧ Hid (∃ u, Row wr (w.heap.size + 1 + 1) u) ∧ Hid (Row wr (w.heap.size + 1 + 1 + 1) h) ∧ Hid (Below w.heap.size w wr)) (fun _ i _ => 260 - (intOf i).toNat)
 case atStart =>
  obtain ⟨a, b, c, d, e⟩ := rows4 w f g zb zb
  exact ⟨0, 0, zb, by omega, rfl, rfl, by omega, hide (fun _ => by simp [zb]), hide rfl, hide a, hide b, hide ⟨_, c⟩, hide d, hide e⟩
 case round =>
  obtain ⟨k, c, h, hk, rfl, rfl, hc, HH, HV, R1, R2, R3, R4, HB⟩ := hrel
  by_cases hlt : k < 260
  ·have c1 := (uh R1).cell (i := k) hlt
   have c2 := (uh R2).cell (i := k) hlt
   have c4 := (uh R4).cell (i := k) hlt
   have f4 := (uh R4).frozen k
   have hfk := uh Hf k
   have hgk := uh Hg k
   have HS := hide (fun (b d : Nat) => plus_step (f := f) (g := g) (h := h) (k := k) (c := c) (b := b) (d := d) (uh HV))
   generalize f k = x at *
   generalize g k = y at *
   generalize h k = z at *
   have hx : x = 0 ∨ x = 1 := by omega
   have hy : y = 0 ∨ y = 1 := by omega
   have hc' : c = 0 ∨ c = 1 := by omega
   clear hfk hgk HV hc
   rcases hx with rfl | rfl <;> rcases hy with rfl | rfl <;> rcases hc' with rfl | rfl
   ·go_wp2_with fail
    go_region
    go_wp2_with fail
    go_roundw
    case rel => exact ⟨k + 1, 0, upd h k 0, by omega, by go_num, rfl, by omega, hide (bit_upd (uh HH) (by omega)), hide (uh HS 0 0 (by omega)), hide ((uh R1).drew.other (by show w.heap.size ≠ w.heap.size + 1 + 1 + 1; omega) _), hide ((uh R2).drew.other (by show w.heap.size + 1 ≠ w.heap.size + 1 + 1 + 1; omega) _), hide ((uh R3).imp fun u r => r.drew.other (by show w.heap.size + 1 + 1 ≠ w.heap.size + 1 + 1 + 1; omega) _), hide ((uh R4).drew.set k 0), hide ((below_drew (uh HB)).setCell (by show w.heap.size ≤ w.heap.size + 1 + 1 + 1; omega) _)⟩
    case measure => simp [intOf]; omega
   ·go_wp2_with fail
    go_region
    go_wp2_with fail
    go_roundw
    case rel => exact ⟨k + 1, 0, upd h k 1, by omega, by go_num, rfl, by omega, hide (bit_upd (uh HH) (by omega)), hide (uh HS 1 0 (by omega)), hide ((uh R1).drew.other (by show w.heap.size ≠ w.heap.size + 1 + 1 + 1; omega) _), hide ((uh R2).drew.other (by show w.heap.size + 1 ≠ w.heap.size + 1 + 1 + 1; omega) _), hide ((uh R3).imp fun u r => r.drew.other (by show w.heap.size + 1 + 1 ≠ w.heap.size + 1 + 1 + 1; omega) _), hide ((uh R4).drew.set k 1), hide ((below_drew (uh HB)).setCell (by show w.heap.size ≤ w.heap.size + 1 + 1 + 1; omega) _)⟩
    case measure => simp [intOf]; omega
   ·go_wp2_with fail
    go_region
    go_wp2_with fail
    go_roundw
    case rel => exact ⟨k + 1, 0, upd h k 1, by omega, by go_num, rfl, by omega, hide (bit_upd (uh HH) (by omega)), hide (uh HS 1 0 (by omega)), hide ((uh R1).drew.other (by show w.heap.size ≠ w.heap.size + 1 + 1 + 1; omega) _), hide ((uh R2).drew.other (by show w.heap.size + 1 ≠ w.heap.size + 1 + 1 + 1; omega) _), hide ((uh R3).imp fun u r => r.drew.other (by show w.heap.size + 1 + 1 ≠ w.heap.size + 1 + 1 + 1; omega) _), hide ((uh R4).drew.set k 1), hide ((below_drew (uh HB)).setCell (by show w.heap.size ≤ w.heap.size + 1 + 1 + 1; omega) _)⟩
    case measure => simp [intOf]; omega
   ·go_wp2_with fail
    go_region
    go_wp2_with fail
    go_roundw
    case rel => exact ⟨k + 1, 1, upd h k 0, by omega, by go_num, rfl, by omega, hide (bit_upd (uh HH) (by omega)), hide (uh HS 0 1 (by omega)), hide ((uh R1).drew.other (by show w.heap.size ≠ w.heap.size + 1 + 1 + 1; omega) _), hide ((uh R2).drew.other (by show w.heap.size + 1 ≠ w.heap.size + 1 + 1 + 1; omega) _), hide ((uh R3).imp fun u r => r.drew.other (by show w.heap.size + 1 + 1 ≠ w.heap.size + 1 + 1 + 1; omega) _), hide ((uh R4).drew.set k 0), hide ((below_drew (uh HB)).setCell (by show w.heap.size ≤ w.heap.size + 1 + 1 + 1; omega) _)⟩
    case measure => simp [intOf]; omega
   ·go_wp2_with fail
    go_region
    go_wp2_with fail
    go_roundw
    case rel => exact ⟨k + 1, 0, upd h k 1, by omega, by go_num, rfl, by omega, hide (bit_upd (uh HH) (by omega)), hide (uh HS 1 0 (by omega)), hide ((uh R1).drew.other (by show w.heap.size ≠ w.heap.size + 1 + 1 + 1; omega) _), hide ((uh R2).drew.other (by show w.heap.size + 1 ≠ w.heap.size + 1 + 1 + 1; omega) _), hide ((uh R3).imp fun u r => r.drew.other (by show w.heap.size + 1 + 1 ≠ w.heap.size + 1 + 1 + 1; omega) _), hide ((uh R4).drew.set k 1), hide ((below_drew (uh HB)).setCell (by show w.heap.size ≤ w.heap.size + 1 + 1 + 1; omega) _)⟩
    case measure => simp [intOf]; omega
   ·go_wp2_with fail
    go_region
    go_wp2_with fail
    go_roundw
    case rel => exact ⟨k + 1, 1, upd h k 0, by omega, by go_num, rfl, by omega, hide (bit_upd (uh HH) (by omega)), hide (uh HS 0 1 (by omega)), hide ((uh R1).drew.other (by show w.heap.size ≠ w.heap.size + 1 + 1 + 1; omega) _), hide ((uh R2).drew.other (by show w.heap.size + 1 ≠ w.heap.size + 1 + 1 + 1; omega) _), hide ((uh R3).imp fun u r => r.drew.other (by show w.heap.size + 1 + 1 ≠ w.heap.size + 1 + 1 + 1; omega) _), hide ((uh R4).drew.set k 0), hide ((below_drew (uh HB)).setCell (by show w.heap.size ≤ w.heap.size + 1 + 1 + 1; omega) _)⟩
    case measure => simp [intOf]; omega
   ·go_wp2_with fail
    go_region
    go_wp2_with fail
    go_roundw
    case rel => exact ⟨k + 1, 1, upd h k 0, by omega, by go_num, rfl, by omega, hide (bit_upd (uh HH) (by omega)), hide (uh HS 0 1 (by omega)), hide ((uh R1).drew.other (by show w.heap.size ≠ w.heap.size + 1 + 1 + 1; omega) _), hide ((uh R2).drew.other (by show w.heap.size + 1 ≠ w.heap.size + 1 + 1 + 1; omega) _), hide ((uh R3).imp fun u r => r.drew.other (by show w.heap.size + 1 + 1 ≠ w.heap.size + 1 + 1 + 1; omega) _), hide ((uh R4).drew.set k 0), hide ((below_drew (uh HB)).setCell (by show w.heap.size ≤ w.heap.size + 1 + 1 + 1; omega) _)⟩
    case measure => simp [intOf]; omega
   ·go_wp2_with fail
    go_region
    go_wp2_with fail
    go_roundw
    case rel => exact ⟨k + 1, 1, upd h k 1, by omega, by go_num, rfl, by omega, hide (bit_upd (uh HH) (by omega)), hide (uh HS 1 1 (by omega)), hide ((uh R1).drew.other (by show w.heap.size ≠ w.heap.size + 1 + 1 + 1; omega) _), hide ((uh R2).drew.other (by show w.heap.size + 1 ≠ w.heap.size + 1 + 1 + 1; omega) _), hide ((uh R3).imp fun u r => r.drew.other (by show w.heap.size + 1 + 1 ≠ w.heap.size + 1 + 1 + 1; omega) _), hide ((uh R4).drew.set k 1), hide ((below_drew (uh HB)).setCell (by show w.heap.size ≤ w.heap.size + 1 + 1 + 1; omega) _)⟩
    case measure => simp [intOf]; omega
  ·obtain rfl : k = 260 := by omega
   obtain ⟨u, R3'⟩ := uh R3
   replace R3' := hide R3'
   have HP := hide (show Plus f g h from ⟨uh HH, c, hc, uh HV⟩)
   clear HV R3
   have hst := store54c h (uh R3')
   have Rr := hide ((uh R3').put h)
   have HB2 := hide (below_put (uh HB) (b := w.heap.size + 1 + 1) (by omega) (bv h))
   go_wp2_with fail
   refine wp_load54 (uh R4) rfl rfl ?_
   go_wp2_with fail
   refine bodyPost_ret (v := .agg (bv h)) (results54 rfl _ rfl (uh Rr)) rfl ⟨⟨h, uh HP, rfl⟩, uh HB2⟩
theorem minus_step {f g h : Nat → Nat} {k c b d : Nat} (H : val f k + c * P2 k = val g k + val h k) (e : f k + 2 * d = g k + b + c) : val f (k + 1) + d * P2 (k + 1) = val g (k + 1) + val (upd h k b) (k + 1) := by
 rw [val_upd]
 show val f k + f k * P2 k + d * P2 (k + 1) = val g k + g k * P2 k + (val h k + b * P2 k)
 have e2 : (f k + 2 * d) * P2 k = (g k + b + c) * P2 k := by rw [e]
 rw [Nat.add_mul, Nat.add_mul, Nat.add_mul] at e2
 rw [P2_succ]
 have : d * (P2 k * 2) = 2 * d * P2 k := by rw [Nat.mul_comm (P2 k) 2, ← Nat.mul_assoc, Nat.mul_comm d 2]
 omega
def Minus (f g h : Nat → Nat) : Prop := Bit h ∧ ∃ c, c ≤ 1 ∧ val f 260 + c * P2 260 = val g 260 + val h 260
set_option maxRecDepth 20000 in
theorem minus_any (f g : Nat → Nat) (hf : Bit f) (hg : Bit g) (w : World) : Calls (Tri Try.prog) 187 #[.agg (bv f), .agg (bv g)] w fun e w' => (∃ h, Minus f g h ∧ e = .returned (.agg (bv h))) ∧ Below w.heap.size w w' := by
 have Hf := hide hf
 have Hg := hide hg
 have hz := zero54
 clear hf hg
 go_enter (Tri.at (by decide) Try.func187), Try.ntmps187
 go_wp2_with fail
 go_loopw [6, 7] (fun cr i wr => ∃ (k c : Nat) (h : Nat → Nat), k ≤ 260 ∧ i = .int .i64 k ∧ cr = .int .u8 c ∧ c ≤ 1 ∧ Hid (Bit h) ∧ Hid (val f k + c * P2 k = val g k + val h k) ∧ Hid (Row wr w.heap.size f) ∧ Hid (Row wr (w.heap.size + 1) g) ∧ Hid (∃ u, Row wr (w.heap.size + 1 + 1) u) ∧ Hid (Row wr (w.heap.size + 1 + 1 + 1) h) ∧ Hid (Below w.heap.size w wr)) (fun _ i _ => 260 - (intOf i).toNat)
 case atStart =>
  obtain ⟨a, b, c, d, e⟩ := rows4 w f g zb zb
  exact ⟨0, 0, zb, by omega, rfl, rfl, by omega, hide (fun _ => by simp [zb]), hide rfl, hide a, hide b, hide ⟨_, c⟩, hide d, hide e⟩
 case round =>
  obtain ⟨k, c, h, hk, rfl, rfl, hc, HH, HV, R1, R2, R3, R4, HB⟩ := hrel
  by_cases hlt : k < 260
  ·have c1 := (uh R1).cell (i := k) hlt
   have c2 := (uh R2).cell (i := k) hlt
   have c4 := (uh R4).cell (i := k) hlt
   have f4 := (uh R4).frozen k
   have hfk := uh Hf k
   have hgk := uh Hg k
   have HS := hide (fun (b d : Nat) => minus_step (f := f) (g := g) (h := h) (k := k) (c := c) (b := b) (d := d) (uh HV))
   generalize f k = x at *
   generalize g k = y at *
   generalize h k = z at *
   have hx : x = 0 ∨ x = 1 := by omega
   have hy : y = 0 ∨ y = 1 := by omega
   have hc' : c = 0 ∨ c = 1 := by omega
   clear hfk hgk HV hc
   rcases hx with rfl | rfl <;> rcases hy with rfl | rfl <;> rcases hc' with rfl | rfl
   ·go_wp2_with fail
    go_region
    go_wp2_with fail
    go_roundw
    case rel => exact ⟨k + 1, 0, upd h k 0, by omega, by go_num, rfl, by omega, hide (bit_upd (uh HH) (by omega)), hide (uh HS 0 0 (by omega)), hide ((uh R1).drew.other (by show w.heap.size ≠ w.heap.size + 1 + 1 + 1; omega) _), hide ((uh R2).drew.other (by show w.heap.size + 1 ≠ w.heap.size + 1 + 1 + 1; omega) _), hide ((uh R3).imp fun u r => r.drew.other (by show w.heap.size + 1 + 1 ≠ w.heap.size + 1 + 1 + 1; omega) _), hide ((uh R4).drew.set k 0), hide ((below_drew (uh HB)).setCell (by show w.heap.size ≤ w.heap.size + 1 + 1 + 1; omega) _)⟩
    case measure => simp [intOf]; omega
   ·go_wp2_with fail
    go_region
    go_wp2_with fail
    go_roundw
    case rel => exact ⟨k + 1, 1, upd h k 1, by omega, by go_num, rfl, by omega, hide (bit_upd (uh HH) (by omega)), hide (uh HS 1 1 (by omega)), hide ((uh R1).drew.other (by show w.heap.size ≠ w.heap.size + 1 + 1 + 1; omega) _), hide ((uh R2).drew.other (by show w.heap.size + 1 ≠ w.heap.size + 1 + 1 + 1; omega) _), hide ((uh R3).imp fun u r => r.drew.other (by show w.heap.size + 1 + 1 ≠ w.heap.size + 1 + 1 + 1; omega) _), hide ((uh R4).drew.set k 1), hide ((below_drew (uh HB)).setCell (by show w.heap.size ≤ w.heap.size + 1 + 1 + 1; omega) _)⟩
    case measure => simp [intOf]; omega
   ·go_wp2_with fail
    go_region
    go_wp2_with fail
    go_roundw
    case rel => exact ⟨k + 1, 1, upd h k 1, by omega, by go_num, rfl, by omega, hide (bit_upd (uh HH) (by omega)), hide (uh HS 1 1 (by omega)), hide ((uh R1).drew.other (by show w.heap.size ≠ w.heap.size + 1 + 1 + 1; omega) _), hide ((uh R2).drew.other (by show w.heap.size + 1 ≠ w.heap.size + 1 + 1 + 1; omega) _), hide ((uh R3).imp fun u r => r.drew.other (by show w.heap.size + 1 + 1 ≠ w.heap.size + 1 + 1 + 1; omega) _), hide ((uh R4).drew.set k 1), hide ((below_drew (uh HB)).setCell (by show w.heap.size ≤ w.heap.size + 1 + 1 + 1; omega) _)⟩
    case measure => simp [intOf]; omega
   ·go_wp2_with fail
    go_region
    go_wp2_with fail
    go_roundw
    case rel => exact ⟨k + 1, 1, upd h k 0, by omega, by go_num, rfl, by omega, hide (bit_upd (uh HH) (by omega)), hide (uh HS 0 1 (by omega)), hide ((uh R1).drew.other (by show w.heap.size ≠ w.heap.size + 1 + 1 + 1; omega) _), hide ((uh R2).drew.other (by show w.heap.size + 1 ≠ w.heap.size + 1 + 1 + 1; omega) _), hide ((uh R3).imp fun u r => r.drew.other (by show w.heap.size + 1 + 1 ≠ w.heap.size + 1 + 1 + 1; omega) _), hide ((uh R4).drew.set k 0), hide ((below_drew (uh HB)).setCell (by show w.heap.size ≤ w.heap.size + 1 + 1 + 1; omega) _)⟩
    case measure => simp [intOf]; omega
   ·go_wp2_with fail
    go_region
    go_wp2_with fail
    go_roundw
    case rel => exact ⟨k + 1, 0, upd h k 1, by omega, by go_num, rfl, by omega, hide (bit_upd (uh HH) (by omega)), hide (uh HS 1 0 (by omega)), hide ((uh R1).drew.other (by show w.heap.size ≠ w.heap.size + 1 + 1 + 1; omega) _), hide ((uh R2).drew.other (by show w.heap.size + 1 ≠ w.heap.size + 1 + 1 + 1; omega) _), hide ((uh R3).imp fun u r => r.drew.other (by show w.heap.size + 1 + 1 ≠ w.heap.size + 1 + 1 + 1; omega) _), hide ((uh R4).drew.set k 1), hide ((below_drew (uh HB)).setCell (by show w.heap.size ≤ w.heap.size + 1 + 1 + 1; omega) _)⟩
    case measure => simp [intOf]; omega
   ·go_wp2_with fail
    go_region
    go_wp2_with fail
    go_roundw
    case rel => exact ⟨k + 1, 0, upd h k 0, by omega, by go_num, rfl, by omega, hide (bit_upd (uh HH) (by omega)), hide (uh HS 0 0 (by omega)), hide ((uh R1).drew.other (by show w.heap.size ≠ w.heap.size + 1 + 1 + 1; omega) _), hide ((uh R2).drew.other (by show w.heap.size + 1 ≠ w.heap.size + 1 + 1 + 1; omega) _), hide ((uh R3).imp fun u r => r.drew.other (by show w.heap.size + 1 + 1 ≠ w.heap.size + 1 + 1 + 1; omega) _), hide ((uh R4).drew.set k 0), hide ((below_drew (uh HB)).setCell (by show w.heap.size ≤ w.heap.size + 1 + 1 + 1; omega) _)⟩
    case measure => simp [intOf]; omega
   ·go_wp2_with fail
    go_region
    go_wp2_with fail
    go_roundw
    case rel => exact ⟨k + 1, 0, upd h k 0, by omega, by go_num, rfl, by omega, hide (bit_upd (uh HH) (by omega)), hide (uh HS 0 0 (by omega)), hide ((uh R1).drew.other (by show w.heap.size ≠ w.heap.size + 1 + 1 + 1; omega) _), hide ((uh R2).drew.other (by show w.heap.size + 1 ≠ w.heap.size + 1 + 1 + 1; omega) _), hide ((uh R3).imp fun u r => r.drew.other (by show w.heap.size + 1 + 1 ≠ w.heap.size + 1 + 1 + 1; omega) _), hide ((uh R4).drew.set k 0), hide ((below_drew (uh HB)).setCell (by show w.heap.size ≤ w.heap.size + 1 + 1 + 1; omega) _)⟩
    case measure => simp [intOf]; omega
   ·go_wp2_with fail
    go_region
    go_wp2_with fail
    go_roundw
    case rel => exact ⟨k + 1, 1, upd h k 1, by omega, by go_num, rfl, by omega, hide (bit_upd (uh HH) (by omega)), hide (uh HS 1 1 (by omega)), hide ((uh R1).drew.other (by show w.heap.size ≠ w.heap.size + 1 + 1 + 1; omega) _), hide ((uh R2).drew.other (by show w.heap.size + 1 ≠ w.heap.size + 1 + 1 + 1; omega) _), hide ((uh R3).imp fun u r => r.drew.other (by show w.heap.size + 1 + 1 ≠ w.heap.size + 1 + 1 + 1; omega) _), hide ((uh R4).drew.set k 1), hide ((below_drew (uh HB)).setCell (by show w.heap.size ≤ w.heap.size + 1 + 1 + 1; omega) _)⟩
    case measure => simp [intOf]; omega
  ·obtain rfl : k = 260 := by omega
   obtain ⟨u, R3'⟩ := uh R3
   replace R3' := hide R3'
   have HP := hide (show Minus f g h from ⟨uh HH, c, hc, uh HV⟩)
   clear HV R3
   have hst := store54c h (uh R3')
   have Rr := hide ((uh R3').put h)
   have HB2 := hide (below_put (uh HB) (b := w.heap.size + 1 + 1) (by omega) (bv h))
   go_wp2_with fail
   refine wp_load54 (uh R4) rfl rfl ?_
   go_wp2_with fail
   refine bodyPost_ret (v := .agg (bv h)) (results54 rfl _ rfl (uh Rr)) rfl ⟨⟨h, uh HP, rfl⟩, uh HB2⟩
theorem val_zb : ∀ n, val zb n = 0
 | 0 => rfl
 | n + 1 => by show val zb n + 0 * P2 n = 0; rw [val_zb n]; omega
theorem val_put {f : Nat → Nat} {k b : Nat} (h0 : f k = 0) : ∀ {n : Nat}, k < n → val (upd f k b) n = val f n + b * P2 k
 | 0, h => by omega
 | n + 1, h => by
  by_cases e : k = n
  ·subst e
   rw [val_upd]
   show _ = val f k + f k * P2 k + b * P2 k
   rw [h0]
   omega
  ·show val (upd f k b) n + upd f k b n * P2 n = val f n + f n * P2 n + b * P2 k
   rw [val_put h0 (n := n) (by omega), show upd f k b n = f n by unfold upd; rw [if_neg (fun h => e h.symm)]]
   omega
def Shifted (r r2 : Nat → Nat) (b : Nat) : Prop := r2 0 = b ∧ (∀ j, j < 259 → r2 (j + 1) = r j) ∧ Bit r2
theorem val_shift {r r2 : Nat → Nat} : ∀ {n : Nat}, (∀ j, j < n → r2 (j + 1) = r j) → val r2 (n + 1) = r2 0 + 2 * val r n
 | 0, _ => by show 0 + r2 0 * 1 = r2 0 + 2 * 0; omega
 | n + 1, h => by
  show val r2 (n + 1) + r2 (n + 1) * P2 (n + 1) = r2 0 + 2 * (val r n + r n * P2 n)
  rw [val_shift (n := n) (fun j hj => h j (by omega)), h n (by omega), P2_succ, Nat.mul_add, ← Nat.mul_assoc (r n), Nat.mul_comm (r n * P2 n) 2]
  omega
theorem big260 : 18446744073709551616 < P2 259 := by
 have h := P2_mono 65 194
 have e : P2 65 = 36893488147419103232 := by decide +kernel
 rw [e] at h
 exact Nat.lt_of_lt_of_le (by omega) h
theorem shift_val {r r2 : Nat → Nat} {b : Nat} (hr : Bit r) (h : Shifted r r2 b) (hs : val r 260 < 18446744073709551616) : val r2 260 = 2 * val r 260 + b := by
 have e := val_shift (n := 259) h.2.1
 have t : val r 260 = val r 259 + r 259 * P2 259 := rfl
 have h259 := hr 259
 have hb := big260
 generalize P2 259 = P at *
 have z : r 259 = 0 := by
  rcases Nat.lt_or_ge (r 259) 1 with a | a
  ·omega
  ·have : r 259 = 1 := by omega
   rw [this] at t
   omega
 rw [z] at t
 rw [e, h.1]
 omega
def QInv (f g q r : Nat → Nat) (k : Nat) : Prop := Bit q ∧ Bit r ∧ (∀ j, j < k → q j = 0) ∧ val r 260 < val g 260 ∧ ∃ Q, val q 260 = Q * P2 k ∧ val f 260 = (Q * val g 260 + val r 260) * P2 k + val f k
theorem zero_a (P : Nat) : val zb 260 = 0 * P := by rw [val_zb, Nat.zero_mul]
theorem zero_b (f g : Nat → Nat) (P : Nat) : val f 260 = (0 * val g 260 + val zb 260) * P + val f 260 := by rw [val_zb]; simp
theorem QInv.start (f : Nat → Nat) {g : Nat → Nat} (hg : 0 < val g 260) : QInv f g zb zb 260 :=
 ⟨fun _ => by simp [zb], fun _ => by simp [zb], fun _ _ => rfl, by rw [val_zb]; exact hg, 0, zero_a _, zero_b f g _⟩
theorem QInv.step {f g q r : Nat → Nat} {m : Nat} (h : QInv f g q r (m + 1)) {r2 : Nat → Nat} (hs : Shifted r r2 (f m)) (hV : val g 260 ≤ 18446744073709551616) :
  ∃ Q, val q 260 = Q * P2 m ∧ val f 260 = (Q * val g 260 + val r2 260) * P2 m + val f m := by
 obtain ⟨hq, hr, hz, hl, Q, e1, e2⟩ := h
 refine ⟨2 * Q, by rw [e1, P2_succ, Nat.mul_comm (P2 m) 2, ← Nat.mul_assoc, Nat.mul_comm Q 2], ?_⟩
 rw [shift_val hr hs (by omega), e2]
 show (Q * val g 260 + val r 260) * P2 (m + 1) + (val f m + f m * P2 m) = _
 rw [P2_succ, Nat.mul_comm (P2 m) 2, ← Nat.mul_assoc, show 2 * Q * val g 260 + (2 * val r 260 + f m) = (Q * val g 260 + val r 260) * 2 + f m by rw [Nat.mul_assoc, Nat.add_mul, Nat.mul_comm 2 (Q * val g 260), Nat.mul_comm 2 (val r 260)]; omega, Nat.add_mul ((Q * val g 260 + val r 260) * 2) (f m) (P2 m)]
 omega
theorem QInv.less {f g q r : Nat → Nat} {m : Nat} (h : QInv f g q r (m + 1)) {r2 : Nat → Nat} (hs : Shifted r r2 (f m)) (hV : val g 260 ≤ 18446744073709551616) (hl : val r2 260 < val g 260) : QInv f g q r2 m :=
 ⟨h.1, hs.2.2, fun j hj => h.2.2.1 j (by omega), hl, h.step hs hV⟩
theorem minus_val {f g h : Nat → Nat} (hm : Minus f g h) (hl : val g 260 ≤ val f 260) : val h 260 = val f 260 - val g 260 := by
 obtain ⟨hb, c, hc, e⟩ := hm
 have := val_lt hb 260
 generalize P2 260 = P at *
 rcases Nat.lt_or_ge c 1 with a | a
 ·rw [show c = 0 by omega, Nat.zero_mul] at e
  omega
 ·rw [show c = 1 by omega, Nat.one_mul] at e
  omega
theorem QInv.more {f g q r : Nat → Nat} {m : Nat} (hm : m < 260) (hf : Bit f) (h : QInv f g q r (m + 1)) {r2 k : Nat → Nat} (hs : Shifted r r2 (f m)) (hV : val g 260 ≤ 18446744073709551616) (hl : ¬ val r2 260 < val g 260) (hk : Minus r2 g k) : QInv f g (upd q m 1) k m := by
 have hv := minus_val hk (by omega)
 have h2 := shift_val h.2.1 hs (by have := h.2.2.2.1; omega)
 have hfm := hf m
 obtain ⟨Q, e1, e2⟩ := h.step hs hV
 refine ⟨bit_upd h.1 (by omega), hk.1, fun j hj => ?_, ?_, Q + 1, ?_, ?_⟩
 ·unfold upd
  rw [if_neg (by omega)]
  exact h.2.2.1 j (by omega)
 ·have := h.2.2.2.1
  omega
 ·rw [val_put (h.2.2.1 m (by omega)) hm, e1, Nat.add_mul]
 ·rw [e2, hv, Nat.add_mul Q 1, Nat.one_mul, show Q * val g 260 + val g 260 + (val r2 260 - val g 260) = Q * val g 260 + val r2 260 by omega]
theorem QInv.done {f g q r : Nat → Nat} (h : QInv f g q r 0) : val q 260 = val f 260 / val g 260 ∧ val r 260 = val f 260 % val g 260 := by
 obtain ⟨_, _, _, hl, Q, e1, e2⟩ := h
 rw [P2_zero, Nat.mul_one] at e1 e2
 have e3 : val f 260 = val r 260 + val g 260 * Q := by
  rw [e2, Nat.mul_comm Q]
  show _ + 0 = _
  omega
 constructor
 ·rw [e1, e3, Nat.add_mul_div_left _ _ (by omega), Nat.div_eq_of_lt hl]
  omega
 ·rw [e3, Nat.add_mul_mod_self_left, Nat.mod_eq_of_lt hl]
structure QR (w wr : World) (f g q r : Nat → Nat) : Prop where
 ra : Row wr w.heap.size f
 rb : Row wr (w.heap.size + 1) g
 rc : ∃ u, Row wr (w.heap.size + 1 + 1) u
 rd : ∃ u, Row wr (w.heap.size + 1 + 1 + 1) u
 rq : Row wr (w.heap.size + 1 + 1 + 1 + 1) q
 rr : Row wr (w.heap.size + 1 + 1 + 1 + 1 + 1) r
 below : Below w.heap.size w wr
theorem QR.start (w : World) (f g : Nat → Nat) : QR w ((((((w.alloc (.cells (bv f) 199)).alloc (.cells (bv g) 199)).alloc (.cells (bv zb) 199)).alloc (.cells (bv zb) 199)).alloc (.cells (bv zb) 199)).alloc (.cells (bv zb) 199)) f g zb zb := by
 obtain ⟨a, b, c, d, e⟩ := rows4 w f g zb zb
 have hs : ((((w.alloc (.cells (bv f) 199)).alloc (.cells (bv g) 199)).alloc (.cells (bv zb) 199)).alloc (.cells (bv zb) 199)).heap.size = w.heap.size + 1 + 1 + 1 + 1 := by simp
 generalize ((((w.alloc (.cells (bv f) 199)).alloc (.cells (bv g) 199)).alloc (.cells (bv zb) 199)).alloc (.cells (bv zb) 199)) = W at *
 obtain ⟨x, y, z⟩ := rows2 W zb zb
 rw [hs] at x y
 exact ⟨(a.alloc _).alloc _, (b.alloc _).alloc _, ⟨_, (c.alloc _).alloc _⟩, ⟨_, (d.alloc _).alloc _⟩, x, y, e.trans (z.mono (by omega))⟩
theorem QR.setr {w wr : World} {f g q r : Nat → Nat} (h : QR w wr f g q r) (k v : Nat) : QR w (wr.setCell ⟨w.heap.size + 1 + 1 + 1 + 1 + 1, k, none⟩ (.int .u8 v)) f g q (upd r k v) :=
 ⟨h.ra.other (by show w.heap.size ≠ w.heap.size + 1 + 1 + 1 + 1 + 1; omega) _, h.rb.other (by show w.heap.size + 1 ≠ w.heap.size + 1 + 1 + 1 + 1 + 1; omega) _, h.rc.imp fun _ r => r.other (by show w.heap.size + 1 + 1 ≠ w.heap.size + 1 + 1 + 1 + 1 + 1; omega) _, h.rd.imp fun _ r => r.other (by show w.heap.size + 1 + 1 + 1 ≠ w.heap.size + 1 + 1 + 1 + 1 + 1; omega) _, h.rq.other (by show w.heap.size + 1 + 1 + 1 + 1 ≠ w.heap.size + 1 + 1 + 1 + 1 + 1; omega) _, h.rr.set k v, h.below.setCell (by show w.heap.size ≤ w.heap.size + 1 + 1 + 1 + 1 + 1; omega) _⟩
theorem QR.setq {w wr : World} {f g q r : Nat → Nat} (h : QR w wr f g q r) (k v : Nat) : QR w (wr.setCell ⟨w.heap.size + 1 + 1 + 1 + 1, k, none⟩ (.int .u8 v)) f g (upd q k v) r :=
 ⟨h.ra.other (by show w.heap.size ≠ w.heap.size + 1 + 1 + 1 + 1; omega) _, h.rb.other (by show w.heap.size + 1 ≠ w.heap.size + 1 + 1 + 1 + 1; omega) _, h.rc.imp fun _ r => r.other (by show w.heap.size + 1 + 1 ≠ w.heap.size + 1 + 1 + 1 + 1; omega) _, h.rd.imp fun _ r => r.other (by show w.heap.size + 1 + 1 + 1 ≠ w.heap.size + 1 + 1 + 1 + 1; omega) _, h.rq.set k v, h.rr.other (by show w.heap.size + 1 + 1 + 1 + 1 + 1 ≠ w.heap.size + 1 + 1 + 1 + 1; omega) _, h.below.setCell (by show w.heap.size ≤ w.heap.size + 1 + 1 + 1 + 1; omega) _⟩
theorem QR.keep {w wr w2 : World} {f g q r : Nat → Nat} (h : QR w wr f g q r) (hb : Below wr.heap.size wr w2) : QR w w2 f g q r :=
 ⟨h.ra.keep hb h.ra.lt, h.rb.keep hb h.rb.lt, h.rc.imp fun _ r => r.keep hb r.lt, h.rd.imp fun _ r => r.keep hb r.lt, h.rq.keep hb h.rq.lt, h.rr.keep hb h.rr.lt, below_via h.below hb⟩
theorem QR.putr {w wr : World} {f g q r : Nat → Nat} (h : QR w wr f g q r) (k : Nat → Nat) : QR w (wr.setRow (w.heap.size + 1 + 1 + 1 + 1 + 1) (bv k)) f g q k :=
 ⟨h.ra.putOther (by omega) _, h.rb.putOther (by omega) _, h.rc.imp fun _ r => r.putOther (by omega) _, h.rd.imp fun _ r => r.putOther (by omega) _, h.rq.putOther (by omega) _, h.rr.put k, below_put h.below (by omega) _⟩
theorem shifted_of {r r1 : Nat → Nat} {b : Nat} (hr : Bit r) (hb : b ≤ 1) (h : ∀ j, r1 j = if 0 < j ∧ j < 260 then r (j - 1) else r j) : Shifted r (upd r1 0 b) b := by
 refine ⟨by unfold upd; rw [if_pos rfl], fun j hj => ?_, bit_upd (fun i => ?_) hb⟩
 ·unfold upd
  rw [if_neg (by omega), h, if_pos ⟨by omega, by omega⟩, Nat.add_sub_cancel]
 ·rw [h]; split <;> exact hr _
theorem shift_step {r r1 : Nat → Nat} {m : Nat} (hm : m + 1 < 260) (h : ∀ j, r1 j = if m + 1 < j ∧ j < 260 then r (j - 1) else r j) : ∀ j, upd r1 (m + 1) (r1 m) j = if m < j ∧ j < 260 then r (j - 1) else r j := by
 intro j
 unfold upd
 by_cases e : j = m + 1
 ·subst e
  rw [if_pos rfl, if_pos ⟨by omega, hm⟩, h m, if_neg (by omega), Nat.add_sub_cancel]
 ·rw [if_neg e, h j]
  by_cases c : m + 1 < j ∧ j < 260
  ·rw [if_pos c, if_pos ⟨by omega, c.2⟩]
  ·rw [if_neg c, if_neg (by omega)]
theorem below_cells {B b : Nat} {a : World} (hb : B ≤ b) : ∀ (vs : List Value) (o : Nat) (w : World), Below B a w → Below B a (w.setCells b o vs)
 | [], _, _, h => h
 | v :: r, o, w, h => below_cells hb r (o + 1) _ (h.setCell (by exact hb) v)
theorem Row.range {w : World} {b : Nat} {f : Nat → Nat} (h : Row w b f) : w.rangeAt b 0 (bv f).toList := by
 intro j v hv
 rw [Nat.zero_add, cell_of_row w b j _ _ _ h]
 simpa using hv
theorem Row.there {w : World} {b : Nat} {f : Nat → Nat} (h : Row w b f) : w.there b 0 260 := by
 intro j hj
 rw [Nat.zero_add]
 exact ⟨by rw [h.cell hj]; rfl, h.frozen j⟩
theorem two_ranges {w : World} {b c : Nat} {cs ds : List Value} (hc : cs.length = 260) (hd : ds.length = 260) (hbc : b ≠ c) (h1 : w.there b 0 260) (h2 : w.there c 0 260) :
  ((w.setCells b 0 cs).setCells c 0 ds).rangeAt b 0 cs ∧ ((w.setCells b 0 cs).setCells c 0 ds).rangeAt c 0 ds :=
 ⟨World.rangeAt_setCells_apart (World.rangeAt_setCells_same w b 0 cs (by rw [hc]; exact h1)) c 0 ds (Or.inl hbc), World.rangeAt_setCells_same _ c 0 ds (by rw [hd]; exact World.there_setCells h2 _ _ _)⟩
theorem results54_2 {fn : Func} {p p' : Tmp} (h : fn.results = #[.cell p 199, .cell p' 199]) (tmps : Array Value) {w : World} {b c : Nat} {cs ds : List Value} (hc : cs.length = 260) (hd : ds.length = 260)
  (hp : tmps.getD p undef = .pointer (some ⟨b, 0, none⟩)) (hp' : tmps.getD p' undef = .pointer (some ⟨c, 0, none⟩)) (hr : w.rangeAt b 0 cs) (hr' : w.rangeAt c 0 ds) :
  (results fn tmps).run (Tri Try.prog) w = .ok (.tuple #[.agg cs.toArray, .agg ds.toArray]) w := by
 have i0 := (zero_of_info info199).2
 have l1 := run_loadVar_mid (P := (Tri Try.prog)) w b 0 199 cs _ hr (Tri.und Try.underlying199) rfl (by rw [hc]; exact i0)
 have l2 := run_loadVar_mid (P := (Tri Try.prog)) w c 0 199 ds _ hr' (Tri.und Try.underlying199) rfl (by rw [hd]; exact i0)
 have e1 : tmps[p]?.getD undef = .pointer (some ⟨b, 0, none⟩) := by simpa using hp
 have e2 : tmps[p']?.getD undef = .pointer (some ⟨c, 0, none⟩) := by simpa using hp'
 simp [results, h, e1, e2, asAddr, l1, l2]
def SQ (b : Nat) (cs ds : List Value) (w : World) : Prop := w.rangeAt (b + 1 + 1 + 1 + 1) 0 cs ∧ w.rangeAt (b + 1 + 1 + 1 + 1 + 1) 0 ds ∧ w.there (b + 1 + 1) 0 260 ∧ w.there (b + 1 + 1 + 1) 0 260
theorem SQ.set {b c : Nat} {cs ds : List Value} {w : World} (h : SQ b cs ds w) (hc : c < b + 1 + 1 + 1 + 1) (vs : List Value) : SQ b cs ds (w.setCells c 0 vs) :=
 ⟨World.rangeAt_setCells_apart h.1 c 0 vs (Or.inl (by omega)), World.rangeAt_setCells_apart h.2.1 c 0 vs (Or.inl (by omega)), World.there_setCells h.2.2.1 _ _ _, World.there_setCells h.2.2.2 _ _ _⟩
def Quo (f g q r : Nat → Nat) : Prop := Bit q ∧ Bit r ∧ val q 260 = val f 260 / val g 260 ∧ val r 260 = val f 260 % val g 260
set_option maxRecDepth 20000 in
theorem quo_any (f g : Nat → Nat) (hf : Bit f) (hg : Bit g) (h0 : 0 < val g 260) (hV : val g 260 ≤ 18446744073709551616) (w : World) :
  Calls (Tri Try.prog) 180 #[.agg (bv f), .agg (bv g)] w fun e w' => (∃ q r, Quo f g q r ∧ e = .returned (.tuple #[.agg (bv q), .agg (bv r)])) ∧ Below w.heap.size w w' := by
 have Hf := hide hf
 have Hg := hide hg
 have hz := zero54
 have HV := hide hV
 have H0 := hide (QInv.start f h0)
 clear hf hg hV h0
 go_enter (Tri.at (by decide) Try.func180), Try.ntmps180
 go_wp2_with fail
 go_loopw [8] (fun i wr => ∃ (k : Nat) (z : Int) (q r : Nat → Nat), k ≤ 260 ∧ Hid (z = (k : Int) - 1) ∧ i = .int .i64 z ∧ Hid (QInv f g q r k) ∧ Hid (QR w wr f g q r)) (fun i _ => (intOf i + 1).toNat)
 case atStart => exact ⟨260, 259, zb, zb, by omega, hide (by omega), rfl, H0, hide (QR.start w f g)⟩
 case round =>
  obtain ⟨k, z, q, r, hk, HZ, rfl, HI, HR⟩ := hrel
  clear H0
  rcases k with _ | m
  ·obtain rfl : z = -1 := by have := uh HZ; omega
   have HQ := hide (show Quo f g q r from ⟨(uh HI).1, (uh HI).2.1, (uh HI).done.1, (uh HI).done.2⟩)
   obtain ⟨uc, hrc⟩ := (uh HR).rc
   obtain ⟨ud, hrd⟩ := (uh HR).rd
   have tc := hrc.there
   have td := hrd.there
   have gq := (uh HR).rq.range
   have gr := (uh HR).rr.range
   have HBl := hide (uh HR).below
   have hl1 : (bv q).toList.length = 260 := by simp [bv_size]
   have hl2 : (bv r).toList.length = 260 := by simp [bv_size]
   have ho1 : ∀ v ∈ (bv q).toList, v.oneCell' = true := fun v hv => (Array.all_eq_true_iff_forall_mem.1 (bv_all q)) v (by simpa using hv)
   have ho2 : ∀ v ∈ (bv r).toList, v.oneCell' = true := fun v hv => (Array.all_eq_true_iff_forall_mem.1 (bv_all r)) v (by simpa using hv)
   have q1 : (bv q).toList.toArray = bv q := by simp
   have q2 : (bv r).toList.toArray = bv r := by simp
   have hu := (Tri.und Try.underlying199)
   have hi : ((Tri Try.prog).info? 199).map (·.size) = some 260 := (zero_of_info info199).2
   replace q1 := hide q1
   replace q2 := hide q2
   generalize (bv q).toList = cs at *
   generalize (bv r).toList = ds at *
   have hi1 : ((Tri Try.prog).info? 199).map (·.size) = some cs.length := by rw [hl1]; exact hi
   have hi2 : ((Tri Try.prog).info? 199).map (·.size) = some ds.length := by rw [hl2]; exact hi
   clear hrc hrd HR HI hi
   go_wp2_with fail
   have hSd : SQ w.heap.size cs ds wr.drew := ⟨gq, gr, tc, td⟩
   clear gq gr tc td
   refine wp_region_held_drew (S := SQ w.heap.size cs ds) (by kernel_rfl) hSd (fun hS => ?_)
   refine wpAnyH_take (i := 0) (v := .agg cs.toArray) rfl (by kernel_rfl) (by kernel_rfl) (by kernel_rfl) (fun _ _ _ h => h) (yieldsIf_load_mid (by rfl) 199 _ rfl _ _ rfl cs _ (fun w h => h.1) (Tri.und Try.underlying199) rfl hi1) hS ?_
   refine wpAnyH_take (i := 1) (v := .agg ds.toArray) rfl (by kernel_rfl) (by kernel_rfl) (by kernel_rfl) (fun _ _ _ h => h) (yieldsIf_load_mid (by rfl) 199 _ rfl _ _ rfl ds _ (fun w h => h.2.1) (Tri.und Try.underlying199) rfl hi2) hS ?_
   refine wpAnyH_all (rs := [2]) (by kernel_rfl) (by simp) (AllReadyH.cons (i := 2) rfl (fun K' hK => ?_) AllReadyH.nil)
   rw [if_pos (by rfl)]
   refine wp_store_mid 199 _ _ rfl (w.heap.size + 1 + 1) 0 cs.toArray rfl rfl (by simpa [hl1] using hS.2.2.1) (by simpa using hi1) (all_oneCell_toArray ho1) ?_
   refine hK.out _ _ (hS.set (by omega) _) (fun hS2 => ?_)
   refine wpAnyH_all (rs := [3]) (by kernel_rfl) (by simp) (AllReadyH.cons (i := 3) rfl (fun K2 hK2 => ?_) AllReadyH.nil)
   rw [if_pos (by rfl)]
   refine wp_store_mid 199 _ _ rfl (w.heap.size + 1 + 1 + 1) 0 ds.toArray rfl rfl (by simpa [hl2] using hS2.2.2.2) (by simpa using hi2) (all_oneCell_toArray ho2) ?_
   refine hK2.out _ _ (hS2.set (by omega) _) (fun hS3 => ?_)
   refine wpAnyH_done (by kernel_rfl) ?_ _
   have HB3 := hide (below_cells (B := w.heap.size) (a := w) (b := w.heap.size + 1 + 1 + 1) (by omega) ds 0 _ (below_cells (b := w.heap.size + 1 + 1) (by omega) cs 0 _ (below_drew (uh HBl))))
   obtain ⟨g1, g2⟩ := two_ranges (w := wr.drew) (b := w.heap.size + 1 + 1) (c := w.heap.size + 1 + 1 + 1) hl1 hl2 (by omega) hS.2.2.1 hS.2.2.2
   have G1 := hide g1
   have G2 := hide g2
   clear g1 g2 hS hS2 hS3 hSd hK hK2
   go_wp2_with fail
   refine bodyPost_ret (v := .tuple #[.agg cs.toArray, .agg ds.toArray]) (results54_2 rfl _ hl1 hl2 rfl rfl (uh G1) (uh G2)) rfl ⟨⟨q, r, uh HQ, ?_⟩, uh HB3⟩
   rw [uh q1, uh q2]
  ·obtain rfl : z = (m : Int) := by have := uh HZ; omega
   have hm : m < 260 := by omega
   go_wp2_with fail
   go_loopw [9] (fun i wr' => ∃ (n : Nat) (r1 : Nat → Nat), n < 260 ∧ i = .int .i64 n ∧ Hid (∀ j, r1 j = if n < j ∧ j < 260 then r (j - 1) else r j) ∧ Hid (QR w wr' f g q r1)) (fun i _ => (intOf i).toNat)
   case atStart => exact ⟨259, r, by omega, rfl, hide (fun j => by rw [if_neg (by omega)]), HR⟩
   case round =>
    obtain ⟨n, r1, hn, rfl, HS, HR1⟩ := hrel
    rcases n with _ | n
    ·have c1 := (uh HR1).ra.cell (i := m) hm
     have c2 := (uh HR1).rr.cell (i := 0) (by omega)
     have f2 := (uh HR1).rr.frozen 0
     have hfm := uh Hf m
     have HS2 := hide (shifted_of (b := f m) (uh HI).2.1 hfm (uh HS))
     have HR2 := hide ((uh HR1).setr 0 (f m))
     go_wp2_with fail
     clear c1 c2 f2 HR1 HS
     generalize wr.setCell ⟨w.heap.size + 1 + 1 + 1 + 1 + 1, 0, none⟩ (.int .u8 (f m)) = W at *
     generalize upd r1 0 (f m) = r2 at *
     refine wp_load54 (uh HR2).rr rfl rfl ?_
     go_wp2_with fail
     refine wp_load54 (uh HR2).rb rfl rfl ?_
     go_wp2_with fail
     refine (size_any r2 g (uh HS2).2.2 (uh Hg) _).mono ?_
     rintro e w2 ⟨rfl, hb⟩
     have HR3 := hide ((uh HR2).keep hb)
     clear hb HR2
     by_cases hl : val r2 260 < val g 260
     ·have HI2 := hide ((uh HI).less (uh HS2) (uh HV) hl)
      rw [ord_lt (by omega)]
      go_wp2_with fail
      go_roundw
      case rel => exact ⟨m, (m : Int) - 1, q, r2, by omega, hide rfl, by go_num, HI2, HR3⟩
      case measure => simp [intOf]
     ·have ho : decide (0 ≤ ord (val r2 260) (val g 260)) = true := decide_eq_true (by unfold ord; rw [if_neg (by omega)]; split <;> omega)
      have HM := hide (fun (h : Nat → Nat) (hM : Minus r2 g h) => (uh HI).more hm (uh Hf) (uh HS2) (uh HV) hl hM)
      generalize ord (val r2 260) (val g 260) = o at *
      clear hl
      go_wp2_with fail
      refine wp_load54 (uh HR3).rr rfl rfl ?_
      go_wp2_with fail
      refine wp_load54 (uh HR3).rb rfl rfl ?_
      go_wp2_with fail
      refine (minus_any r2 g (uh HS2).2.2 (uh Hg) _).mono ?_
      rintro e w3 ⟨⟨h, hM, rfl⟩, hb⟩
      have HI2 := hide (uh HM h hM)
      have HR4 := (uh HR3).keep hb
      have hst := store54c h HR4.rr
      have HR5 := hide (HR4.putr h)
      clear hb HR3 HR4 hM HM
      generalize w3.setRow (w.heap.size + 1 + 1 + 1 + 1 + 1) (bv h) = W5 at *
      have c6 := (uh HR5).rq.cell (i := m) hm
      have f6 := (uh HR5).rq.frozen m
      have HR6 := hide ((uh HR5).setq m 1)
      go_wp2_with fail
      go_roundw
      case rel => exact ⟨m, (m : Int) - 1, upd q m 1, h, by omega, hide rfl, by go_num, HI2, HR6⟩
      case measure => simp [intOf]
    ·have c1 := (uh HR1).rr.cell (i := n) (by omega)
     have c2 := (uh HR1).rr.cell (i := n + 1) (by omega)
     have f2 := (uh HR1).rr.frozen (n + 1)
     have e1 : ((n + 1 : Nat) : Int) - 1 = (n : Int) := by omega
     go_wp2_with fail
     go_roundw
     case rel => exact ⟨n, _, by omega, by go_num, hide (shift_step hn (uh HS)), hide ((uh HR1).setr (n + 1) (r1 n))⟩
     case measure => simp [intOf]
def gv (l : Bool) (f : Nat → Nat) : Array Value := ((List.range 261).map fun i => if i = 0 then Value.bool l else Value.int .u8 (f (i - 1))).toArray
theorem gv_size (l : Bool) (f : Nat → Nat) : (gv l f).size = 261 := by simp [gv]
theorem gv_zero (l : Bool) (f : Nat → Nat) : (gv l f)[0]? = some (.bool l) := by simp [gv]
theorem gv_get {l : Bool} {f : Nat → Nat} {i : Nat} (h : i < 260) : (gv l f)[1 + i]? = some (.int .u8 (f i)) := by
 have e : ¬ 1 + i = 0 := by omega
 have e2 : 1 + i - 1 = i := by omega
 have e3 : 1 + i < 261 := by omega
 simp [gv, e2, e3, e]
theorem gv_all (l : Bool) (f : Nat → Nat) : (gv l f).all (·.oneCell') = true := by
 rw [Array.all_eq_true]
 intro i h
 rw [gv_size] at h
 rcases i with _ | i
 ·have := gv_zero l f
  rw [Array.getElem?_eq_getElem (by rw [gv_size]; exact h)] at this
  rw [Option.some.inj this]
  rfl
 ·have := gv_get (l := l) (f := f) (i := i) (by omega)
  rw [show 1 + i = i + 1 by omega, Array.getElem?_eq_getElem (by rw [gv_size]; exact h)] at this
  rw [Option.some.inj this]
  rfl
theorem gv_ext {l : Bool} {f : Nat → Nat} {c : Array Value} (hs : c.size = 261) (h0 : c[0]? = some (.bool l)) (h : ∀ i, i < 260 → c[1 + i]? = some (.int .u8 (f i))) : c = gv l f := by
 apply Array.ext_getElem?
 intro j
 by_cases hj : j < 261
 ·rcases j with _ | j
  ·rw [h0, gv_zero]
  ·rw [show j + 1 = 1 + j by omega, h j (by omega), gv_get (by omega)]
 ·rw [Array.getElem?_eq_none (by omega), Array.getElem?_eq_none (by rw [gv_size]; omega)]
theorem gv_set {l : Bool} {f : Nat → Nat} {k v : Nat} : (gv l f).setIfInBounds (1 + k) (.int .u8 v) = gv l (upd f k v) := by
 refine gv_ext (by rw [Array.size_setIfInBounds, gv_size]) ?_ (fun i hi => ?_)
 ·rw [Array.getElem?_setIfInBounds, if_neg (by omega), gv_zero]
 ·rw [Array.getElem?_setIfInBounds, gv_size]
  unfold upd
  by_cases e : k = i
  ·subst e; rw [if_pos rfl, if_pos (by omega), if_pos rfl]
  ·rw [if_neg (by omega), if_neg (fun h => e h.symm), gv_get hi]
theorem gv_less {l m : Bool} {f : Nat → Nat} : (gv l f).setIfInBounds 0 (.bool m) = gv m f := by
 refine gv_ext (by rw [Array.size_setIfInBounds, gv_size]) ?_ (fun i hi => ?_)
 ·rw [Array.getElem?_setIfInBounds, if_pos rfl, if_pos (by rw [gv_size]; omega)]
 ·rw [Array.getElem?_setIfInBounds, if_neg (by omega), gv_get hi]
def GRow (w : World) (b : Nat) (l : Bool) (f : Nat → Nat) : Prop := w.heap[b]? = some (.cells (gv l f) 201 (0, 0))
theorem GRow.less {w : World} {b : Nat} {l : Bool} {f : Nat → Nat} (h : GRow w b l f) : w.cell? ⟨b, 0, none⟩ = some (.bool l) := by rw [cell_of_row w b 0 _ _ _ h]; exact gv_zero l f
theorem GRow.cell {w : World} {b : Nat} {l : Bool} {f : Nat → Nat} (h : GRow w b l f) {i : Nat} (hi : i < 260) : w.cell? ⟨b, 1 + i, none⟩ = some (.int .u8 (f i)) := by rw [cell_of_row w b (1 + i) _ _ _ h]; exact gv_get hi
theorem GRow.frozen {w : World} {b : Nat} {l : Bool} {f : Nat → Nat} (h : GRow w b l f) (i : Nat) : w.frozen? ⟨b, i, none⟩ = false := frozen_of_row w b i _ _ h
theorem GRow.lt {w : World} {b : Nat} {l : Bool} {f : Nat → Nat} (h : GRow w b l f) : b < w.heap.size := (Array.getElem?_eq_some_iff.1 h).1
theorem GRow.set {w : World} {b : Nat} {l : Bool} {f : Nat → Nat} (h : GRow w b l f) (k v : Nat) : GRow (w.setCell ⟨b, 1 + k, none⟩ (.int .u8 v)) b l (upd f k v) := by
 unfold GRow
 rw [Go.heap_setCell_same w b (1 + k) _ _ _ h, gv_set]
theorem GRow.other {w : World} {b : Nat} {l : Bool} {f : Nat → Nat} (h : GRow w b l f) {a : Addr} (ha : b ≠ a.block) (v : Value) : GRow (w.setCell a v) b l f := (heap_setCell_other w a b v ha).trans h
theorem GRow.alloc {w : World} {b : Nat} {l : Bool} {f : Nat → Nat} (h : GRow w b l f) (o : Obj) : GRow (w.alloc o) b l f := (Below.heap_alloc w o b h.lt).trans h
theorem GRow.keep {w w' : World} {B b : Nat} {l : Bool} {f : Nat → Nat} (h : GRow w b l f) (hb : Below B w w') (hB : b < B) : GRow w' b l f := (hb.block b hB).trans h
theorem GRow.new (w : World) (l : Bool) (f : Nat → Nat) : GRow (w.alloc (.cells (gv l f) 201)) w.heap.size l f := heap_alloc_new w _
theorem GRow.putOther {w : World} {b c : Nat} {l : Bool} {f : Nat → Nat} (h : GRow w b l f) (hc : c ≠ b) (g : Array Value) : GRow (w.setRow c g) b l f := by
 unfold GRow at *
 simp [World.setRow, Array.getElem?_modify, h, hc]
theorem GRow.put {w : World} {b : Nat} {l m : Bool} {f : Nat → Nat} (h : GRow w b l f) (g : Nat → Nat) : GRow (w.setRow b (gv m g)) b m g := by
 unfold GRow at *
 simp [World.setRow, Array.getElem?_modify, h]
theorem info201 : ((Tri Try.prog).info? 201).map (fun i => (i.zero, i.size)) = some (some (.agg (gv false zb)), 261) := by kernel_rfl
theorem zero56 (w : World) : (zeroValue 201).run (Tri Try.prog) w = .ok (.agg (gv false zb)) w := (zero_of_info info201).1 w
theorem size56 (l : Bool) (f : Nat → Nat) : ((Tri Try.prog).info? 201).map (·.size) = some (gv l f).size := by rw [gv_size]; exact (zero_of_info info201).2
theorem store56c {w : World} {b : Nat} {l : Bool} {f : Nat → Nat} (m : Bool) (g : Nat → Nat) (h : GRow w b l f) : (storeCells ⟨b, 0, none⟩ (gv m g).toList).run (Tri Try.prog) w = .ok () (w.setRow b (gv m g)) := by
 have := run_storeVar_row (P := (Tri Try.prog)) w b 201 201 (gv l f) (gv m g) h (size56 m g) (by rw [gv_size, gv_size]) (gv_all m g)
 have hi := size56 m g
 cases hq : (Tri Try.prog).info? 201 with
 | none => simp [hq] at hi
 | some i =>
  have hs : (gv m g).size = i.size := by simp [hq] at hi; omega
  simpa [storeVar, sizeOf, typeInfo, hq, Value.cells, hs] using this
theorem wp_load56 {o : Oper} {a : Act} {w : World} {K : Act → World → Prop} {Q : Exit → Act → World → Prop} {x : Operand} {b : Nat} {l : Bool} {f : Nat → Nat} (hr : GRow w b l f) (ho : o.op = .load 201 x) (hx : a.eval x = .pointer (some ⟨b, 0, none⟩))
  (h : K (a.put o.dst (.agg (gv l f))) w) : o.wp (Tri Try.prog) a w K Q := wp_load_row 201 x ho b hx 201 (gv l f) (0, 0) _ hr (Tri.und Try.underlying201) rfl (size56 l f) h
theorem results56 {fn : Func} {p : Tmp} (h : fn.results = #[.cell p 201]) (tmps : Array Value) {w : World} {b : Nat} {l : Bool} {f : Nat → Nat} (hp : tmps.getD p undef = .pointer (some ⟨b, 0, none⟩)) (hr : GRow w b l f) :
  (results fn tmps).run (Tri Try.prog) w = .ok (.agg (gv l f)) w := results_cell_row h tmps w b 201 (gv l f) (0, 0) _ hp hr (Tri.und Try.underlying201) rfl (size56 l f)
theorem big_start (w : World) (x : Array Value) (t : TypeId) (l : Bool) : GRow (((w.alloc (.cells x t)).alloc (.cells (gv false zb) 201)).alloc (.cells ((gv false zb).setIfInBounds 0 (.bool l)) 201)) (w.heap.size + 1) false zb ∧
  GRow (((w.alloc (.cells x t)).alloc (.cells (gv false zb) 201)).alloc (.cells ((gv false zb).setIfInBounds 0 (.bool l)) 201)) (w.heap.size + 1 + 1) l zb ∧
  Below w.heap.size w (((w.alloc (.cells x t)).alloc (.cells (gv false zb) 201)).alloc (.cells ((gv false zb).setIfInBounds 0 (.bool l)) 201)) ∧
  (((w.alloc (.cells x t)).alloc (.cells (gv false zb) 201)).alloc (.cells ((gv false zb).setIfInBounds 0 (.bool l)) 201)).heap[w.heap.size]? = some (.cells x t (0, 0)) := by
 rw [gv_less]
 have h0 := heap_alloc_new w (.cells x t)
 have hb := (Below.refl w.heap.size w).alloc (Nat.le_refl _) (.cells x t)
 have hs : (w.alloc (.cells x t)).heap.size = w.heap.size + 1 := by simp
 generalize w.alloc (.cells x t) = W at *
 have g1 := GRow.new W false zb
 have hs1 : (W.alloc (.cells (gv false zb) 201)).heap.size = W.heap.size + 1 := by simp
 have h1 := (Below.heap_alloc W (.cells (gv false zb) 201) w.heap.size (by omega)).trans h0
 have hb1 := hb.alloc (by omega) (.cells (gv false zb) 201)
 generalize W.alloc (.cells (gv false zb) 201) = V at *
 have g2 := GRow.new V l zb
 rw [hs1, hs] at g2
 rw [hs] at g1
 exact ⟨g1.alloc _, g2, hb1.alloc (by omega) _, (Below.heap_alloc V _ w.heap.size (by omega)).trans h1⟩
theorem and_one_u (n : Int) : bits .and .u64 n 1 = n % 2 := by
 show IntKind.u64.wrap ((BitVec.ofInt 64 n &&& BitVec.ofInt 64 1).toNat : Int) = n % 2
 rw [BitVec.toNat_and, show (BitVec.ofInt 64 1).toNat = 1 from by decide, Nat.and_one_is_mod, BitVec.toNat_ofInt, IntKind.wrap_u64]
 omega
theorem and_one_i (n : Int) : bits .and .i64 n 1 = n % 2 := by
 show IntKind.i64.wrap ((BitVec.ofInt 64 n &&& BitVec.ofInt 64 1).toNat : Int) = n % 2
 rw [BitVec.toNat_and, show (BitVec.ofInt 64 1).toNat = 1 from by decide, Nat.and_one_is_mod, BitVec.toNat_ofInt, IntKind.wrap_i64]
 omega
theorem P2_pow : ∀ m, ((P2 m : Nat) : Int) = 2 ^ m
 | 0 => rfl
 | m + 1 => by rw [P2_succ, Int.natCast_mul, P2_pow m, Int.pow_succ]; rfl
theorem P2_pos (m : Nat) : 0 < P2 m := Nat.lt_of_lt_of_le (show 0 < P2 0 by show 0 < 1; omega) (by have := P2_mono 0 m; rwa [Nat.zero_add] at this)
theorem P2_add (a : Nat) : ∀ b, P2 (a + b) = P2 a * P2 b
 | 0 => by show P2 a = P2 a * 1; omega
 | b + 1 => by show P2 (a + b) * 2 = P2 a * (P2 b * 2); rw [P2_add a b, Nat.mul_assoc]
theorem P2_64 : P2 64 = 18446744073709551616 := by decide +kernel
theorem val_bits (n : Int) : ∀ m, ((val (fun j => (n / 2 ^ j % 2).toNat) m : Nat) : Int) = n % (P2 m : Int)
 | 0 => by show (0 : Int) = n % 1; omega
 | m + 1 => by
  show ((val (fun j => (n / 2 ^ j % 2).toNat) m + (n / 2 ^ m % 2).toNat * P2 m : Nat) : Int) = n % ((P2 m * 2 : Nat) : Int)
  rw [Int.natCast_add, val_bits n m, Int.natCast_mul, Int.natCast_mul, ← P2_pow m]
  have hp := P2_pos m
  generalize P2 m = p at *
  have e1 : n % (p : Int) + (p : Int) * (n / (p : Int)) = n := Int.emod_add_mul_ediv n p
  have r0 := Int.emod_nonneg n (show (p : Int) ≠ 0 by omega)
  have r1 := Int.emod_lt_of_pos n (show 0 < (p : Int) by omega)
  generalize hq : n / (p : Int) = q at *
  generalize n % (p : Int) = r at *
  have e2 : q % 2 + 2 * (q / 2) = q := Int.emod_add_mul_ediv q 2
  have b0 := Int.emod_nonneg q (show (2 : Int) ≠ 0 by omega)
  have b1 := Int.emod_lt_of_pos q (show (0 : Int) < 2 by omega)
  generalize q % 2 = b at *
  generalize q / 2 = t at *
  have hbn : (b.toNat : Int) = b := Int.toNat_of_nonneg b0
  have e3 : n = (r + b * p) + (p : Int) * 2 * t := by
   rw [← e1, ← e2, Int.mul_add, Int.mul_comm b p, Int.mul_assoc]
   omega
  rw [hbn, show ((2 : Nat) : Int) = 2 from rfl, e3, Int.add_mul_emod_self_left]
  symm
  refine Int.emod_eq_of_lt ?_ ?_
  ·rcases (show b = 0 ∨ b = 1 by omega) with rfl | rfl
   ·show 0 ≤ r + 0 * (p : Int); omega
   ·show 0 ≤ r + 1 * (p : Int); omega
  ·rcases (show b = 0 ∨ b = 1 by omega) with rfl | rfl
   ·show r + 0 * (p : Int) < (p : Int) * 2; omega
   ·show r + 1 * (p : Int) < (p : Int) * 2; omega
theorem val_split (f : Nat → Nat) (a : Nat) : ∀ b, val f (a + b) = val f a + P2 a * val (fun j => f (a + j)) b
 | 0 => by show val f a = val f a + P2 a * 0; omega
 | b + 1 => by
  show val f (a + b) + f (a + b) * P2 (a + b) = val f a + P2 a * (val (fun j => f (a + j)) b + f (a + b) * P2 b)
  rw [val_split f a b, P2_add, Nat.mul_add, Nat.mul_left_comm (P2 a) (f (a + b)) (P2 b)]
  omega
def ub (H L : Int) (k : Nat) : Nat := if k < 64 then (L / 2 ^ k % 2).toNat else (H / 2 ^ (k - 64) % 2).toNat
theorem ub_lo {H L : Int} {k : Nat} (h : k < 64) : bits .and .u64 (L / 2 ^ k) 1 = (ub H L k : Int) := by
 rw [and_one_u]; unfold ub; rw [if_pos h]; omega
theorem ub_hi {H L : Int} {k : Nat} (h : ¬ k < 64) : bits .and .i64 (H / 2 ^ (k - 64)) 1 = (ub H L k : Int) := by
 rw [and_one_i]; unfold ub; rw [if_neg h]; omega
theorem ub_bit (H L : Int) : Bit (ub H L) := by
 intro k
 unfold ub
 split <;> omega
theorem val_ub {H L : Int} (h0 : 0 ≤ L) (h1 : L < 18446744073709551616) : ((val (ub H L) 128 : Nat) : Int) = L + 18446744073709551616 * (H % 18446744073709551616) := by
 rw [val_split (ub H L) 64 64, Int.natCast_add, Int.natCast_mul,
  val_congr (f := ub H L) (g := fun j => (L / 2 ^ j % 2).toNat) (n := 64) (fun i hi => by unfold ub; rw [if_pos hi]),
  val_congr (f := fun j => ub H L (64 + j)) (g := fun j => (H / 2 ^ j % 2).toNat) (n := 64) (fun i hi => by show ub H L (64 + i) = _; unfold ub; rw [if_neg (by omega), Nat.add_sub_cancel_left]),
  val_bits, val_bits, P2_64]
 show L % 18446744073709551616 + 18446744073709551616 * (H % 18446744073709551616) = _
 omega
theorem val_top0 {f : Nat → Nat} {k : Nat} (h : ∀ j, k ≤ j → f j = 0) : ∀ m, val f (k + m) = val f k
 | 0 => rfl
 | m + 1 => by show val f (k + m) + f (k + m) * P2 (k + m) = val f k; rw [val_top0 h m, h _ (by omega)]; omega
theorem neg_step {u h : Nat → Nat} {k c b d : Nat} (H : val h k + val u k = c * P2 k) (e : c + b + u k = 2 * d) : val (upd h k b) (k + 1) + val u (k + 1) = d * P2 (k + 1) := by
 rw [val_upd]
 show val h k + b * P2 k + (val u k + u k * P2 k) = d * (P2 k * 2)
 have e2 : (c + b + u k) * P2 k = 2 * d * P2 k := by rw [e]
 rw [Nat.add_mul, Nat.add_mul] at e2
 rw [show d * (P2 k * 2) = 2 * d * P2 k by rw [Nat.mul_comm (P2 k) 2, ← Nat.mul_assoc, Nat.mul_comm d 2]]
 omega
theorem pos_step {u h : Nat → Nat} {k b : Nat} (H : val h k = val u k) (e : b = u k) : val (upd h k b) (k + 1) = val u (k + 1) := by
 rw [val_upd, H, e]
 rfl
theorem zero_step {h : Nat → Nat} {k b : Nat} (H : ∀ j, k ≤ j → h j = 0) : ∀ j, k + 1 ≤ j → upd h k b j = 0 := by
 intro j hj
 unfold upd
 rw [if_neg (by omega)]
 exact H j (by omega)
set_option maxRecDepth 20000 in
theorem big_neg (H L : Int) (hH : decide (H < 0) = true) (w : World) : Calls (Tri Try.prog) 178 #[.agg #[.int .i64 H, .int .u64 L]] w fun e w' => (∃ f, (Bit f ∧ ∃ c, c ≤ 1 ∧ val f 260 + val (ub H L) 128 = c * P2 128) ∧ e = .returned (.agg (gv true f))) ∧ Below w.heap.size w w' := by
 have hz := zero56
 have g0 := gv_zero false zb
 go_enter (Tri.at (by decide) Try.func178), Try.ntmps178
 go_wp2_with fail
 go_loopw [4, 5] (fun cr i wr => ∃ (k c : Nat) (h : Nat → Nat), k ≤ 128 ∧ i = .int .i64 k ∧ cr = .int .u8 c ∧ c ≤ 1 ∧ Hid (Bit h) ∧ Hid (∀ j, k ≤ j → h j = 0) ∧ Hid (val h k + val (ub H L) k = c * P2 k) ∧ Hid (wr.heap[w.heap.size]? = some (.cells #[.int .i64 H, .int .u64 L] 215 (0, 0))) ∧ Hid (∃ l u, GRow wr (w.heap.size + 1) l u) ∧ Hid (GRow wr (w.heap.size + 1 + 1) true h) ∧ Hid (Below w.heap.size w wr)) (fun _ i _ => 128 - (intOf i).toNat)
 case atStart =>
  obtain ⟨a, b, c, d⟩ := big_start w #[.int .i64 H, .int .u64 L] 215 true
  exact ⟨0, 0, zb, by omega, rfl, rfl, by omega, hide (fun _ => by simp [zb]), hide (fun _ _ => rfl), hide rfl, hide d, hide ⟨_, _, a⟩, hide b, hide c⟩
 case round =>
  obtain ⟨k, c, h, hk, rfl, rfl, hc, HH, HZ, HV, R0, R1, R2, HB⟩ := hrel
  have cH : wr.cell? ⟨w.heap.size, 0, none⟩ = some (.int .i64 H) := cell_of_row wr _ 0 _ _ _ (uh R0)
  have cL : wr.cell? ⟨w.heap.size, 1, none⟩ = some (.int .u64 L) := cell_of_row wr _ 1 _ _ _ (uh R0)
  have cs := (uh R2).less
  by_cases hlt : k < 128
  ·have ck := (uh R2).cell (i := k) (by omega)
   have fk := (uh R2).frozen (1 + k)
   have HS := hide (fun (b d : Nat) => neg_step (u := ub H L) (h := h) (k := k) (c := c) (b := b) (d := d) (uh HV))
   have hub := ub_bit H L k
   generalize h k = z at *
   by_cases h64 : k < 64
   ·have hbit := ub_lo (H := H) (L := L) h64
    generalize ub H L k = y at *
    have hy : y = 0 ∨ y = 1 := by omega
    have hc' : c = 0 ∨ c = 1 := by omega
    clear hub hc HV
    rcases hy with rfl | rfl <;> rcases hc' with rfl | rfl
    ·go_wp2_with fail
     go_roundw
     case rel => exact ⟨k + 1, 0, upd h k 0, by omega, by go_num, rfl, by omega, hide (bit_upd (uh HH) (by omega)), hide (zero_step (uh HZ)), hide (uh HS 0 0 (by omega)), hide ((heap_setCell_other wr _ w.heap.size _ (by show w.heap.size ≠ w.heap.size + 1 + 1; omega)).trans (uh R0)), hide ((uh R1).imp fun _ e => e.imp fun _ r => r.other (by show w.heap.size + 1 ≠ w.heap.size + 1 + 1; omega) _), hide ((uh R2).set k 0), hide ((uh HB).setCell (by show w.heap.size ≤ w.heap.size + 1 + 1; omega) _)⟩
     case measure => simp [intOf]; omega
    ·go_wp2_with fail
     go_roundw
     case rel => exact ⟨k + 1, 1, upd h k 1, by omega, by go_num, rfl, by omega, hide (bit_upd (uh HH) (by omega)), hide (zero_step (uh HZ)), hide (uh HS 1 1 (by omega)), hide ((heap_setCell_other wr _ w.heap.size _ (by show w.heap.size ≠ w.heap.size + 1 + 1; omega)).trans (uh R0)), hide ((uh R1).imp fun _ e => e.imp fun _ r => r.other (by show w.heap.size + 1 ≠ w.heap.size + 1 + 1; omega) _), hide ((uh R2).set k 1), hide ((uh HB).setCell (by show w.heap.size ≤ w.heap.size + 1 + 1; omega) _)⟩
     case measure => simp [intOf]; omega
    ·go_wp2_with fail
     go_roundw
     case rel => exact ⟨k + 1, 1, upd h k 1, by omega, by go_num, rfl, by omega, hide (bit_upd (uh HH) (by omega)), hide (zero_step (uh HZ)), hide (uh HS 1 1 (by omega)), hide ((heap_setCell_other wr _ w.heap.size _ (by show w.heap.size ≠ w.heap.size + 1 + 1; omega)).trans (uh R0)), hide ((uh R1).imp fun _ e => e.imp fun _ r => r.other (by show w.heap.size + 1 ≠ w.heap.size + 1 + 1; omega) _), hide ((uh R2).set k 1), hide ((uh HB).setCell (by show w.heap.size ≤ w.heap.size + 1 + 1; omega) _)⟩
     case measure => simp [intOf]; omega
    ·go_wp2_with fail
     go_roundw
     case rel => exact ⟨k + 1, 1, upd h k 0, by omega, by go_num, rfl, by omega, hide (bit_upd (uh HH) (by omega)), hide (zero_step (uh HZ)), hide (uh HS 0 1 (by omega)), hide ((heap_setCell_other wr _ w.heap.size _ (by show w.heap.size ≠ w.heap.size + 1 + 1; omega)).trans (uh R0)), hide ((uh R1).imp fun _ e => e.imp fun _ r => r.other (by show w.heap.size + 1 ≠ w.heap.size + 1 + 1; omega) _), hide ((uh R2).set k 0), hide ((uh HB).setCell (by show w.heap.size ≤ w.heap.size + 1 + 1; omega) _)⟩
     case measure => simp [intOf]; omega
   ·have hbit := ub_hi (H := H) (L := L) h64
    generalize ub H L k = y at *
    have hy : y = 0 ∨ y = 1 := by omega
    have hc' : c = 0 ∨ c = 1 := by omega
    clear hub hc HV
    rcases hy with rfl | rfl <;> rcases hc' with rfl | rfl
    ·go_wp2_with fail
     go_roundw
     case rel => exact ⟨k + 1, 0, upd h k 0, by omega, by go_num, rfl, by omega, hide (bit_upd (uh HH) (by omega)), hide (zero_step (uh HZ)), hide (uh HS 0 0 (by omega)), hide ((heap_setCell_other wr _ w.heap.size _ (by show w.heap.size ≠ w.heap.size + 1 + 1; omega)).trans (uh R0)), hide ((uh R1).imp fun _ e => e.imp fun _ r => r.other (by show w.heap.size + 1 ≠ w.heap.size + 1 + 1; omega) _), hide ((uh R2).set k 0), hide ((uh HB).setCell (by show w.heap.size ≤ w.heap.size + 1 + 1; omega) _)⟩
     case measure => simp [intOf]; omega
    ·go_wp2_with fail
     go_roundw
     case rel => exact ⟨k + 1, 1, upd h k 1, by omega, by go_num, rfl, by omega, hide (bit_upd (uh HH) (by omega)), hide (zero_step (uh HZ)), hide (uh HS 1 1 (by omega)), hide ((heap_setCell_other wr _ w.heap.size _ (by show w.heap.size ≠ w.heap.size + 1 + 1; omega)).trans (uh R0)), hide ((uh R1).imp fun _ e => e.imp fun _ r => r.other (by show w.heap.size + 1 ≠ w.heap.size + 1 + 1; omega) _), hide ((uh R2).set k 1), hide ((uh HB).setCell (by show w.heap.size ≤ w.heap.size + 1 + 1; omega) _)⟩
     case measure => simp [intOf]; omega
    ·go_wp2_with fail
     go_roundw
     case rel => exact ⟨k + 1, 1, upd h k 1, by omega, by go_num, rfl, by omega, hide (bit_upd (uh HH) (by omega)), hide (zero_step (uh HZ)), hide (uh HS 1 1 (by omega)), hide ((heap_setCell_other wr _ w.heap.size _ (by show w.heap.size ≠ w.heap.size + 1 + 1; omega)).trans (uh R0)), hide ((uh R1).imp fun _ e => e.imp fun _ r => r.other (by show w.heap.size + 1 ≠ w.heap.size + 1 + 1; omega) _), hide ((uh R2).set k 1), hide ((uh HB).setCell (by show w.heap.size ≤ w.heap.size + 1 + 1; omega) _)⟩
     case measure => simp [intOf]; omega
    ·go_wp2_with fail
     go_roundw
     case rel => exact ⟨k + 1, 1, upd h k 0, by omega, by go_num, rfl, by omega, hide (bit_upd (uh HH) (by omega)), hide (zero_step (uh HZ)), hide (uh HS 0 1 (by omega)), hide ((heap_setCell_other wr _ w.heap.size _ (by show w.heap.size ≠ w.heap.size + 1 + 1; omega)).trans (uh R0)), hide ((uh R1).imp fun _ e => e.imp fun _ r => r.other (by show w.heap.size + 1 ≠ w.heap.size + 1 + 1; omega) _), hide ((uh R2).set k 0), hide ((uh HB).setCell (by show w.heap.size ≤ w.heap.size + 1 + 1; omega) _)⟩
     case measure => simp [intOf]; omega
  ·obtain rfl : k = 128 := by omega
   obtain ⟨m, v, R1'⟩ := uh R1
   have HP := hide (show Bit h ∧ ∃ c, c ≤ 1 ∧ val h 260 + val (ub H L) 128 = c * P2 128 from ⟨uh HH, c, hc, by rw [show (260 : Nat) = 128 + 132 from rfl, val_top0 (uh HZ)]; exact uh HV⟩)
   have hst := store56c true h R1'
   have Rr := hide (R1'.put (m := true) h)
   have HB2 := hide (below_put (uh HB) (b := w.heap.size + 1) (by omega) (gv true h))
   clear HV R1 R1' cH cL cs
   go_wp2_with fail
   refine wp_load56 (uh R2) rfl rfl ?_
   go_wp2_with fail
   refine bodyPost_ret (v := .agg (gv true h)) (results56 rfl _ rfl (uh Rr)) rfl ⟨⟨h, uh HP, rfl⟩, uh HB2⟩
set_option maxRecDepth 20000 in
theorem big_pos (H L : Int) (hH : decide (H < 0) = false) (w : World) : Calls (Tri Try.prog) 178 #[.agg #[.int .i64 H, .int .u64 L]] w fun e w' => (∃ f, (Bit f ∧ ∃ c, c ≤ 1 ∧ val f 260 = val (ub H L) 128) ∧ e = .returned (.agg (gv false f))) ∧ Below w.heap.size w w' := by
 have hz := zero56
 have g0 := gv_zero false zb
 go_enter (Tri.at (by decide) Try.func178), Try.ntmps178
 go_wp2_with fail
 go_loopw [4, 5] (fun cr i wr => ∃ (k c : Nat) (h : Nat → Nat), k ≤ 128 ∧ i = .int .i64 k ∧ cr = .int .u8 c ∧ c ≤ 0 ∧ Hid (Bit h) ∧ Hid (∀ j, k ≤ j → h j = 0) ∧ Hid (val h k = val (ub H L) k) ∧ Hid (wr.heap[w.heap.size]? = some (.cells #[.int .i64 H, .int .u64 L] 215 (0, 0))) ∧ Hid (∃ l u, GRow wr (w.heap.size + 1) l u) ∧ Hid (GRow wr (w.heap.size + 1 + 1) false h) ∧ Hid (Below w.heap.size w wr)) (fun _ i _ => 128 - (intOf i).toNat)
 case atStart =>
  obtain ⟨a, b, c, d⟩ := big_start w #[.int .i64 H, .int .u64 L] 215 false
  exact ⟨0, 0, zb, by omega, rfl, rfl, by omega, hide (fun _ => by simp [zb]), hide (fun _ _ => rfl), hide rfl, hide d, hide ⟨_, _, a⟩, hide b, hide c⟩
 case round =>
  obtain ⟨k, c, h, hk, rfl, rfl, hc, HH, HZ, HV, R0, R1, R2, HB⟩ := hrel
  have cH : wr.cell? ⟨w.heap.size, 0, none⟩ = some (.int .i64 H) := cell_of_row wr _ 0 _ _ _ (uh R0)
  have cL : wr.cell? ⟨w.heap.size, 1, none⟩ = some (.int .u64 L) := cell_of_row wr _ 1 _ _ _ (uh R0)
  have cs := (uh R2).less
  by_cases hlt : k < 128
  ·have ck := (uh R2).cell (i := k) (by omega)
   have fk := (uh R2).frozen (1 + k)
   have HS := hide (fun (b : Nat) => pos_step (u := ub H L) (h := h) (k := k) (b := b) (uh HV))
   have hub := ub_bit H L k
   generalize h k = z at *
   by_cases h64 : k < 64
   ·have hbit := ub_lo (H := H) (L := L) h64
    generalize ub H L k = y at *
    have hy : y = 0 ∨ y = 1 := by omega
    have hc' : c = 0 := by omega
    clear hub hc HV
    rcases hy with rfl | rfl <;> rcases hc' with rfl
    ·go_wp2_with fail
     go_roundw
     case rel => exact ⟨k + 1, 0, upd h k 0, by omega, by go_num, rfl, by omega, hide (bit_upd (uh HH) (by omega)), hide (zero_step (uh HZ)), hide (uh HS 0 rfl), hide ((heap_setCell_other wr _ w.heap.size _ (by show w.heap.size ≠ w.heap.size + 1 + 1; omega)).trans (uh R0)), hide ((uh R1).imp fun _ e => e.imp fun _ r => r.other (by show w.heap.size + 1 ≠ w.heap.size + 1 + 1; omega) _), hide ((uh R2).set k 0), hide ((uh HB).setCell (by show w.heap.size ≤ w.heap.size + 1 + 1; omega) _)⟩
     case measure => simp [intOf]; omega
    ·go_wp2_with fail
     go_roundw
     case rel => exact ⟨k + 1, 0, upd h k 1, by omega, by go_num, rfl, by omega, hide (bit_upd (uh HH) (by omega)), hide (zero_step (uh HZ)), hide (uh HS 1 rfl), hide ((heap_setCell_other wr _ w.heap.size _ (by show w.heap.size ≠ w.heap.size + 1 + 1; omega)).trans (uh R0)), hide ((uh R1).imp fun _ e => e.imp fun _ r => r.other (by show w.heap.size + 1 ≠ w.heap.size + 1 + 1; omega) _), hide ((uh R2).set k 1), hide ((uh HB).setCell (by show w.heap.size ≤ w.heap.size + 1 + 1; omega) _)⟩
     case measure => simp [intOf]; omega
   ·have hbit := ub_hi (H := H) (L := L) h64
    generalize ub H L k = y at *
    have hy : y = 0 ∨ y = 1 := by omega
    have hc' : c = 0 := by omega
    clear hub hc HV
    rcases hy with rfl | rfl <;> rcases hc' with rfl
    ·go_wp2_with fail
     go_roundw
     case rel => exact ⟨k + 1, 0, upd h k 0, by omega, by go_num, rfl, by omega, hide (bit_upd (uh HH) (by omega)), hide (zero_step (uh HZ)), hide (uh HS 0 rfl), hide ((heap_setCell_other wr _ w.heap.size _ (by show w.heap.size ≠ w.heap.size + 1 + 1; omega)).trans (uh R0)), hide ((uh R1).imp fun _ e => e.imp fun _ r => r.other (by show w.heap.size + 1 ≠ w.heap.size + 1 + 1; omega) _), hide ((uh R2).set k 0), hide ((uh HB).setCell (by show w.heap.size ≤ w.heap.size + 1 + 1; omega) _)⟩
     case measure => simp [intOf]; omega
    ·go_wp2_with fail
     go_roundw
     case rel => exact ⟨k + 1, 0, upd h k 1, by omega, by go_num, rfl, by omega, hide (bit_upd (uh HH) (by omega)), hide (zero_step (uh HZ)), hide (uh HS 1 rfl), hide ((heap_setCell_other wr _ w.heap.size _ (by show w.heap.size ≠ w.heap.size + 1 + 1; omega)).trans (uh R0)), hide ((uh R1).imp fun _ e => e.imp fun _ r => r.other (by show w.heap.size + 1 ≠ w.heap.size + 1 + 1; omega) _), hide ((uh R2).set k 1), hide ((uh HB).setCell (by show w.heap.size ≤ w.heap.size + 1 + 1; omega) _)⟩
     case measure => simp [intOf]; omega
  ·obtain rfl : k = 128 := by omega
   obtain ⟨m, v, R1'⟩ := uh R1
   have HP := hide (show Bit h ∧ ∃ c, c ≤ 1 ∧ val h 260 = val (ub H L) 128 from ⟨uh HH, 0, by omega, by rw [show (260 : Nat) = 128 + 132 from rfl, val_top0 (uh HZ)]; exact uh HV⟩)
   have hst := store56c false h R1'
   have Rr := hide (R1'.put (m := false) h)
   have HB2 := hide (below_put (uh HB) (b := w.heap.size + 1) (by omega) (gv false h))
   clear HV R1 R1' cH cL cs
   go_wp2_with fail
   refine wp_load56 (uh R2) rfl rfl ?_
   go_wp2_with fail
   refine bodyPost_ret (v := .agg (gv false h)) (results56 rfl _ rfl (uh Rr)) rfl ⟨⟨h, uh HP, rfl⟩, uh HB2⟩
def Big (X : Int) (l : Bool) (f : Nat → Nat) : Prop := Bit f ∧ l = decide (X < 0) ∧ val f 260 = X.natAbs
theorem P2_128 : P2 128 = 340282366920938463463374607431768211456 := by decide +kernel
theorem big_any (X : Int) (hX : In128 X) (w : World) : Calls (Tri Try.prog) 178 #[.agg #[.int .i64 (hi X), .int .u64 (lo X)]] w fun e w' => (∃ l f, Big X l f ∧ e = .returned (.agg (gv l f))) ∧ Below w.heap.size w w' := by
 have hv := val_ub (H := hi X) (L := lo X) (by unfold lo; omega) (by unfold lo; omega)
 have hb := hi_bd X
 have e := hilo hX
 have l0 : 0 ≤ lo X := by unfold lo; omega
 have l1 : lo X < 18446744073709551616 := by unfold lo; omega
 generalize hi X = H at *
 generalize lo X = L at *
 by_cases hH : H < 0
 ·refine (big_neg H L (decide_eq_true hH) w).mono ?_
  rintro z w' ⟨⟨f, ⟨hf, c, hc, hs⟩, rfl⟩, hB⟩
  refine ⟨⟨true, f, ⟨hf, (decide_eq_true (by omega)).symm, ?_⟩, rfl⟩, hB⟩
  rw [P2_128] at hs
  rcases (show c = 0 ∨ c = 1 by omega) with rfl | rfl
  ·omega
  ·omega
 ·refine (big_pos H L (decide_eq_false hH) w).mono ?_
  rintro z w' ⟨⟨f, ⟨hf, c, hc, hs⟩, rfl⟩, hB⟩
  refine ⟨⟨false, f, ⟨hf, (decide_eq_false (by omega)).symm, ?_⟩, rfl⟩, hB⟩
  omega
theorem rof_any (n : Int) (h : In64 n) (w : World) : Calls (Tri Try.prog) 179 #[.int .i64 n] w fun e w' => e = .returned (.agg #[.int .i64 (hi n), .int .u64 (lo n)]) ∧ Below w.heap.size w w' := by
 have h1 := h.lo; have h2 := h.hi
 by_cases hn : n < 0
 ·have t := decide_eq_true hn
  have e1 := hide (show hi n = -1 by unfold hi wrap64; omega)
  go_enter (Tri.at (by decide) Try.func179), Try.ntmps179
  go_wp2_with fail
  refine bodyPost_ret (v := .agg #[.int .i64 (-1), .int .u64 (IntKind.u64.wrap n)]) (by simp [results, Try.results179, go_sem]) rfl ⟨?_, (Below.refl _ _).alloc (Nat.le_refl _) _⟩
  rw [uh e1, IntKind.wrap_u64]
  rfl
 ·have t := decide_eq_false hn
  have e1 := hide (show hi n = 0 by unfold hi wrap64; omega)
  have e2 := hide (show lo n = n by unfold lo; omega)
  go_enter (Tri.at (by decide) Try.func179), Try.ntmps179
  go_wp2_with fail
  refine bodyPost_ret (v := .agg #[.int .i64 0, .int .u64 n]) (by simp [results, Try.results179, go_sem]) rfl ⟨?_, (Below.refl _ _).alloc (Nat.le_refl _) _⟩
  rw [uh e1, uh e2]
theorem cells_block {b : Nat} {t : TypeId} : ∀ (vs : List Value) (o : Nat) (w : World) (c : Array Value), w.heap[b]? = some (.cells c t (0, 0)) → ∃ c' : Array Value, (w.setCells b o vs).heap[b]? = some (.cells c' t (0, 0)) ∧ c'.size = c.size
 | [], _, _, c, h => ⟨c, h, rfl⟩
 | v :: r, o, w, c, h => by
  obtain ⟨c', h', e⟩ := cells_block r (o + 1) (w.setCell ⟨b, o, none⟩ v) _ (Go.heap_setCell_same w b o _ _ v h)
  exact ⟨c', h', by rw [e, Array.size_setIfInBounds]⟩
theorem cells_other {b c : Nat} (hc : c ≠ b) : ∀ (vs : List Value) (o : Nat) (w : World), (w.setCells b o vs).heap[c]? = w.heap[c]?
 | [], _, _ => rfl
 | v :: r, o, w => (cells_other hc r (o + 1) _).trans (heap_setCell_other w _ c v hc)
theorem GRow.range {w : World} {b : Nat} {l : Bool} {f : Nat → Nat} (h : GRow w b l f) : w.rangeAt b 1 (bv f).toList := by
 intro j v hv
 have hj : j < 260 := by
  have := (List.getElem?_eq_some_iff.1 hv).1
  simpa [bv_size] using this
 rw [h.cell hj, ← hv]
 rw [Array.getElem?_toList, bv_get hj]
theorem GRow.there {w : World} {b : Nat} {l : Bool} {f : Nat → Nat} (h : GRow w b l f) : w.there b 1 260 := by
 intro j hj
 exact ⟨by rw [h.cell hj]; rfl, h.frozen _⟩
theorem GRow.setB {w : World} {b : Nat} {l : Bool} {f : Nat → Nat} (h : GRow w b l f) (g : Nat → Nat) : GRow (w.setCells b 1 (bv g).toList) b l g := by
 obtain ⟨c, hc, hs⟩ := cells_block (bv g).toList 1 w _ h
 have hl : (bv g).toList.length = 260 := by simp [bv_size]
 unfold GRow
 rw [hc, gv_ext (l := l) (f := g) (c := c) (by rw [hs, gv_size]) ?_ ?_]
 ·rw [← cell_of_row _ b 0 c _ _ hc, World.cell?_setCells_out b _ _ _ _ (fun _ _ => Or.inl (by show 0 < 1; omega))]
  exact h.less
 ·intro i hi
  rw [← cell_of_row _ b (1 + i) c _ _ hc, World.cell?_setCells_in b _ _ _ (fun j hj => (h.there j (by omega)).1) i (by omega)]
  have := bv_get (f := g) hi
  rw [← Array.getElem?_toList, List.getElem?_eq_getElem (by omega)] at this
  exact this
theorem GRow.setBOther {w : World} {b c : Nat} {l : Bool} {f : Nat → Nat} (h : GRow w b l f) (hc : b ≠ c) (vs : List Value) (o : Nat) : GRow (w.setCells c o vs) b l f := (cells_other hc vs o w).trans h
theorem storeB {w : World} {b : Nat} {l : Bool} {f : Nat → Nat} (g : Nat → Nat) (h : GRow w b l f) : (storeCells ⟨b, 1, none⟩ (bv g).toList).run (Tri Try.prog) w = .ok () (w.setCells b 1 (bv g).toList) := by
 have hl : (bv g).toList.length = 260 := by simp [bv_size]
 have := run_storeCells_cells (P := (Tri Try.prog)) b 1 (bv g).toList 0 w (fun j hj => by simpa using (h.there j (by omega)).1) (fun j hj => by simpa using (h.there j (by omega)).2)
  (fun v hv => (Array.all_eq_true_iff_forall_mem.1 (bv_all g)) v (by simpa using hv))
 simpa using this
theorem wp_loadB {o : Oper} {a : Act} {w : World} {K : Act → World → Prop} {Q : Exit → Act → World → Prop} {x : Operand} {b : Nat} {l : Bool} {f : Nat → Nat} (hr : GRow w b l f) (ho : o.op = .load 199 x) (hx : a.eval x = .pointer (some ⟨b, 1, none⟩))
  (h : K (a.put o.dst (.agg (bv f))) w) : o.wp (Tri Try.prog) a w K Q :=
 wp_load_mid 199 x ho b 1 hx (bv f).toList _ hr.range (Tri.und Try.underlying199) rfl (by rw [show (bv f).toList.length = (bv f).size by simp]; exact size54 f) (by simpa using h)
def mv (f : Nat → Nat) (i k : Nat) : Nat → Nat := fun j => if i ≤ j ∧ j < i + k then f (j - i) else 0
theorem mv_zero (f : Nat → Nat) (i : Nat) : mv f i 0 = zb := by
 funext j
 unfold mv zb
 rw [if_neg (by omega)]
theorem mv_step (f : Nat → Nat) (i k : Nat) : upd (mv f i k) (k + i) (f k) = mv f i (k + 1) := by
 funext j
 unfold upd mv
 by_cases e : j = k + i
 ·subst e
  rw [if_pos rfl, if_pos (by omega), show k + i - i = k by omega]
 ·rw [if_neg e]
  by_cases c : i ≤ j ∧ j < i + k
  ·rw [if_pos c, if_pos (by omega)]
  ·rw [if_neg c, if_neg (by omega)]
theorem mv_bit {f : Nat → Nat} (hf : Bit f) (i k : Nat) : Bit (mv f i k) := by
 intro j
 unfold mv
 split
 ·exact hf _
 ·omega
theorem val_lo0 {f : Nat → Nat} : ∀ {i : Nat}, (∀ j, j < i → f j = 0) → val f i = 0
 | 0, _ => rfl
 | i + 1, h => by show val f i + f i * P2 i = 0; rw [val_lo0 (fun j hj => h j (by omega)), h i (by omega)]; omega
theorem val_mv (f : Nat → Nat) {i : Nat} (hi : i < 64) : val (mv f i 64) 260 = P2 i * val f 64 := by
 have h1 : val (mv f i 64) 260 = val (mv f i 64) (i + 64) := by
  have := val_top0 (f := mv f i 64) (k := i + 64) (fun j hj => by unfold mv; rw [if_neg (by omega)]) (260 - (i + 64))
  rwa [show i + 64 + (260 - (i + 64)) = 260 by omega] at this
 rw [h1, val_split, val_lo0 (fun j hj => by unfold mv; rw [if_neg (by omega)]), Nat.zero_add,
  val_congr (f := fun j => mv f i 64 (i + j)) (g := f) (n := 64) (fun j hj => by show mv f i 64 (i + j) = f j; unfold mv; rw [if_pos (by omega), Nat.add_sub_cancel_left])]
theorem in128_of {n : Int} (h : In64 n) : In128 n := ⟨by have := h.lo; omega, by have := h.hi; omega⟩
theorem two_big (v : World) (lx : Bool) (fx : Nat → Nat) (ly : Bool) (fy : Nat → Nat) : ∃ W6 W7 : World,
  (storeCells ⟨v.heap.size, 0, none⟩ (gv lx fx).toList).run (Tri Try.prog) ((v.alloc (.cells (gv false zb) 201)).alloc (.cells (gv false zb) 201)) = .ok () W6 ∧
  (storeCells ⟨v.heap.size + 1, 0, none⟩ (gv ly fy).toList).run (Tri Try.prog) W6 = .ok () W7 ∧ GRow W7 v.heap.size lx fx ∧ GRow W7 (v.heap.size + 1) ly fy ∧ Below v.heap.size v W7 ∧ W7.heap.size = v.heap.size + 1 + 1 := by
 have g5 := (GRow.new v false zb).alloc (.cells (gv false zb) 201)
 have g6 := GRow.new (v.alloc (.cells (gv false zb) 201)) false zb
 rw [show (v.alloc (.cells (gv false zb) 201)).heap.size = v.heap.size + 1 by simp] at g6
 have b := ((Below.refl v.heap.size v).alloc (Nat.le_refl _) (.cells (gv false zb) 201)).alloc (by simp) (.cells (gv false zb) 201)
 have hs : ((v.alloc (.cells (gv false zb) 201)).alloc (.cells (gv false zb) 201)).heap.size = v.heap.size + 1 + 1 := by simp
 generalize (v.alloc (.cells (gv false zb) 201)).alloc (.cells (gv false zb) 201) = V at *
 refine ⟨_, _, store56c lx fx g5, store56c ly fy (g6.putOther (by omega) _), ?_, ?_, ?_, ?_⟩
 ·exact (g5.put (m := lx) fx).putOther (by omega) _
 ·exact (g6.putOther (by omega) _).put (m := ly) fy
 ·exact below_put (below_put b (by omega) _) (by omega) _
 ·rw [setRow_size, setRow_size, hs]
theorem gv_tl (m : Bool) : (gv false zb).toList.set 0 (.bool m) = (gv m zb).toList := by
 rw [← gv_less (l := false) (m := m) (f := zb), Array.toList_setIfInBounds]
structure TR (w : World) (n : Nat) (wr : World) (lx : Bool) (fx : Nat → Nat) (ly : Bool) (fy : Nat → Nat) (sg : Bool) (h : Nat → Nat) : Prop where
 rx : GRow wr n lx fx
 ry : GRow wr (n + 1) ly fy
 ro : GRow wr (n + 1 + 1) sg h
 rr : ∃ l u, GRow wr w.heap.size l u
 lt : w.heap.size < n
 below : Below w.heap.size w wr
theorem TR.keep {w wr w2 : World} {n : Nat} {lx ly sg : Bool} {fx fy h : Nat → Nat} (t : TR w n wr lx fx ly fy sg h) (hb : Below wr.heap.size wr w2) : TR w n w2 lx fx ly fy sg h :=
 ⟨t.rx.keep hb t.rx.lt, t.ry.keep hb t.ry.lt, t.ro.keep hb t.ro.lt, t.rr.imp fun _ e => e.imp fun _ r => r.keep hb r.lt, t.lt, below_via t.below hb⟩
theorem TR.alloc {w wr : World} {n : Nat} {lx ly sg : Bool} {fx fy h : Nat → Nat} (t : TR w n wr lx fx ly fy sg h) (o : Obj) : TR w n (wr.alloc o) lx fx ly fy sg h := t.keep ((Below.refl _ _).alloc (Nat.le_refl _) o)
theorem TR.set {w wr : World} {n : Nat} {lx ly sg : Bool} {fx fy h : Nat → Nat} (t : TR w n wr lx fx ly fy sg h) {a : Addr} (ha : n + 1 + 1 < a.block) (v : Value) : TR w n (wr.setCell a v) lx fx ly fy sg h :=
 ⟨t.rx.other (by omega) _, t.ry.other (by omega) _, t.ro.other (by omega) _, t.rr.imp fun _ e => e.imp fun _ r => r.other (by have := t.lt; omega) _, t.lt, t.below.setCell (by have := t.lt; omega) _⟩
theorem TR.setB {w wr : World} {n : Nat} {lx ly sg : Bool} {fx fy h : Nat → Nat} (t : TR w n wr lx fx ly fy sg h) (g : Nat → Nat) : TR w n (wr.setCells (n + 1 + 1) 1 (bv g).toList) lx fx ly fy sg g :=
 ⟨t.rx.setBOther (by omega) _ _, t.ry.setBOther (by omega) _ _, t.ro.setB g, t.rr.imp fun _ e => e.imp fun _ r => r.setBOther (by have := t.lt; omega) _ _, t.lt, below_cells (by have := t.lt; omega) _ _ _ t.below⟩
theorem out_start (v : World) (sg : Bool) : ∃ V : World, (storeCells ⟨v.heap.size, 0, none⟩ ((gv false zb).toList.set 0 (.bool sg))).run (Tri Try.prog) (v.alloc (.cells (gv false zb) 201)) = .ok () V ∧ GRow V v.heap.size sg zb ∧ Below v.heap.size v V := by
 have g := GRow.new v false zb
 have b := (Below.refl v.heap.size v).alloc (Nat.le_refl _) (.cells (gv false zb) 201)
 generalize v.alloc (.cells (gv false zb) 201) = V at *
 rw [gv_tl]
 exact ⟨_, store56c sg zb g, g.put (m := sg) zb, below_put b (Nat.le_refl _) _⟩
def Prod (A : Nat) (fy h : Nat → Nat) (k : Nat) : Prop := Bit h ∧ val h 260 = A * val fy k
theorem Prod.start (A : Nat) (fy : Nat → Nat) : Prod A fy zb 0 := ⟨fun _ => by simp [zb], by rw [val_zb]; show 0 = A * 0; omega⟩
theorem Prod.skip {A : Nat} {fy h : Nat → Nat} {k : Nat} (p : Prod A fy h k) (h0 : fy k = 0) : Prod A fy h (k + 1) := ⟨p.1, by rw [p.2]; show A * val fy k = A * (val fy k + fy k * P2 k); rw [h0, Nat.zero_mul, Nat.add_zero]⟩
theorem small_260 : 340282366920938463463374607431768211456 ≤ P2 260 := by
 have := P2_mono 128 132
 rwa [P2_128] at this
theorem Prod.more {A : Nat} {fx fy h h2 : Nat → Nat} {k : Nat} (hk : k < 64) (hf : Bit fy) (hA : A ≤ 9223372036854775808) (hx : val fx 64 = A) (p : Prod A fy h k) (h1 : fy k = 1) (q : Plus h (mv fx k 64) h2) : Prod A fy h2 (k + 1) := by
 obtain ⟨hb, c, hc, e⟩ := q
 have v1 := val_lt hf k
 have v2 := val_lt hf (k + 1)
 have m1 := P2_mono (k + 1) (64 - (k + 1))
 rw [show k + 1 + (64 - (k + 1)) = 64 by omega, P2_64] at m1
 have e1 : val fy (k + 1) = val fy k + 1 * P2 k := by show val fy k + fy k * P2 k = _; rw [h1]
 rw [p.2, val_mv fx hk, hx, Nat.mul_comm (P2 k) A, ← Nat.mul_add, show val fy k + P2 k = val fy (k + 1) by omega] at e
 have m2 : A * val fy (k + 1) ≤ 9223372036854775808 * 18446744073709551616 := Nat.mul_le_mul hA (by omega)
 have s := small_260
 refine ⟨hb, ?_⟩
 rcases (show c = 0 ∨ c = 1 by omega) with rfl | rfl
 ·omega
 ·omega
theorem big_64 {a : Int} {l : Bool} {f : Nat → Nat} (ha : In64 a) (h : Big a l f) : val f 64 = a.natAbs ∧ a.natAbs ≤ 9223372036854775808 := by
 obtain ⟨hb, _, hv⟩ := h
 have h1 := ha.lo
 have h2 := ha.hi
 have hn : a.natAbs ≤ 9223372036854775808 := by omega
 refine ⟨?_, hn⟩
 have e := val_split f 64 196
 rw [show 64 + 196 = 260 from rfl, hv, P2_64] at e
 have : val (fun j => f (64 + j)) 196 = 0 := by
  rcases Nat.eq_zero_or_pos (val (fun j => f (64 + j)) 196) with z | z
  ·exact z
  ·omega
 rw [this] at e
 omega
def Times (a b : Int) (l : Bool) (f : Nat → Nat) : Prop := Bit f ∧ l = (decide (a < 0) != decide (b < 0)) ∧ val f 260 = a.natAbs * b.natAbs
set_option maxRecDepth 20000 in
theorem times_any (a b : Int) (ha : In64 a) (hb : In64 b) (w : World) : Calls (Tri Try.prog) 167 #[.int .i64 a, .int .i64 b] w fun e w' => (∃ l f, Times a b l f ∧ e = .returned (.agg (gv l f))) ∧ Below w.heap.size w w' := by
 have hz := zero56
 have hz4 := zero54
 have HA := hide ha
 have HB := hide hb
 clear ha hb
 go_enter (Tri.at (by decide) Try.func167), Try.ntmps167
 go_wp2_with fail
 refine (rof_any a (uh HA) _).mono ?_
 rintro e w1 ⟨rfl, hb1⟩
 have R := (GRow.new w false zb).keep hb1 (by simp)
 have B := below_via ((Below.refl _ _).alloc (Nat.le_refl _) _) hb1
 replace R := hide R
 replace B := hide B
 clear hb1
 go_wp2_with fail
 refine (big_any a (in128_of (uh HA)) _).mono ?_
 rintro e w2 ⟨⟨lx, fx, hX, rfl⟩, hb2⟩
 replace R := hide ((uh R).keep hb2 (uh R).lt)
 replace B := hide (below_via (uh B) hb2)
 replace hX := hide hX
 clear hb2
 go_wp2_with fail
 refine (rof_any b (uh HB) _).mono ?_
 rintro e w3 ⟨rfl, hb3⟩
 replace R := hide ((uh R).keep hb3 (uh R).lt)
 replace B := hide (below_via (uh B) hb3)
 clear hb3
 go_wp2_with fail
 refine (big_any b (in128_of (uh HB)) _).mono ?_
 rintro e w4 ⟨⟨ly, fy, hY, rfl⟩, hb4⟩
 replace R := hide ((uh R).keep hb4 (uh R).lt)
 replace B := hide (below_via (uh B) hb4)
 replace hY := hide hY
 clear hb4
 obtain ⟨W6, W7, s5, s6, gx, gy, bw, hs⟩ := two_big w4 lx fx ly fy
 obtain ⟨W8, s8, g8, b8⟩ := out_start W7 (!(lx == ly))
 rw [hs] at s8 g8
 have hgs := gv_size false zb
 have cx := gx.less
 have cy := gy.less
 have HT := hide (show TR w w4.heap.size W8 lx fx ly fy (!(lx == ly)) zb from ⟨gx.keep b8 gx.lt, gy.keep b8 gy.lt, g8, ⟨_, _, ((uh R).keep bw (uh R).lt).keep b8 (Nat.lt_of_lt_of_le (uh R).lt bw.size)⟩, (uh R).lt, below_via (below_via (uh B) bw) b8⟩)
 have HP := hide (Prod.start a.natAbs fy)
 replace gx := hide gx
 replace gy := hide gy
 clear R B bw b8 g8
 go_wp2_with fail
 clear s5 s6 s8 cx cy gx gy hs
 go_loopw [8] (fun i wr => ∃ (k : Nat) (h : Nat → Nat), k ≤ 64 ∧ i = .int .i64 k ∧ Hid (Prod a.natAbs fy h k) ∧ Hid (TR w w4.heap.size wr lx fx ly fy (!(lx == ly)) h)) (fun i _ => 64 - (intOf i).toNat)
 case atStart => exact ⟨0, zb, by omega, rfl, HP, HT⟩
 case round =>
  obtain ⟨k, h, hk, rfl, HP, HT⟩ := hrel
  by_cases hlt : k < 64
  ·have ck := (uh HT).ry.cell (i := k) (by omega)
   have hyk := (uh hY).1 k
   have HF := hide (fun (e : fy k = 0) => (uh HP).skip e)
   have HG := hide (fun (e : fy k = 1) (h2 : Nat → Nat) (q : Plus h (mv fx k 64) h2) => (uh HP).more hlt (uh hY).1 (big_64 (uh HA) (uh hX)).2 (big_64 (uh HA) (uh hX)).1 e q)
   generalize fy k = y at *
   have hy : y = 0 ∨ y = 1 := by omega
   clear hyk
   rcases hy with rfl | rfl
   ·go_wp2_with fail
    go_roundw
    case rel => exact ⟨k + 1, h, by omega, by go_num, hide (uh HF rfl), HT⟩
    case measure => simp [intOf]; omega
   ·obtain ⟨b9, hb9⟩ : ∃ b9, wr.heap.size = b9 := ⟨_, rfl⟩
    have h9 : w4.heap.size + 1 + 1 < b9 := by rw [← hb9]; exact (uh HT).ro.lt
    have HT2 := hide ((uh HT).alloc (.cells (bv zb) 199))
    have HR2 := hide (show Row (wr.alloc (.cells (bv zb) 199)) b9 (mv fx k 0) by rw [mv_zero, ← hb9]; exact Row.new wr zb)
    go_wp2_with fail
    clear ck hb9
    go_loopw [10] (fun i wr' => ∃ m : Nat, m ≤ 64 ∧ i = .int .i64 m ∧ Hid (Row wr' b9 (mv fx k m)) ∧ Hid (TR w w4.heap.size wr' lx fx ly fy (!(lx == ly)) h)) (fun i _ => 64 - (intOf i).toNat)
    case atStart => exact ⟨0, by omega, rfl, HR2, HT2⟩
    case round =>
     obtain ⟨m, hm, rfl, HR3, HT3⟩ := hrel
     by_cases hm2 : m < 64
     ·have cx := (uh HT3).rx.cell (i := m) (by omega)
      have cm := (uh HR3).cell (i := m + k) (by omega)
      have fm := (uh HR3).frozen (m + k)
      have hmk : m + k < 260 := by omega
      have HR4 := hide ((uh HR3).set (m + k) (fx m))
      have HT4 := hide ((uh HT3).set (a := ⟨b9, m + k, none⟩) h9 (.int .u8 (fx m)))
      rw [mv_step] at HR4
      go_wp2_with fail
      go_roundw
      case rel => exact ⟨m + 1, by omega, by go_num, HR4, HT4⟩
      case measure => simp [intOf]; omega
     ·obtain rfl : m = 64 := by omega
      go_wp2_with fail
      refine wp_loadB (uh HT3).ro rfl rfl ?_
      go_wp2_with fail
      refine wp_load54 (uh HR3) rfl rfl ?_
      go_wp2_with fail
      refine (plus_any h (mv fx k 64) (uh HP).1 (mv_bit (uh hX).1 k 64) _).mono ?_
      rintro e w5 ⟨⟨h2, hP2, rfl⟩, hb5⟩
      have HT5 := (uh HT3).keep hb5
      have hst := storeB h2 HT5.ro
      have HT6 := hide (HT5.setB h2)
      have HP2 := hide (uh HG trivial h2 hP2)
      clear hb5 hP2 HT5
      generalize w5.setCells (w4.heap.size + 1 + 1) 1 (bv h2).toList = W9 at *
      go_wp2_with fail
      go_roundw
      case rel => exact ⟨k + 1, h2, by omega, by go_num, HP2, HT6⟩
      case measure => simp [intOf]; omega
  ·obtain rfl : k = 64 := by omega
   obtain ⟨l, u, R⟩ := (uh HT).rr
   have HQ := hide (show Times a b (!(lx == ly)) h from ⟨(uh HP).1, by rw [(uh hX).2.1, (uh hY).2.1]; rfl, by rw [(uh HP).2, (big_64 (uh HB) (uh hY)).1]⟩)
   have hst := store56c (!(lx == ly)) h R
   have Rr := hide (R.put (m := !(lx == ly)) h)
   have HB2 := hide (below_put (uh HT).below (b := w.heap.size) (Nat.le_refl _) (gv (!(lx == ly)) h))
   clear R HP
   generalize (!(lx == ly)) = sg at *
   go_wp2_with fail
   refine wp_load56 (uh HT).ro rfl rfl ?_
   go_wp2_with fail
   refine bodyPost_ret (v := .agg (gv sg h)) (results56 rfl _ rfl (uh Rr)) rfl ⟨⟨sg, h, uh HQ, rfl⟩, uh HB2⟩
theorem bv_tl (k v : Nat) : (bv zb).toList.set k (.int .u8 v) = (bv (upd zb k v)).toList := by
 rw [← bv_set (f := zb) (k := k) (v := v), Array.toList_setIfInBounds]
theorem bits_start (v : World) (g : Nat → Nat) : ∃ V : World, (storeCells ⟨v.heap.size, 0, none⟩ (bv g).toList).run (Tri Try.prog) (v.alloc (.cells (bv zb) 199)) = .ok () V ∧ Row V v.heap.size g ∧ Below v.heap.size v V ∧ V.heap.size = v.heap.size + 1 := by
 have r := Row.new v zb
 have b := (Below.refl v.heap.size v).alloc (Nat.le_refl _) (.cells (bv zb) 199)
 have hs : (v.alloc (.cells (bv zb) 199)).heap.size = v.heap.size + 1 := by simp
 generalize v.alloc (.cells (bv zb) 199) = V at *
 exact ⟨_, store54c g r, r.put g, below_put b (Nat.le_refl _) _, by rw [setRow_size, hs]⟩
theorem lim_bit (k : Nat) : Bit (upd zb k 1) := bit_upd (fun _ => by simp [zb]) (by omega)
theorem val_lim {k : Nat} (hk : k < 260) : val (upd zb k 1) 260 = P2 k := by
 rw [val_put (f := zb) rfl hk, val_zb]
 omega
theorem P2_63 : P2 63 = 9223372036854775808 := by decide +kernel
theorem bv_tl1 (k : Nat) : (bv zb).toList.set k (.int .u8 1) = (bv (upd zb k 1)).toList := bv_tl k 1
theorem P2_npow : ∀ m, P2 m = 2 ^ m
 | 0 => rfl
 | m + 1 => by rw [P2_succ, P2_npow m, Nat.pow_succ]
theorem val_64 {f : Nat → Nat} (h : val f 260 < 18446744073709551616) : val f 64 = val f 260 := by
 have e := val_split f 64 196
 rw [show 64 + 196 = 260 from rfl, P2_64] at e
 have : val (fun j => f (64 + j)) 196 = 0 := by
  rcases Nat.eq_zero_or_pos (val (fun j => f (64 + j)) 196) with z | z
  ·exact z
  ·omega
 rw [this] at e
 omega
theorem or_bit {f : Nat → Nat} (hf : Bit f) {k : Nat} (hk : k < 64) : bits .or .u64 ((val f k : Nat) : Int) (IntKind.u64.wrap ((f k : Int) * 2 ^ k)) = ((val f (k + 1) : Nat) : Int) := by
 show _ = ((val f k + f k * P2 k : Nat) : Int)
 have hv := val_lt hf k
 have h1 := hf k
 have hm := P2_mono k (64 - k)
 have hm2 := P2_mono (k + 1) (64 - (k + 1))
 rw [show k + (64 - k) = 64 by omega, P2_64] at hm
 rw [show k + 1 + (64 - (k + 1)) = 64 by omega, P2_64, P2_succ] at hm2
 rw [← P2_pow k]
 generalize f k = b at *
 have hw : IntKind.u64.wrap ((b : Int) * (P2 k : Int)) = ((b * P2 k : Nat) : Int) := by
  rw [IntKind.wrap_u64, ← Int.natCast_mul]
  rcases (show b = 0 ∨ b = 1 by omega) with rfl | rfl <;> omega
 rw [hw]
 show IntKind.u64.wrap ((BitVec.ofInt 64 ((val f k : Nat) : Int) ||| BitVec.ofInt 64 ((b * P2 k : Nat) : Int)).toNat : Int) = _
 rw [BitVec.ofInt_natCast, BitVec.ofInt_natCast, BitVec.toNat_or, BitVec.toNat_ofNat, BitVec.toNat_ofNat, IntKind.wrap_u64, Nat.mod_eq_of_lt (a := val f k) (by omega)]
 rcases (show b = 0 ∨ b = 1 by omega) with rfl | rfl
 ·rw [Nat.zero_mul, Nat.zero_mod, Nat.or_zero]
  omega
 ·rw [Nat.one_mul, Nat.mod_eq_of_lt (by omega), P2_npow k, Nat.or_comm]
  have := Nat.two_pow_add_eq_or_of_lt (i := k) (b := val f k) (by rw [← P2_npow]; exact hv) 1
  rw [Nat.mul_one] at this
  rw [← this, ← P2_npow]
  omega
set_option maxRecDepth 20000 in
theorem small_out (l : Bool) (f : Nat → Nat) (hf : Bit f) (hv : 9223372036854775808 < val f 260) (w : World) : Calls (Tri Try.prog) 183 #[.agg (gv l f)] w fun e w' => e = .returned (.tuple #[.int .i64 0, .bool false]) ∧ Below w.heap.size w w' := by
 have hz4 := zero54
 have HF := hide hf
 clear hf
 obtain ⟨V, s1, r1, b1, hs1⟩ := bits_start (w.alloc (.cells (gv l f) 201)) (upd zb 63 1)
 rw [← bv_tl1] at s1
 have hg := GRow.new w l f
 replace hg := hide (hg.keep b1 (by simp))
 replace b1 := hide (below_via ((Below.refl _ _).alloc (Nat.le_refl _) _) b1)
 replace r1 := hide r1
 have hsz : (w.alloc (.cells (gv l f) 201)).heap.size = w.heap.size + 1 := by simp
 rw [hsz] at s1 r1
 clear hs1 hsz
 have gs := bv_size zb
 have HV := hide hv
 have HO := hide (show ord (val f 260 : Int) ((P2 63 : Nat) : Int) = 1 by rw [P2_63]; exact ord_gt (by omega))
 clear hv
 go_enter (Tri.at (by decide) Try.func183), Try.ntmps183
 go_wp2_with fail
 clear s1
 refine wp_loadB (uh hg) rfl rfl ?_
 go_wp2_with fail
 refine wp_load54 (uh r1) rfl rfl ?_
 go_wp2_with fail
 refine (size_any f (upd zb 63 1) (uh HF) (lim_bit 63) _).mono ?_
 rintro e w2 ⟨rfl, hb2⟩
 replace hg := hide ((uh hg).keep hb2 (uh hg).lt)
 replace b1 := hide (below_via (uh b1) hb2)
 clear hb2 r1 gs hz4
 rw [val_lim (by omega), uh HO]
 clear HO
 have cl := (uh hg).less
 go_wp2_with fail
 go_ret2
 exact ⟨rfl, uh b1⟩
set_option maxRecDepth 20000 in
theorem small_top (f : Nat → Nat) (hf : Bit f) (hv : val f 260 = 9223372036854775808) (w : World) : Calls (Tri Try.prog) 183 #[.agg (gv false f)] w fun e w' => e = .returned (.tuple #[.int .i64 0, .bool false]) ∧ Below w.heap.size w w' := by
 have hz4 := zero54
 have HF := hide hf
 clear hf
 obtain ⟨V, s1, r1, b1, hs1⟩ := bits_start (w.alloc (.cells (gv false f) 201)) (upd zb 63 1)
 rw [← bv_tl1] at s1
 have hg := GRow.new w false f
 replace hg := hide (hg.keep b1 (by simp))
 replace b1 := hide (below_via ((Below.refl _ _).alloc (Nat.le_refl _) _) b1)
 replace r1 := hide r1
 have hsz : (w.alloc (.cells (gv false f) 201)).heap.size = w.heap.size + 1 := by simp
 rw [hsz] at s1 r1
 clear hs1 hsz
 have gs := bv_size zb
 have HV := hide hv
 have HO := hide (show ord (val f 260 : Int) ((P2 63 : Nat) : Int) = 0 by rw [P2_63]; exact (by rw [hv]; exact ord_same _))
 clear hv
 go_enter (Tri.at (by decide) Try.func183), Try.ntmps183
 go_wp2_with fail
 clear s1
 refine wp_loadB (uh hg) rfl rfl ?_
 go_wp2_with fail
 refine wp_load54 (uh r1) rfl rfl ?_
 go_wp2_with fail
 refine (size_any f (upd zb 63 1) (uh HF) (lim_bit 63) _).mono ?_
 rintro e w2 ⟨rfl, hb2⟩
 replace hg := hide ((uh hg).keep hb2 (uh hg).lt)
 replace b1 := hide (below_via (uh b1) hb2)
 clear hb2 r1 gs hz4
 rw [val_lim (by omega), uh HO]
 clear HO
 have cl := (uh hg).less
 go_wp2_with fail
 go_ret2
 exact ⟨rfl, uh b1⟩
set_option maxRecDepth 20000 in
theorem small_neg (f : Nat → Nat) (hf : Bit f) (hv : val f 260 < 9223372036854775808) (w : World) : Calls (Tri Try.prog) 183 #[.agg (gv true f)] w fun e w' => e = .returned (.tuple #[.int .i64 (-(val f 260 : Int)), .bool true]) ∧ Below w.heap.size w w' := by
 have hz4 := zero54
 have HF := hide hf
 clear hf
 obtain ⟨V, s1, r1, b1, hs1⟩ := bits_start (w.alloc (.cells (gv true f) 201)) (upd zb 63 1)
 rw [← bv_tl1] at s1
 have hg := GRow.new w true f
 replace hg := hide (hg.keep b1 (by simp))
 replace b1 := hide (below_via ((Below.refl _ _).alloc (Nat.le_refl _) _) b1)
 replace r1 := hide r1
 have hsz : (w.alloc (.cells (gv true f) 201)).heap.size = w.heap.size + 1 := by simp
 rw [hsz] at s1 r1
 clear hs1 hsz
 have gs := bv_size zb
 have HV := hide hv
 have HO := hide (show ord (val f 260 : Int) ((P2 63 : Nat) : Int) = (-1) by rw [P2_63]; exact ord_lt (by omega))
 clear hv
 go_enter (Tri.at (by decide) Try.func183), Try.ntmps183
 go_wp2_with fail
 clear s1
 refine wp_loadB (uh hg) rfl rfl ?_
 go_wp2_with fail
 refine wp_load54 (uh r1) rfl rfl ?_
 go_wp2_with fail
 refine (size_any f (upd zb 63 1) (uh HF) (lim_bit 63) _).mono ?_
 rintro e w2 ⟨rfl, hb2⟩
 replace hg := hide ((uh hg).keep hb2 (uh hg).lt)
 replace b1 := hide (below_via (uh b1) hb2)
 clear hb2 r1 gs hz4
 rw [val_lim (by omega), uh HO]
 clear HO
 have cl := (uh hg).less
 go_wp2_with fail
 go_loopw [6, 7] (fun n i wr => ∃ k : Nat, k ≤ 64 ∧ i = .int .i64 k ∧ n = .int .u64 (val f k : Nat) ∧ Hid (GRow wr w.heap.size true f) ∧ Hid (Below w.heap.size w wr)) (fun _ i _ => 64 - (intOf i).toNat)
 case atStart => exact ⟨0, by omega, rfl, rfl, hg, b1⟩
 case round =>
  obtain ⟨k, hk, rfl, rfl, hg, b1⟩ := hrel
  by_cases hlt : k < 64
  ·have ck := (uh hg).cell (i := k) (by omega)
   have hfk := uh HF k
   go_wp2_with fail
   go_roundw
   case rel => exact ⟨k + 1, by omega, by go_num, by rw [or_bit (uh HF) hlt], hg, b1⟩
   case measure => simp [intOf]; omega
  ·obtain rfl : k = 64 := by omega
   have cl := (uh hg).less
   have hr := hide (show wrap64 (IntKind.u64.wrap (-(val f 64 : Nat))) = (-(val f 260 : Int)) by have h := uh HV; rw [val_64 (by omega)]; rw [IntKind.wrap_u64]; unfold wrap64; omega)
   go_wp2_with fail
   go_ret2
   exact ⟨by rw [← uh hr]; rfl, uh b1⟩
set_option maxRecDepth 20000 in
theorem small_min (f : Nat → Nat) (hf : Bit f) (hv : val f 260 = 9223372036854775808) (w : World) : Calls (Tri Try.prog) 183 #[.agg (gv true f)] w fun e w' => e = .returned (.tuple #[.int .i64 (-(val f 260 : Int)), .bool true]) ∧ Below w.heap.size w w' := by
 have hz4 := zero54
 have HF := hide hf
 clear hf
 obtain ⟨V, s1, r1, b1, hs1⟩ := bits_start (w.alloc (.cells (gv true f) 201)) (upd zb 63 1)
 rw [← bv_tl1] at s1
 have hg := GRow.new w true f
 replace hg := hide (hg.keep b1 (by simp))
 replace b1 := hide (below_via ((Below.refl _ _).alloc (Nat.le_refl _) _) b1)
 replace r1 := hide r1
 have hsz : (w.alloc (.cells (gv true f) 201)).heap.size = w.heap.size + 1 := by simp
 rw [hsz] at s1 r1
 clear hs1 hsz
 have gs := bv_size zb
 have HV := hide hv
 have HO := hide (show ord (val f 260 : Int) ((P2 63 : Nat) : Int) = 0 by rw [P2_63]; exact (by rw [hv]; exact ord_same _))
 clear hv
 go_enter (Tri.at (by decide) Try.func183), Try.ntmps183
 go_wp2_with fail
 clear s1
 refine wp_loadB (uh hg) rfl rfl ?_
 go_wp2_with fail
 refine wp_load54 (uh r1) rfl rfl ?_
 go_wp2_with fail
 refine (size_any f (upd zb 63 1) (uh HF) (lim_bit 63) _).mono ?_
 rintro e w2 ⟨rfl, hb2⟩
 replace hg := hide ((uh hg).keep hb2 (uh hg).lt)
 replace b1 := hide (below_via (uh b1) hb2)
 clear hb2 r1 gs hz4
 rw [val_lim (by omega), uh HO]
 clear HO
 have cl := (uh hg).less
 go_wp2_with fail
 go_loopw [6, 7] (fun n i wr => ∃ k : Nat, k ≤ 64 ∧ i = .int .i64 k ∧ n = .int .u64 (val f k : Nat) ∧ Hid (GRow wr w.heap.size true f) ∧ Hid (Below w.heap.size w wr)) (fun _ i _ => 64 - (intOf i).toNat)
 case atStart => exact ⟨0, by omega, rfl, rfl, hg, b1⟩
 case round =>
  obtain ⟨k, hk, rfl, rfl, hg, b1⟩ := hrel
  by_cases hlt : k < 64
  ·have ck := (uh hg).cell (i := k) (by omega)
   have hfk := uh HF k
   go_wp2_with fail
   go_roundw
   case rel => exact ⟨k + 1, by omega, by go_num, by rw [or_bit (uh HF) hlt], hg, b1⟩
   case measure => simp [intOf]; omega
  ·obtain rfl : k = 64 := by omega
   have cl := (uh hg).less
   have hr := hide (show wrap64 (IntKind.u64.wrap (-(val f 64 : Nat))) = (-(val f 260 : Int)) by have h := uh HV; rw [val_64 (by omega)]; rw [IntKind.wrap_u64]; unfold wrap64; omega)
   go_wp2_with fail
   go_ret2
   exact ⟨by rw [← uh hr]; rfl, uh b1⟩
set_option maxRecDepth 20000 in
theorem small_pos (f : Nat → Nat) (hf : Bit f) (hv : val f 260 < 9223372036854775808) (w : World) : Calls (Tri Try.prog) 183 #[.agg (gv false f)] w fun e w' => e = .returned (.tuple #[.int .i64 (val f 260 : Int), .bool true]) ∧ Below w.heap.size w w' := by
 have hz4 := zero54
 have HF := hide hf
 clear hf
 obtain ⟨V, s1, r1, b1, hs1⟩ := bits_start (w.alloc (.cells (gv false f) 201)) (upd zb 63 1)
 rw [← bv_tl1] at s1
 have hg := GRow.new w false f
 replace hg := hide (hg.keep b1 (by simp))
 replace b1 := hide (below_via ((Below.refl _ _).alloc (Nat.le_refl _) _) b1)
 replace r1 := hide r1
 have hsz : (w.alloc (.cells (gv false f) 201)).heap.size = w.heap.size + 1 := by simp
 rw [hsz] at s1 r1
 clear hs1 hsz
 have gs := bv_size zb
 have HV := hide hv
 have HO := hide (show ord (val f 260 : Int) ((P2 63 : Nat) : Int) = (-1) by rw [P2_63]; exact ord_lt (by omega))
 clear hv
 go_enter (Tri.at (by decide) Try.func183), Try.ntmps183
 go_wp2_with fail
 clear s1
 refine wp_loadB (uh hg) rfl rfl ?_
 go_wp2_with fail
 refine wp_load54 (uh r1) rfl rfl ?_
 go_wp2_with fail
 refine (size_any f (upd zb 63 1) (uh HF) (lim_bit 63) _).mono ?_
 rintro e w2 ⟨rfl, hb2⟩
 replace hg := hide ((uh hg).keep hb2 (uh hg).lt)
 replace b1 := hide (below_via (uh b1) hb2)
 clear hb2 r1 gs hz4
 rw [val_lim (by omega), uh HO]
 clear HO
 have cl := (uh hg).less
 go_wp2_with fail
 go_loopw [6, 7] (fun n i wr => ∃ k : Nat, k ≤ 64 ∧ i = .int .i64 k ∧ n = .int .u64 (val f k : Nat) ∧ Hid (GRow wr w.heap.size false f) ∧ Hid (Below w.heap.size w wr)) (fun _ i _ => 64 - (intOf i).toNat)
 case atStart => exact ⟨0, by omega, rfl, rfl, hg, b1⟩
 case round =>
  obtain ⟨k, hk, rfl, rfl, hg, b1⟩ := hrel
  by_cases hlt : k < 64
  ·have ck := (uh hg).cell (i := k) (by omega)
   have hfk := uh HF k
   go_wp2_with fail
   go_roundw
   case rel => exact ⟨k + 1, by omega, by go_num, by rw [or_bit (uh HF) hlt], hg, b1⟩
   case measure => simp [intOf]; omega
  ·obtain rfl : k = 64 := by omega
   have cl := (uh hg).less
   have hr := hide (show wrap64 (val f 64 : Nat) = (val f 260 : Int) by have h := uh HV; rw [val_64 (by omega)]; unfold wrap64; omega)
   go_wp2_with fail
   go_ret2
   exact ⟨by rw [← uh hr]; rfl, uh b1⟩
def sgn (l : Bool) (V : Nat) : Int := if l = true then -(V : Int) else V
theorem small_any (l : Bool) (f : Nat → Nat) (hf : Bit f) (w : World) : Calls (Tri Try.prog) 183 #[.agg (gv l f)] w fun e w' => e = .returned (.tuple #[.int .i64 (okN (sgn l (val f 260))), .bool (decide (turn (sgn l (val f 260)) = 0))]) ∧ Below w.heap.size w w' := by
 have hin : ∀ n : Int, In64 n → okN n = n ∧ decide (turn n = 0) = true := fun n h => ⟨okN_in (turn_in h), decide_eq_true (turn_in h)⟩
 have hout : ∀ n : Int, ¬ In64 n → okN n = 0 ∧ decide (turn n = 0) = false := fun n h => ⟨okN_out (fun t => h (in_of_turn t)), decide_eq_false (fun t => h (in_of_turn t))⟩
 by_cases h1 : 9223372036854775808 < val f 260
 ·obtain ⟨e1, e2⟩ := hout (sgn l (val f 260)) (fun h => by
   have a := h.lo
   have b := h.hi
   cases l <;> simp [sgn] at a b <;> omega)
  rw [e1, e2]
  exact small_out l f hf h1 w
 ·cases l with
  | true =>
   obtain ⟨e1, e2⟩ := hin (sgn true (val f 260)) (by unfold sgn; rw [if_pos rfl]; exact ⟨by omega, by omega⟩)
   rw [e1, e2]
   unfold sgn
   rw [if_pos rfl]
   by_cases h2 : val f 260 = 9223372036854775808
   ·exact small_min f hf h2 w
   ·exact small_neg f hf (by omega) w
  | false =>
   by_cases h2 : val f 260 = 9223372036854775808
   ·obtain ⟨e1, e2⟩ := hout (sgn false (val f 260)) (fun h => by
     have b := h.hi
     unfold sgn at b
     rw [if_neg (by decide)] at b
     omega)
    rw [e1, e2]
    exact small_top f hf h2 w
   ·obtain ⟨e1, e2⟩ := hin (sgn false (val f 260)) (by unfold sgn; rw [if_neg (by decide)]; exact ⟨by omega, by omega⟩)
    rw [e1, e2]
    unfold sgn
    rw [if_neg (by decide)]
    exact small_pos f hf (by omega) w
end Go.Proofs.Ytpeoabopeihadaa
