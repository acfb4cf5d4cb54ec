/- Rows of 260 bits: what they are as numbers, and where they lie. -/
import Derived.Test.YtpeoabopeihadaaSQI
import Derived.Test.YtpeoabopeihadaaSTri
import Derived.Deep.OwnRows
import Derived.Deep.WholeRow
import Derived.Deep.RegionHeld
import Derived.Deep.MidRow
set_option linter.unusedVariables false
set_option linter.unusedSimpArgs false
set_option linter.unusedSectionVars false
namespace Go.Proofs.Ytpeoabopeihadaa
open Go.RowKit
attribute [local simp] Tri.typeInfo Tri.sizeOf Tri.underlying Tri.runUnderlying Tri.isAgg Tri.zeroValue Tri.depth Tri.stoodInHeld Tri.eqGuardType Tri.call15 Tri.call14 Tri.call16 Tri.call17 Tri.call18 Tri.call19 Tri.call20 Tri.call46 Tri.call49 Tri.call50 Tri.call51 Tri.call52 Tri.call53 Tri.call54 Tri.call55 Tri.call65 Tri.call95 Tri.call106 Tri.call107 Tri.call108 Tri.call109 Tri.call116 Tri.call117 Tri.call118 Tri.call119 Tri.call120 Tri.call122 Tri.call135 Tri.call136 Tri.call137 Tri.call143 Tri.call144 Tri.call145 Tri.call146 Tri.call147 Tri.call149 Tri.call150 Tri.call151 Tri.call152 Tri.call156 Tri.call157 Tri.call159 Tri.call160 Tri.call161 Tri.call162 Tri.call163 Tri.call164 Tri.call165 Tri.call166 Tri.call167 Tri.call175 Tri.call176 Tri.call178 Tri.call179 Tri.call180 Tri.call181 Tri.call182 Tri.call183 Tri.call186 Tri.call187 Tri.call188 Tri.call204 Tri.call205
def bv (f : Nat → Nat) : Array Value := ((List.range 260).map fun i => Value.int .u8 (f i)).toArray
theorem bv_size (f : Nat → Nat) : (bv f).size = 260 := by simp [bv]
theorem bv_get {f : Nat → Nat} {i : Nat} (h : i < 260) : (bv f)[i]? = some (.int .u8 (f i)) := by simp [bv, h]
theorem bv_all (f : Nat → Nat) : (bv f).all (·.oneCell') = true := by
  rw [Array.all_eq_true]
  intro i h
  rw [bv_size] at h
  have := bv_get (f := f) h
  rw [Array.getElem?_eq_getElem (by rw [bv_size]; exact h)] at this
  rw [Option.some.inj this]
  rfl
def upd (f : Nat → Nat) (k v : Nat) : Nat → Nat := fun j => if j = k then v else f j
theorem bv_set {f : Nat → Nat} {k v : Nat} : (bv f).setIfInBounds k (.int .u8 v) = bv (upd f k v) := by
  apply Array.ext_getElem?
  intro j
  by_cases hj : j < 260
  · rw [bv_get hj, Array.getElem?_setIfInBounds, bv_size]
    unfold upd
    by_cases e : k = j
    · subst e; simp [hj]
    · rw [if_neg e, if_neg (fun h => e h.symm), bv_get hj]
  · rw [Array.getElem?_eq_none (by simp [bv_size]; omega), Array.getElem?_eq_none (by rw [bv_size]; omega)]
def Row (w : World) (b : Nat) (f : Nat → Nat) : Prop := w.heap[b]? = some (.cells (bv f) 199 (0, 0))
theorem Row.cell {w : World} {b : Nat} {f : Nat → Nat} (h : Row w b f) {i : Nat} (hi : i < 260) : w.cell? ⟨b, i, none⟩ = some (.int .u8 (f i)) := by
  rw [cell_of_row w b i _ _ _ h]; exact bv_get hi
theorem Row.frozen {w : World} {b : Nat} {f : Nat → Nat} (h : Row w b f) (i : Nat) : w.frozen? ⟨b, i, none⟩ = false := frozen_of_row w b i _ _ h
theorem Row.lt {w : World} {b : Nat} {f : Nat → Nat} (h : Row w b f) : b < w.heap.size := (Array.getElem?_eq_some_iff.1 h).1
theorem Row.set {w : World} {b : Nat} {f : Nat → Nat} (h : Row w b f) (k v : Nat) : Row (w.setCell ⟨b, k, none⟩ (.int .u8 v)) b (upd f k v) := by
  unfold Row
  rw [Go.heap_setCell_same w b k _ _ _ h, bv_set]
theorem Row.other {w : World} {b : Nat} {f : Nat → Nat} (h : Row w b f) {a : Addr} (ha : b ≠ a.block) (v : Value) : Row (w.setCell a v) b f := (heap_setCell_other w a b v ha).trans h
theorem Row.alloc {w : World} {b : Nat} {f : Nat → Nat} (h : Row w b f) (o : Obj) : Row (w.alloc o) b f := (Below.heap_alloc w o b h.lt).trans h
theorem Row.drew {w : World} {b : Nat} {f : Nat → Nat} (h : Row w b f) : Row w.drew b f := h
theorem Row.keep {w w' : World} {B b : Nat} {f : Nat → Nat} (h : Row w b f) (hb : Below B w w') (hB : b < B) : Row w' b f := (hb.block b hB).trans h
theorem Row.new (w : World) (f : Nat → Nat) : Row (w.alloc (.cells (bv f) 199)) w.heap.size f := heap_alloc_new w _
def P2 : Nat → Nat
  | 0 => 1
  | n + 1 => P2 n * 2
theorem P2_zero : P2 0 = 1 := rfl
theorem P2_succ (n : Nat) : P2 (n + 1) = P2 n * 2 := rfl
theorem P2_mono (n : Nat) : ∀ m, P2 n ≤ P2 (n + m)
  | 0 => Nat.le_refl _
  | m + 1 => by
    have := P2_mono n m
    show P2 n ≤ P2 (n + m) * 2
    omega
def val (f : Nat → Nat) : Nat → Nat
  | 0 => 0
  | n + 1 => val f n + f n * P2 n
def Bit (f : Nat → Nat) : Prop := ∀ i, f i ≤ 1
theorem val_congr {f g : Nat → Nat} : ∀ {n : Nat}, (∀ i, i < n → f i = g i) → val f n = val g n
  | 0, _ => rfl
  | n + 1, h => by
    show val f n + f n * P2 n = val g n + g n * P2 n
    rw [val_congr (n := n) (fun i hi => h i (by omega)), h n (by omega)]
theorem val_lt {f : Nat → Nat} (hf : Bit f) : ∀ n, val f n < P2 n
  | 0 => by show 0 < 1; omega
  | n + 1 => by
    have h1 := val_lt hf n
    have h2 := hf n
    show val f n + f n * P2 n < P2 (n + 1)
    rw [P2_succ]
    rcases Nat.lt_or_ge (f n) 1 with h | h
    · rw [show f n = 0 by omega]; omega
    · rw [show f n = 1 by omega]; omega
theorem val_top {f g : Nat → Nat} : ∀ {k m : Nat}, (∀ j, k ≤ j → j < k + m → f j = g j) → ∃ t, val f (k + m) = val f k + t ∧ val g (k + m) = val g k + t
  | k, 0, _ => ⟨0, rfl, rfl⟩
  | k, m + 1, h => by
    obtain ⟨t, h1, h2⟩ := val_top (k := k) (m := m) (fun j a b => h j a (by omega))
    refine ⟨t + f (k + m) * P2 (k + m), ?_, ?_⟩
    · show val f (k + m) + f (k + m) * P2 (k + m) = _
      omega
    · show val g (k + m) + g (k + m) * P2 (k + m) = _
      rw [h (k + m) (by omega) (by omega)]
      omega
theorem val_less {f g : Nat → Nat} (hf : Bit f) (hg : Bit g) {k : Nat} (hk : k < 260) (h : ∀ j, k < j → j < 260 → f j = g j) (hl : f k < g k) : val f 260 < val g 260 := by
  obtain ⟨t, h1, h2⟩ := val_top (k := k + 1) (m := 260 - (k + 1)) (fun j a b => h j (by omega) (by omega))
  rw [show k + 1 + (260 - (k + 1)) = 260 by omega] at h1 h2
  rw [h1, h2]
  have a := val_lt hf k
  have b := hg k
  show val f k + f k * P2 k + t < val g k + g k * P2 k + t
  rw [show f k = 0 by omega, show g k = 1 by omega]
  omega
def ord (x y : Int) : Int := if x < y then -1 else if y < x then 1 else 0
theorem ord_lt {x y : Int} (h : x < y) : ord x y = -1 := if_pos h
theorem ord_gt {x y : Int} (h : y < x) : ord x y = 1 := by unfold ord; rw [if_neg (by omega), if_pos h]
theorem ord_same (x : Int) : ord x x = 0 := by unfold ord; rw [if_neg (by omega), if_neg (by omega)]
set_option maxHeartbeats 1000000 in
theorem size_any (f g : Nat → Nat) (hf : Bit f) (hg : Bit g) (w : World) : Calls (Tri Try.prog) 181 #[.agg (bv f), .agg (bv g)] w fun e w' => e = .returned (.int .i64 (ord (val f 260) (val g 260))) ∧ Below w.heap.size w w' := by
  have Hf := hide hf
  have Hg := hide hg
  clear hf hg
  go_enter (Tri.at (by decide) Try.func181), Try.ntmps181
  go_wp2_with fail
  go_loopw [5] (fun i wr => ∃ (k : Nat) (z : Int), k ≤ 260 ∧ Hid (z = (k : Int) - 1) ∧ i = .int .i64 z ∧ Hid (∀ j, k ≤ j → j < 260 → f j = g j) ∧ Hid (Row wr w.heap.size f) ∧ Hid (Row wr (w.heap.size + 1) g) ∧ Hid (Below w.heap.size w wr)) (fun i _ => (intOf i + 1).toNat)
  case atStart =>
    refine ⟨260, 259, by omega, hide (by omega), rfl, hide (fun j a b => by omega), hide ((Row.new w f).alloc _), hide ?_, hide (((Below.refl _ _).alloc (Nat.le_refl _) _).alloc (by simp) _)⟩
    have := Row.new (w.alloc (.cells (bv f) 199)) g
    simpa using this
  case round =>
    obtain ⟨k, z, hk, HZ, rfl, HE, HR, HS, HB⟩ := hrel
    rcases k with _ | m
    · obtain rfl : z = -1 := by have := unhide HZ; omega
      have he : val f 260 = val g 260 := val_congr (fun i hi => unhide HE i (by omega) hi)
      go_wp2_with fail
      rw [he, ord_same]
      go_ret
      exact ⟨rfl, unhide HB⟩
    · obtain rfl : z = (m : Int) := by have := unhide HZ; omega
      have c1 := (unhide HR).cell (i := m) (by omega)
      have c2 := (unhide HS).cell (i := m) (by omega)
      have hm : m < 260 := by omega
      have hfm := unhide Hf m
      have hgm := unhide Hg m
      have HL := hide (fun h => val_less (unhide Hf) (unhide Hg) (k := m) hm (fun j a b => unhide HE j a b) h)
      have HG := hide (fun h => val_less (unhide Hg) (unhide Hf) (k := m) hm (fun j a b => (unhide HE j a b).symm) h)
      have HN := hide (fun (h : f m = g m) j (a : m ≤ j) (b : j < 260) => if e : j = m then (show f j = g j by rw [e]; exact h) else unhide HE j (by omega) b)
      generalize f m = x at *
      generalize g m = y at *
      by_cases hxy : x = y
      · subst hxy
        go_wp2_with fail
        go_region
        go_wp2_with fail
        go_roundw
        case rel => exact ⟨m, (m : Int) - 1, by omega, hide rfl, by go_num, hide (unhide HN trivial), HR, HS, hide (below_drew (unhide HB))⟩
        case measure => simp [intOf]
      · have t1 : ((x : Int) != (y : Int)) = true := by rw [bne_iff_ne]; omega
        by_cases hlt : x < y
        · have t2 : decide ((x : Int) < (y : Int)) = true := decide_eq_true (by omega)
          have hv := unhide HL hlt
          go_wp2_with fail
          go_region
          go_wp2_with fail
          go_region
          go_wp2_with fail
          rw [ord_lt (by omega)]
          go_ret
          exact ⟨rfl, below_drew (below_drew (unhide HB))⟩
        · have t2 : decide ((x : Int) < (y : Int)) = false := decide_eq_false (by omega)
          have hv := unhide HG (by omega)
          go_wp2_with fail
          go_region
          go_wp2_with fail
          go_region
          go_wp2_with fail
          rw [ord_gt (by omega)]
          go_ret
          exact ⟨rfl, below_drew (below_drew (unhide HB))⟩
end Go.Proofs.Ytpeoabopeihadaa
namespace Go.Proofs.Ytpeoabopeihadaa
open Go.RowKit
attribute [local simp] Tri.typeInfo Tri.sizeOf Tri.underlying Tri.runUnderlying Tri.isAgg Tri.zeroValue Tri.depth Tri.stoodInHeld Tri.eqGuardType Tri.call15 Tri.call14 Tri.call16 Tri.call17 Tri.call18 Tri.call19 Tri.call20 Tri.call46 Tri.call49 Tri.call50 Tri.call51 Tri.call52 Tri.call53 Tri.call54 Tri.call55 Tri.call65 Tri.call95 Tri.call106 Tri.call107 Tri.call108 Tri.call109 Tri.call116 Tri.call117 Tri.call118 Tri.call119 Tri.call120 Tri.call122 Tri.call135 Tri.call136 Tri.call137 Tri.call143 Tri.call144 Tri.call145 Tri.call146 Tri.call147 Tri.call149 Tri.call150 Tri.call151 Tri.call152 Tri.call156 Tri.call157 Tri.call159 Tri.call160 Tri.call161 Tri.call162 Tri.call163 Tri.call164 Tri.call165 Tri.call166 Tri.call167 Tri.call175 Tri.call176 Tri.call178 Tri.call179 Tri.call180 Tri.call181 Tri.call182 Tri.call183 Tri.call186 Tri.call187 Tri.call188 Tri.call204 Tri.call205
def zb : Nat → Nat := fun _ => 0
theorem info199 : ((Tri Try.prog).info? 199).map (fun i => (i.zero, i.size)) = some (some (.agg (bv zb)), 260) := by kernel_rfl
theorem zero54 (w : World) : (zeroValue 199).run (Tri Try.prog) w = .ok (.agg (bv zb)) w := (zero_of_info info199).1 w
theorem size54 (f : Nat → Nat) : ((Tri Try.prog).info? 199).map (·.size) = some (bv f).size := by rw [bv_size]; exact (zero_of_info info199).2
theorem store54c {w : World} {b : Nat} {f : Nat → Nat} (g : Nat → Nat) (h : Row w b f) : (storeCells ⟨b, 0, none⟩ (bv g).toList).run (Tri Try.prog) w = .ok () (w.setRow b (bv g)) := by
  have := run_storeVar_row (P := (Tri Try.prog)) w b 199 199 (bv f) (bv g) h (size54 g) (by rw [bv_size, bv_size]) (bv_all g)
  have hi := size54 g
  cases hq : (Tri Try.prog).info? 199 with
  | none => simp [hq] at hi
  | some i =>
    have hs : (bv g).size = i.size := by simp [hq] at hi; omega
    simpa [storeVar, sizeOf, typeInfo, hq, Value.cells, hs] using this
theorem Row.put {w : World} {b : Nat} {f : Nat → Nat} (h : Row w b f) (g : Nat → Nat) : Row (w.setRow b (bv g)) b g := by
  unfold Row at *
  simp [World.setRow, Array.getElem?_modify, h]
theorem Row.putOther {w : World} {b c : Nat} {f : Nat → Nat} (h : Row w b f) (hc : c ≠ b) (g : Array Value) : Row (w.setRow c g) b f := by
  unfold Row at *
  simp [World.setRow, Array.getElem?_modify, h, hc]
theorem below_put {B b : Nat} {a w : World} (h : Below B a w) (hb : B ≤ b) (g : Array Value) : Below B a (w.setRow b g) :=
  h.trans ⟨rfl, rfl, rfl, by simp, fun k hk => by simp [World.setRow, Array.getElem?_modify, show ¬ b = k by omega]⟩
theorem results54 {fn : Func} {p : Tmp} (h : fn.results = #[.cell p 199]) (tmps : Array Value) {w : World} {b : Nat} {f : Nat → Nat} (hp : tmps.getD p undef = .pointer (some ⟨b, 0, none⟩)) (hr : Row w b f) :
    (results fn tmps).run (Tri Try.prog) w = .ok (.agg (bv f)) w := results_cell_row h tmps w b 199 (bv f) (0, 0) _ hp hr (Tri.und Try.underlying199) rfl (size54 f)
theorem wp_load54 {o : Oper} {a : Act} {w : World} {K : Act → World → Prop} {Q : Exit → Act → World → Prop} {x : Operand} {b : Nat} {f : Nat → Nat} (hr : Row w b f) (ho : o.op = .load 199 x) (hx : a.eval x = .pointer (some ⟨b, 0, none⟩))
    (h : K (a.put o.dst (.agg (bv f))) w) : o.wp (Tri Try.prog) a w K Q := wp_load_row 199 x ho b hx 199 (bv f) (0, 0) _ hr (Tri.und Try.underlying199) rfl (size54 f) h
theorem val_upd (h : Nat → Nat) (k b : Nat) : val (upd h k b) (k + 1) = val h k + b * P2 k := by
  show val (upd h k b) k + upd h k b k * P2 k = _
  rw [val_congr (g := h) (fun i hi => by unfold upd; rw [if_neg (by omega)]), show upd h k b k = b by unfold upd; rw [if_pos rfl]]
theorem bit_upd {h : Nat → Nat} (hh : Bit h) {k b : Nat} (hb : b ≤ 1) : Bit (upd h k b) := by
  intro i
  unfold upd
  split
  · exact hb
  · exact hh i
theorem plus_step {f g h : Nat → Nat} {k c b d : Nat} (H : val h k + c * P2 k = val f k + val g k) (e : b + 2 * d = f k + g k + c) : val (upd h k b) (k + 1) + d * P2 (k + 1) = val f (k + 1) + val g (k + 1) := by
  rw [val_upd]
  show val h k + b * P2 k + d * P2 (k + 1) = val f k + f k * P2 k + (val g k + g k * P2 k)
  have e2 : (b + 2 * d) * P2 k = (f k + g k + c) * P2 k := by rw [e]
  rw [Nat.add_mul, Nat.add_mul, Nat.add_mul] at e2
  rw [P2_succ]
  have : d * (P2 k * 2) = 2 * d * P2 k := by rw [Nat.mul_comm (P2 k) 2, ← Nat.mul_assoc, Nat.mul_comm d 2]
  omega
def Plus (f g h : Nat → Nat) : Prop := Bit h ∧ ∃ c, c ≤ 1 ∧ val h 260 + c * P2 260 = val f 260 + val g 260
theorem rows2 (w : World) (f g : Nat → Nat) : Row ((w.alloc (.cells (bv f) 199)).alloc (.cells (bv g) 199)) w.heap.size f ∧ Row ((w.alloc (.cells (bv f) 199)).alloc (.cells (bv g) 199)) (w.heap.size + 1) g ∧ Below w.heap.size w ((w.alloc (.cells (bv f) 199)).alloc (.cells (bv g) 199)) := by
  refine ⟨(Row.new w f).alloc _, ?_, ((Below.refl _ _).alloc (Nat.le_refl _) _).alloc (by simp) _⟩
  have := Row.new (w.alloc (.cells (bv f) 199)) g
  simpa using this
theorem rows4 (w : World) (f g h i : Nat → Nat) : Row ((((w.alloc (.cells (bv f) 199)).alloc (.cells (bv g) 199)).alloc (.cells (bv h) 199)).alloc (.cells (bv i) 199)) w.heap.size f ∧
    Row ((((w.alloc (.cells (bv f) 199)).alloc (.cells (bv g) 199)).alloc (.cells (bv h) 199)).alloc (.cells (bv i) 199)) (w.heap.size + 1) g ∧
    Row ((((w.alloc (.cells (bv f) 199)).alloc (.cells (bv g) 199)).alloc (.cells (bv h) 199)).alloc (.cells (bv i) 199)) (w.heap.size + 1 + 1) h ∧
    Row ((((w.alloc (.cells (bv f) 199)).alloc (.cells (bv g) 199)).alloc (.cells (bv h) 199)).alloc (.cells (bv i) 199)) (w.heap.size + 1 + 1 + 1) i ∧
    Below w.heap.size w ((((w.alloc (.cells (bv f) 199)).alloc (.cells (bv g) 199)).alloc (.cells (bv h) 199)).alloc (.cells (bv i) 199)) := by
  obtain ⟨a, b, c⟩ := rows2 w f g
  have hs : ((w.alloc (.cells (bv f) 199)).alloc (.cells (bv g) 199)).heap.size = w.heap.size + 1 + 1 := by simp
  generalize ((w.alloc (.cells (bv f) 199)).alloc (.cells (bv g) 199)) = W at *
  obtain ⟨d, e, k⟩ := rows2 W h i
  rw [hs] at d e
  exact ⟨(a.alloc _).alloc _, (b.alloc _).alloc _, d, e, c.trans (k.mono (by omega))⟩
set_option maxRecDepth 20000 in
set_option maxHeartbeats 4000000 in
theorem plus_any (f g : Nat → Nat) (hf : Bit f) (hg : Bit g) (w : World) : Calls (Tri Try.prog) 182 #[.agg (bv f), .agg (bv g)] w fun e w' => (∃ h, Plus f g h ∧ e = .returned (.agg (bv h))) ∧ Below w.heap.size w w' := by
  have Hf := hide hf
  have Hg := hide hg
  have hz := zero54
  clear hf hg
  go_enter (Tri.at (by decide) Try.func182), Try.ntmps182
  go_wp2_with fail
  go_loopw [6, 7] (fun cr i wr => ∃ (k c : Nat) (h : Nat → Nat), k ≤ 260 ∧ i = .int .i64 k ∧ cr = .int .u8 c ∧ c ≤ 1 ∧ Hid (Bit h) ∧ Hid (val h k + c * P2 k = val f k + val g k) ∧ Hid (Row wr w.heap.size f) ∧ Hid (Row wr (w.heap.size + 1) g) ∧ Hid (∃ u, Row wr (w.heap.size + 1 + 1) u) ∧ Hid (Row wr (w.heap.size + 1 + 1 + 1) h) ∧ Hid (Below w.heap.size w wr)) (fun _ i _ => 260 - (intOf i).toNat)
  case atStart =>
    obtain ⟨a, b, c, d, e⟩ := rows4 w f g zb zb
    exact ⟨0, 0, zb, by omega, rfl, rfl, by omega, hide (fun _ => by simp [zb]), hide rfl, hide a, hide b, hide ⟨_, c⟩, hide d, hide e⟩
  case round =>
    obtain ⟨k, c, h, hk, rfl, rfl, hc, HH, HV, R1, R2, R3, R4, HB⟩ := hrel
    by_cases hlt : k < 260
    · have c1 := (unhide R1).cell (i := k) hlt
      have c2 := (unhide R2).cell (i := k) hlt
      have c4 := (unhide R4).cell (i := k) hlt
      have f4 := (unhide R4).frozen k
      have hfk := unhide Hf k
      have hgk := unhide Hg k
      have HS := hide (fun (b d : Nat) => plus_step (f := f) (g := g) (h := h) (k := k) (c := c) (b := b) (d := d) (unhide HV))
      generalize f k = x at *
      generalize g k = y at *
      generalize h k = z at *
      have hx : x = 0 ∨ x = 1 := by omega
      have hy : y = 0 ∨ y = 1 := by omega
      have hc' : c = 0 ∨ c = 1 := by omega
      clear hfk hgk HV hc
      rcases hx with rfl | rfl <;> rcases hy with rfl | rfl <;> rcases hc' with rfl | rfl
      · go_wp2_with fail
        go_region
        go_wp2_with fail
        go_roundw
        case rel => exact ⟨k + 1, 0, upd h k 0, by omega, by go_num, rfl, by omega, hide (bit_upd (unhide HH) (by omega)), hide (unhide HS 0 0 (by omega)), hide ((unhide R1).drew.other (by show w.heap.size ≠ w.heap.size + 1 + 1 + 1; omega) _), hide ((unhide R2).drew.other (by show w.heap.size + 1 ≠ w.heap.size + 1 + 1 + 1; omega) _), hide ((unhide R3).imp fun u r => r.drew.other (by show w.heap.size + 1 + 1 ≠ w.heap.size + 1 + 1 + 1; omega) _), hide ((unhide R4).drew.set k 0), hide ((below_drew (unhide HB)).setCell (by show w.heap.size ≤ w.heap.size + 1 + 1 + 1; omega) _)⟩
        case measure => simp [intOf]; omega
      · go_wp2_with fail
        go_region
        go_wp2_with fail
        go_roundw
        case rel => exact ⟨k + 1, 0, upd h k 1, by omega, by go_num, rfl, by omega, hide (bit_upd (unhide HH) (by omega)), hide (unhide HS 1 0 (by omega)), hide ((unhide R1).drew.other (by show w.heap.size ≠ w.heap.size + 1 + 1 + 1; omega) _), hide ((unhide R2).drew.other (by show w.heap.size + 1 ≠ w.heap.size + 1 + 1 + 1; omega) _), hide ((unhide R3).imp fun u r => r.drew.other (by show w.heap.size + 1 + 1 ≠ w.heap.size + 1 + 1 + 1; omega) _), hide ((unhide R4).drew.set k 1), hide ((below_drew (unhide HB)).setCell (by show w.heap.size ≤ w.heap.size + 1 + 1 + 1; omega) _)⟩
        case measure => simp [intOf]; omega
      · go_wp2_with fail
        go_region
        go_wp2_with fail
        go_roundw
        case rel => exact ⟨k + 1, 0, upd h k 1, by omega, by go_num, rfl, by omega, hide (bit_upd (unhide HH) (by omega)), hide (unhide HS 1 0 (by omega)), hide ((unhide R1).drew.other (by show w.heap.size ≠ w.heap.size + 1 + 1 + 1; omega) _), hide ((unhide R2).drew.other (by show w.heap.size + 1 ≠ w.heap.size + 1 + 1 + 1; omega) _), hide ((unhide R3).imp fun u r => r.drew.other (by show w.heap.size + 1 + 1 ≠ w.heap.size + 1 + 1 + 1; omega) _), hide ((unhide R4).drew.set k 1), hide ((below_drew (unhide HB)).setCell (by show w.heap.size ≤ w.heap.size + 1 + 1 + 1; omega) _)⟩
        case measure => simp [intOf]; omega
      · go_wp2_with fail
        go_region
        go_wp2_with fail
        go_roundw
        case rel => exact ⟨k + 1, 1, upd h k 0, by omega, by go_num, rfl, by omega, hide (bit_upd (unhide HH) (by omega)), hide (unhide HS 0 1 (by omega)), hide ((unhide R1).drew.other (by show w.heap.size ≠ w.heap.size + 1 + 1 + 1; omega) _), hide ((unhide R2).drew.other (by show w.heap.size + 1 ≠ w.heap.size + 1 + 1 + 1; omega) _), hide ((unhide R3).imp fun u r => r.drew.other (by show w.heap.size + 1 + 1 ≠ w.heap.size + 1 + 1 + 1; omega) _), hide ((unhide R4).drew.set k 0), hide ((below_drew (unhide HB)).setCell (by show w.heap.size ≤ w.heap.size + 1 + 1 + 1; omega) _)⟩
        case measure => simp [intOf]; omega
      · go_wp2_with fail
        go_region
        go_wp2_with fail
        go_roundw
        case rel => exact ⟨k + 1, 0, upd h k 1, by omega, by go_num, rfl, by omega, hide (bit_upd (unhide HH) (by omega)), hide (unhide HS 1 0 (by omega)), hide ((unhide R1).drew.other (by show w.heap.size ≠ w.heap.size + 1 + 1 + 1; omega) _), hide ((unhide R2).drew.other (by show w.heap.size + 1 ≠ w.heap.size + 1 + 1 + 1; omega) _), hide ((unhide R3).imp fun u r => r.drew.other (by show w.heap.size + 1 + 1 ≠ w.heap.size + 1 + 1 + 1; omega) _), hide ((unhide R4).drew.set k 1), hide ((below_drew (unhide HB)).setCell (by show w.heap.size ≤ w.heap.size + 1 + 1 + 1; omega) _)⟩
        case measure => simp [intOf]; omega
      · go_wp2_with fail
        go_region
        go_wp2_with fail
        go_roundw
        case rel => exact ⟨k + 1, 1, upd h k 0, by omega, by go_num, rfl, by omega, hide (bit_upd (unhide HH) (by omega)), hide (unhide HS 0 1 (by omega)), hide ((unhide R1).drew.other (by show w.heap.size ≠ w.heap.size + 1 + 1 + 1; omega) _), hide ((unhide R2).drew.other (by show w.heap.size + 1 ≠ w.heap.size + 1 + 1 + 1; omega) _), hide ((unhide R3).imp fun u r => r.drew.other (by show w.heap.size + 1 + 1 ≠ w.heap.size + 1 + 1 + 1; omega) _), hide ((unhide R4).drew.set k 0), hide ((below_drew (unhide HB)).setCell (by show w.heap.size ≤ w.heap.size + 1 + 1 + 1; omega) _)⟩
        case measure => simp [intOf]; omega
      · go_wp2_with fail
        go_region
        go_wp2_with fail
        go_roundw
        case rel => exact ⟨k + 1, 1, upd h k 0, by omega, by go_num, rfl, by omega, hide (bit_upd (unhide HH) (by omega)), hide (unhide HS 0 1 (by omega)), hide ((unhide R1).drew.other (by show w.heap.size ≠ w.heap.size + 1 + 1 + 1; omega) _), hide ((unhide R2).drew.other (by show w.heap.size + 1 ≠ w.heap.size + 1 + 1 + 1; omega) _), hide ((unhide R3).imp fun u r => r.drew.other (by show w.heap.size + 1 + 1 ≠ w.heap.size + 1 + 1 + 1; omega) _), hide ((unhide R4).drew.set k 0), hide ((below_drew (unhide HB)).setCell (by show w.heap.size ≤ w.heap.size + 1 + 1 + 1; omega) _)⟩
        case measure => simp [intOf]; omega
      · go_wp2_with fail
        go_region
        go_wp2_with fail
        go_roundw
        case rel => exact ⟨k + 1, 1, upd h k 1, by omega, by go_num, rfl, by omega, hide (bit_upd (unhide HH) (by omega)), hide (unhide HS 1 1 (by omega)), hide ((unhide R1).drew.other (by show w.heap.size ≠ w.heap.size + 1 + 1 + 1; omega) _), hide ((unhide R2).drew.other (by show w.heap.size + 1 ≠ w.heap.size + 1 + 1 + 1; omega) _), hide ((unhide R3).imp fun u r => r.drew.other (by show w.heap.size + 1 + 1 ≠ w.heap.size + 1 + 1 + 1; omega) _), hide ((unhide R4).drew.set k 1), hide ((below_drew (unhide HB)).setCell (by show w.heap.size ≤ w.heap.size + 1 + 1 + 1; omega) _)⟩
        case measure => simp [intOf]; omega
    · obtain rfl : k = 260 := by omega
      obtain ⟨u, R3'⟩ := unhide R3
      replace R3' := hide R3'
      have HP := hide (show Plus f g h from ⟨unhide HH, c, hc, unhide HV⟩)
      clear HV R3
      have hst := store54c h (unhide R3')
      have Rr := hide ((unhide R3').put h)
      have HB2 := hide (below_put (unhide HB) (b := w.heap.size + 1 + 1) (by omega) (bv h))
      go_wp2_with fail
      refine wp_load54 (unhide R4) rfl rfl ?_
      go_wp2_with fail
      refine bodyPost_ret (v := .agg (bv h)) (results54 rfl _ rfl (unhide Rr)) rfl ⟨⟨h, unhide HP, rfl⟩, unhide HB2⟩
end Go.Proofs.Ytpeoabopeihadaa
namespace Go.Proofs.Ytpeoabopeihadaa
open Go.RowKit
attribute [local simp] Tri.typeInfo Tri.sizeOf Tri.underlying Tri.runUnderlying Tri.isAgg Tri.zeroValue Tri.depth Tri.stoodInHeld Tri.eqGuardType Tri.call15 Tri.call14 Tri.call16 Tri.call17 Tri.call18 Tri.call19 Tri.call20 Tri.call46 Tri.call49 Tri.call50 Tri.call51 Tri.call52 Tri.call53 Tri.call54 Tri.call55 Tri.call65 Tri.call95 Tri.call106 Tri.call107 Tri.call108 Tri.call109 Tri.call116 Tri.call117 Tri.call118 Tri.call119 Tri.call120 Tri.call122 Tri.call135 Tri.call136 Tri.call137 Tri.call143 Tri.call144 Tri.call145 Tri.call146 Tri.call147 Tri.call149 Tri.call150 Tri.call151 Tri.call152 Tri.call156 Tri.call157 Tri.call159 Tri.call160 Tri.call161 Tri.call162 Tri.call163 Tri.call164 Tri.call165 Tri.call166 Tri.call167 Tri.call175 Tri.call176 Tri.call178 Tri.call179 Tri.call180 Tri.call181 Tri.call182 Tri.call183 Tri.call186 Tri.call187 Tri.call188 Tri.call204 Tri.call205
theorem minus_step {f g h : Nat → Nat} {k c b d : Nat} (H : val f k + c * P2 k = val g k + val h k) (e : f k + 2 * d = g k + b + c) : val f (k + 1) + d * P2 (k + 1) = val g (k + 1) + val (upd h k b) (k + 1) := by
  rw [val_upd]
  show val f k + f k * P2 k + d * P2 (k + 1) = val g k + g k * P2 k + (val h k + b * P2 k)
  have e2 : (f k + 2 * d) * P2 k = (g k + b + c) * P2 k := by rw [e]
  rw [Nat.add_mul, Nat.add_mul, Nat.add_mul] at e2
  rw [P2_succ]
  have : d * (P2 k * 2) = 2 * d * P2 k := by rw [Nat.mul_comm (P2 k) 2, ← Nat.mul_assoc, Nat.mul_comm d 2]
  omega
def Minus (f g h : Nat → Nat) : Prop := Bit h ∧ ∃ c, c ≤ 1 ∧ val f 260 + c * P2 260 = val g 260 + val h 260
set_option maxRecDepth 20000 in
set_option maxHeartbeats 4000000 in
theorem minus_any (f g : Nat → Nat) (hf : Bit f) (hg : Bit g) (w : World) : Calls (Tri Try.prog) 187 #[.agg (bv f), .agg (bv g)] w fun e w' => (∃ h, Minus f g h ∧ e = .returned (.agg (bv h))) ∧ Below w.heap.size w w' := by
  have Hf := hide hf
  have Hg := hide hg
  have hz := zero54
  clear hf hg
  go_enter (Tri.at (by decide) Try.func187), Try.ntmps187
  go_wp2_with fail
  go_loopw [6, 7] (fun cr i wr => ∃ (k c : Nat) (h : Nat → Nat), k ≤ 260 ∧ i = .int .i64 k ∧ cr = .int .u8 c ∧ c ≤ 1 ∧ Hid (Bit h) ∧ Hid (val f k + c * P2 k = val g k + val h k) ∧ Hid (Row wr w.heap.size f) ∧ Hid (Row wr (w.heap.size + 1) g) ∧ Hid (∃ u, Row wr (w.heap.size + 1 + 1) u) ∧ Hid (Row wr (w.heap.size + 1 + 1 + 1) h) ∧ Hid (Below w.heap.size w wr)) (fun _ i _ => 260 - (intOf i).toNat)
  case atStart =>
    obtain ⟨a, b, c, d, e⟩ := rows4 w f g zb zb
    exact ⟨0, 0, zb, by omega, rfl, rfl, by omega, hide (fun _ => by simp [zb]), hide rfl, hide a, hide b, hide ⟨_, c⟩, hide d, hide e⟩
  case round =>
    obtain ⟨k, c, h, hk, rfl, rfl, hc, HH, HV, R1, R2, R3, R4, HB⟩ := hrel
    by_cases hlt : k < 260
    · have c1 := (unhide R1).cell (i := k) hlt
      have c2 := (unhide R2).cell (i := k) hlt
      have c4 := (unhide R4).cell (i := k) hlt
      have f4 := (unhide R4).frozen k
      have hfk := unhide Hf k
      have hgk := unhide Hg k
      have HS := hide (fun (b d : Nat) => minus_step (f := f) (g := g) (h := h) (k := k) (c := c) (b := b) (d := d) (unhide HV))
      generalize f k = x at *
      generalize g k = y at *
      generalize h k = z at *
      have hx : x = 0 ∨ x = 1 := by omega
      have hy : y = 0 ∨ y = 1 := by omega
      have hc' : c = 0 ∨ c = 1 := by omega
      clear hfk hgk HV hc
      rcases hx with rfl | rfl <;> rcases hy with rfl | rfl <;> rcases hc' with rfl | rfl
      · go_wp2_with fail
        go_region
        go_wp2_with fail
        go_roundw
        case rel => exact ⟨k + 1, 0, upd h k 0, by omega, by go_num, rfl, by omega, hide (bit_upd (unhide HH) (by omega)), hide (unhide HS 0 0 (by omega)), hide ((unhide R1).drew.other (by show w.heap.size ≠ w.heap.size + 1 + 1 + 1; omega) _), hide ((unhide R2).drew.other (by show w.heap.size + 1 ≠ w.heap.size + 1 + 1 + 1; omega) _), hide ((unhide R3).imp fun u r => r.drew.other (by show w.heap.size + 1 + 1 ≠ w.heap.size + 1 + 1 + 1; omega) _), hide ((unhide R4).drew.set k 0), hide ((below_drew (unhide HB)).setCell (by show w.heap.size ≤ w.heap.size + 1 + 1 + 1; omega) _)⟩
        case measure => simp [intOf]; omega
      · go_wp2_with fail
        go_region
        go_wp2_with fail
        go_roundw
        case rel => exact ⟨k + 1, 1, upd h k 1, by omega, by go_num, rfl, by omega, hide (bit_upd (unhide HH) (by omega)), hide (unhide HS 1 1 (by omega)), hide ((unhide R1).drew.other (by show w.heap.size ≠ w.heap.size + 1 + 1 + 1; omega) _), hide ((unhide R2).drew.other (by show w.heap.size + 1 ≠ w.heap.size + 1 + 1 + 1; omega) _), hide ((unhide R3).imp fun u r => r.drew.other (by show w.heap.size + 1 + 1 ≠ w.heap.size + 1 + 1 + 1; omega) _), hide ((unhide R4).drew.set k 1), hide ((below_drew (unhide HB)).setCell (by show w.heap.size ≤ w.heap.size + 1 + 1 + 1; omega) _)⟩
        case measure => simp [intOf]; omega
      · go_wp2_with fail
        go_region
        go_wp2_with fail
        go_roundw
        case rel => exact ⟨k + 1, 1, upd h k 1, by omega, by go_num, rfl, by omega, hide (bit_upd (unhide HH) (by omega)), hide (unhide HS 1 1 (by omega)), hide ((unhide R1).drew.other (by show w.heap.size ≠ w.heap.size + 1 + 1 + 1; omega) _), hide ((unhide R2).drew.other (by show w.heap.size + 1 ≠ w.heap.size + 1 + 1 + 1; omega) _), hide ((unhide R3).imp fun u r => r.drew.other (by show w.heap.size + 1 + 1 ≠ w.heap.size + 1 + 1 + 1; omega) _), hide ((unhide R4).drew.set k 1), hide ((below_drew (unhide HB)).setCell (by show w.heap.size ≤ w.heap.size + 1 + 1 + 1; omega) _)⟩
        case measure => simp [intOf]; omega
      · go_wp2_with fail
        go_region
        go_wp2_with fail
        go_roundw
        case rel => exact ⟨k + 1, 1, upd h k 0, by omega, by go_num, rfl, by omega, hide (bit_upd (unhide HH) (by omega)), hide (unhide HS 0 1 (by omega)), hide ((unhide R1).drew.other (by show w.heap.size ≠ w.heap.size + 1 + 1 + 1; omega) _), hide ((unhide R2).drew.other (by show w.heap.size + 1 ≠ w.heap.size + 1 + 1 + 1; omega) _), hide ((unhide R3).imp fun u r => r.drew.other (by show w.heap.size + 1 + 1 ≠ w.heap.size + 1 + 1 + 1; omega) _), hide ((unhide R4).drew.set k 0), hide ((below_drew (unhide HB)).setCell (by show w.heap.size ≤ w.heap.size + 1 + 1 + 1; omega) _)⟩
        case measure => simp [intOf]; omega
      · go_wp2_with fail
        go_region
        go_wp2_with fail
        go_roundw
        case rel => exact ⟨k + 1, 0, upd h k 1, by omega, by go_num, rfl, by omega, hide (bit_upd (unhide HH) (by omega)), hide (unhide HS 1 0 (by omega)), hide ((unhide R1).drew.other (by show w.heap.size ≠ w.heap.size + 1 + 1 + 1; omega) _), hide ((unhide R2).drew.other (by show w.heap.size + 1 ≠ w.heap.size + 1 + 1 + 1; omega) _), hide ((unhide R3).imp fun u r => r.drew.other (by show w.heap.size + 1 + 1 ≠ w.heap.size + 1 + 1 + 1; omega) _), hide ((unhide R4).drew.set k 1), hide ((below_drew (unhide HB)).setCell (by show w.heap.size ≤ w.heap.size + 1 + 1 + 1; omega) _)⟩
        case measure => simp [intOf]; omega
      · go_wp2_with fail
        go_region
        go_wp2_with fail
        go_roundw
        case rel => exact ⟨k + 1, 0, upd h k 0, by omega, by go_num, rfl, by omega, hide (bit_upd (unhide HH) (by omega)), hide (unhide HS 0 0 (by omega)), hide ((unhide R1).drew.other (by show w.heap.size ≠ w.heap.size + 1 + 1 + 1; omega) _), hide ((unhide R2).drew.other (by show w.heap.size + 1 ≠ w.heap.size + 1 + 1 + 1; omega) _), hide ((unhide R3).imp fun u r => r.drew.other (by show w.heap.size + 1 + 1 ≠ w.heap.size + 1 + 1 + 1; omega) _), hide ((unhide R4).drew.set k 0), hide ((below_drew (unhide HB)).setCell (by show w.heap.size ≤ w.heap.size + 1 + 1 + 1; omega) _)⟩
        case measure => simp [intOf]; omega
      · go_wp2_with fail
        go_region
        go_wp2_with fail
        go_roundw
        case rel => exact ⟨k + 1, 0, upd h k 0, by omega, by go_num, rfl, by omega, hide (bit_upd (unhide HH) (by omega)), hide (unhide HS 0 0 (by omega)), hide ((unhide R1).drew.other (by show w.heap.size ≠ w.heap.size + 1 + 1 + 1; omega) _), hide ((unhide R2).drew.other (by show w.heap.size + 1 ≠ w.heap.size + 1 + 1 + 1; omega) _), hide ((unhide R3).imp fun u r => r.drew.other (by show w.heap.size + 1 + 1 ≠ w.heap.size + 1 + 1 + 1; omega) _), hide ((unhide R4).drew.set k 0), hide ((below_drew (unhide HB)).setCell (by show w.heap.size ≤ w.heap.size + 1 + 1 + 1; omega) _)⟩
        case measure => simp [intOf]; omega
      · go_wp2_with fail
        go_region
        go_wp2_with fail
        go_roundw
        case rel => exact ⟨k + 1, 1, upd h k 1, by omega, by go_num, rfl, by omega, hide (bit_upd (unhide HH) (by omega)), hide (unhide HS 1 1 (by omega)), hide ((unhide R1).drew.other (by show w.heap.size ≠ w.heap.size + 1 + 1 + 1; omega) _), hide ((unhide R2).drew.other (by show w.heap.size + 1 ≠ w.heap.size + 1 + 1 + 1; omega) _), hide ((unhide R3).imp fun u r => r.drew.other (by show w.heap.size + 1 + 1 ≠ w.heap.size + 1 + 1 + 1; omega) _), hide ((unhide R4).drew.set k 1), hide ((below_drew (unhide HB)).setCell (by show w.heap.size ≤ w.heap.size + 1 + 1 + 1; omega) _)⟩
        case measure => simp [intOf]; omega
    · obtain rfl : k = 260 := by omega
      obtain ⟨u, R3'⟩ := unhide R3
      replace R3' := hide R3'
      have HP := hide (show Minus f g h from ⟨unhide HH, c, hc, unhide HV⟩)
      clear HV R3
      have hst := store54c h (unhide R3')
      have Rr := hide ((unhide R3').put h)
      have HB2 := hide (below_put (unhide HB) (b := w.heap.size + 1 + 1) (by omega) (bv h))
      go_wp2_with fail
      refine wp_load54 (unhide R4) rfl rfl ?_
      go_wp2_with fail
      refine bodyPost_ret (v := .agg (bv h)) (results54 rfl _ rfl (unhide Rr)) rfl ⟨⟨h, unhide HP, rfl⟩, unhide HB2⟩
end Go.Proofs.Ytpeoabopeihadaa
namespace Go.Proofs.Ytpeoabopeihadaa
open Go.RowKit
attribute [local simp] Tri.typeInfo Tri.sizeOf Tri.underlying Tri.runUnderlying Tri.isAgg Tri.zeroValue Tri.depth Tri.stoodInHeld Tri.eqGuardType Tri.call15 Tri.call14 Tri.call16 Tri.call17 Tri.call18 Tri.call19 Tri.call20 Tri.call46 Tri.call49 Tri.call50 Tri.call51 Tri.call52 Tri.call53 Tri.call54 Tri.call55 Tri.call65 Tri.call95 Tri.call106 Tri.call107 Tri.call108 Tri.call109 Tri.call116 Tri.call117 Tri.call118 Tri.call119 Tri.call120 Tri.call122 Tri.call135 Tri.call136 Tri.call137 Tri.call143 Tri.call144 Tri.call145 Tri.call146 Tri.call147 Tri.call149 Tri.call150 Tri.call151 Tri.call152 Tri.call156 Tri.call157 Tri.call159 Tri.call160 Tri.call161 Tri.call162 Tri.call163 Tri.call164 Tri.call165 Tri.call166 Tri.call167 Tri.call175 Tri.call176 Tri.call178 Tri.call179 Tri.call180 Tri.call181 Tri.call182 Tri.call183 Tri.call186 Tri.call187 Tri.call188 Tri.call204 Tri.call205
theorem val_zb : ∀ n, val zb n = 0
  | 0 => rfl
  | n + 1 => by show val zb n + 0 * P2 n = 0; rw [val_zb n]; omega
theorem val_put {f : Nat → Nat} {k b : Nat} (h0 : f k = 0) : ∀ {n : Nat}, k < n → val (upd f k b) n = val f n + b * P2 k
  | 0, h => by omega
  | n + 1, h => by
    by_cases e : k = n
    · subst e
      rw [val_upd]
      show _ = val f k + f k * P2 k + b * P2 k
      rw [h0]
      omega
    · show val (upd f k b) n + upd f k b n * P2 n = val f n + f n * P2 n + b * P2 k
      rw [val_put h0 (n := n) (by omega), show upd f k b n = f n by unfold upd; rw [if_neg (fun h => e h.symm)]]
      omega
def Shifted (r r2 : Nat → Nat) (b : Nat) : Prop := r2 0 = b ∧ (∀ j, j < 259 → r2 (j + 1) = r j) ∧ Bit r2
theorem val_shift {r r2 : Nat → Nat} : ∀ {n : Nat}, (∀ j, j < n → r2 (j + 1) = r j) → val r2 (n + 1) = r2 0 + 2 * val r n
  | 0, _ => by show 0 + r2 0 * 1 = r2 0 + 2 * 0; omega
  | n + 1, h => by
    show val r2 (n + 1) + r2 (n + 1) * P2 (n + 1) = r2 0 + 2 * (val r n + r n * P2 n)
    rw [val_shift (n := n) (fun j hj => h j (by omega)), h n (by omega), P2_succ, Nat.mul_add, ← Nat.mul_assoc (r n), Nat.mul_comm (r n * P2 n) 2]
    omega
theorem big260 : 18446744073709551616 < P2 259 := by
  have h := P2_mono 65 194
  have e : P2 65 = 36893488147419103232 := by decide +kernel
  rw [e] at h
  exact Nat.lt_of_lt_of_le (by omega) h
theorem shift_val {r r2 : Nat → Nat} {b : Nat} (hr : Bit r) (h : Shifted r r2 b) (hs : val r 260 < 18446744073709551616) : val r2 260 = 2 * val r 260 + b := by
  have e := val_shift (n := 259) h.2.1
  have t : val r 260 = val r 259 + r 259 * P2 259 := rfl
  have h259 := hr 259
  have hb := big260
  generalize P2 259 = P at *
  have z : r 259 = 0 := by
    rcases Nat.lt_or_ge (r 259) 1 with a | a
    · omega
    · have : r 259 = 1 := by omega
      rw [this] at t
      omega
  rw [z] at t
  rw [e, h.1]
  omega
def QInv (f g q r : Nat → Nat) (k : Nat) : Prop := Bit q ∧ Bit r ∧ (∀ j, j < k → q j = 0) ∧ val r 260 < val g 260 ∧ ∃ Q, val q 260 = Q * P2 k ∧ val f 260 = (Q * val g 260 + val r 260) * P2 k + val f k
theorem zero_a (P : Nat) : val zb 260 = 0 * P := by rw [val_zb, Nat.zero_mul]
theorem zero_b (f g : Nat → Nat) (P : Nat) : val f 260 = (0 * val g 260 + val zb 260) * P + val f 260 := by rw [val_zb]; simp
theorem QInv.start (f : Nat → Nat) {g : Nat → Nat} (hg : 0 < val g 260) : QInv f g zb zb 260 :=
  ⟨fun _ => by simp [zb], fun _ => by simp [zb], fun _ _ => rfl, by rw [val_zb]; exact hg, 0, zero_a _, zero_b f g _⟩
theorem QInv.step {f g q r : Nat → Nat} {m : Nat} (h : QInv f g q r (m + 1)) {r2 : Nat → Nat} (hs : Shifted r r2 (f m)) (hV : val g 260 ≤ 18446744073709551616) :
    ∃ Q, val q 260 = Q * P2 m ∧ val f 260 = (Q * val g 260 + val r2 260) * P2 m + val f m := by
  obtain ⟨hq, hr, hz, hl, Q, e1, e2⟩ := h
  refine ⟨2 * Q, by rw [e1, P2_succ, Nat.mul_comm (P2 m) 2, ← Nat.mul_assoc, Nat.mul_comm Q 2], ?_⟩
  rw [shift_val hr hs (by omega), e2]
  show (Q * val g 260 + val r 260) * P2 (m + 1) + (val f m + f m * P2 m) = _
  rw [P2_succ, Nat.mul_comm (P2 m) 2, ← Nat.mul_assoc, show 2 * Q * val g 260 + (2 * val r 260 + f m) = (Q * val g 260 + val r 260) * 2 + f m by rw [Nat.mul_assoc, Nat.add_mul, Nat.mul_comm 2 (Q * val g 260), Nat.mul_comm 2 (val r 260)]; omega, Nat.add_mul ((Q * val g 260 + val r 260) * 2) (f m) (P2 m)]
  omega
theorem QInv.less {f g q r : Nat → Nat} {m : Nat} (h : QInv f g q r (m + 1)) {r2 : Nat → Nat} (hs : Shifted r r2 (f m)) (hV : val g 260 ≤ 18446744073709551616) (hl : val r2 260 < val g 260) : QInv f g q r2 m :=
  ⟨h.1, hs.2.2, fun j hj => h.2.2.1 j (by omega), hl, h.step hs hV⟩
theorem minus_val {f g h : Nat → Nat} (hm : Minus f g h) (hl : val g 260 ≤ val f 260) : val h 260 = val f 260 - val g 260 := by
  obtain ⟨hb, c, hc, e⟩ := hm
  have := val_lt hb 260
  generalize P2 260 = P at *
  rcases Nat.lt_or_ge c 1 with a | a
  · rw [show c = 0 by omega, Nat.zero_mul] at e
    omega
  · rw [show c = 1 by omega, Nat.one_mul] at e
    omega
theorem QInv.more {f g q r : Nat → Nat} {m : Nat} (hm : m < 260) (hf : Bit f) (h : QInv f g q r (m + 1)) {r2 k : Nat → Nat} (hs : Shifted r r2 (f m)) (hV : val g 260 ≤ 18446744073709551616) (hl : ¬ val r2 260 < val g 260) (hk : Minus r2 g k) : QInv f g (upd q m 1) k m := by
  have hv := minus_val hk (by omega)
  have h2 := shift_val h.2.1 hs (by have := h.2.2.2.1; omega)
  have hfm := hf m
  obtain ⟨Q, e1, e2⟩ := h.step hs hV
  refine ⟨bit_upd h.1 (by omega), hk.1, fun j hj => ?_, ?_, Q + 1, ?_, ?_⟩
  · unfold upd
    rw [if_neg (by omega)]
    exact h.2.2.1 j (by omega)
  · have := h.2.2.2.1
    omega
  · rw [val_put (h.2.2.1 m (by omega)) hm, e1, Nat.add_mul]
  · rw [e2, hv, Nat.add_mul Q 1, Nat.one_mul, show Q * val g 260 + val g 260 + (val r2 260 - val g 260) = Q * val g 260 + val r2 260 by omega]
theorem QInv.done {f g q r : Nat → Nat} (h : QInv f g q r 0) : val q 260 = val f 260 / val g 260 ∧ val r 260 = val f 260 % val g 260 := by
  obtain ⟨_, _, _, hl, Q, e1, e2⟩ := h
  rw [P2_zero, Nat.mul_one] at e1 e2
  have e3 : val f 260 = val r 260 + val g 260 * Q := by
    rw [e2, Nat.mul_comm Q]
    show _ + 0 = _
    omega
  constructor
  · rw [e1, e3, Nat.add_mul_div_left _ _ (by omega), Nat.div_eq_of_lt hl]
    omega
  · rw [e3, Nat.add_mul_mod_self_left, Nat.mod_eq_of_lt hl]
end Go.Proofs.Ytpeoabopeihadaa
namespace Go.Proofs.Ytpeoabopeihadaa
open Go.RowKit
attribute [local simp] Tri.typeInfo Tri.sizeOf Tri.underlying Tri.runUnderlying Tri.isAgg Tri.zeroValue Tri.depth Tri.stoodInHeld Tri.eqGuardType Tri.call15 Tri.call14 Tri.call16 Tri.call17 Tri.call18 Tri.call19 Tri.call20 Tri.call46 Tri.call49 Tri.call50 Tri.call51 Tri.call52 Tri.call53 Tri.call54 Tri.call55 Tri.call65 Tri.call95 Tri.call106 Tri.call107 Tri.call108 Tri.call109 Tri.call116 Tri.call117 Tri.call118 Tri.call119 Tri.call120 Tri.call122 Tri.call135 Tri.call136 Tri.call137 Tri.call143 Tri.call144 Tri.call145 Tri.call146 Tri.call147 Tri.call149 Tri.call150 Tri.call151 Tri.call152 Tri.call156 Tri.call157 Tri.call159 Tri.call160 Tri.call161 Tri.call162 Tri.call163 Tri.call164 Tri.call165 Tri.call166 Tri.call167 Tri.call175 Tri.call176 Tri.call178 Tri.call179 Tri.call180 Tri.call181 Tri.call182 Tri.call183 Tri.call186 Tri.call187 Tri.call188 Tri.call204 Tri.call205
structure QR (w wr : World) (f g q r : Nat → Nat) : Prop where
  ra : Row wr w.heap.size f
  rb : Row wr (w.heap.size + 1) g
  rc : ∃ u, Row wr (w.heap.size + 1 + 1) u
  rd : ∃ u, Row wr (w.heap.size + 1 + 1 + 1) u
  rq : Row wr (w.heap.size + 1 + 1 + 1 + 1) q
  rr : Row wr (w.heap.size + 1 + 1 + 1 + 1 + 1) r
  below : Below w.heap.size w wr
theorem QR.start (w : World) (f g : Nat → Nat) : QR w ((((((w.alloc (.cells (bv f) 199)).alloc (.cells (bv g) 199)).alloc (.cells (bv zb) 199)).alloc (.cells (bv zb) 199)).alloc (.cells (bv zb) 199)).alloc (.cells (bv zb) 199)) f g zb zb := by
  obtain ⟨a, b, c, d, e⟩ := rows4 w f g zb zb
  have hs : ((((w.alloc (.cells (bv f) 199)).alloc (.cells (bv g) 199)).alloc (.cells (bv zb) 199)).alloc (.cells (bv zb) 199)).heap.size = w.heap.size + 1 + 1 + 1 + 1 := by simp
  generalize ((((w.alloc (.cells (bv f) 199)).alloc (.cells (bv g) 199)).alloc (.cells (bv zb) 199)).alloc (.cells (bv zb) 199)) = W at *
  obtain ⟨x, y, z⟩ := rows2 W zb zb
  rw [hs] at x y
  exact ⟨(a.alloc _).alloc _, (b.alloc _).alloc _, ⟨_, (c.alloc _).alloc _⟩, ⟨_, (d.alloc _).alloc _⟩, x, y, e.trans (z.mono (by omega))⟩
theorem QR.setr {w wr : World} {f g q r : Nat → Nat} (h : QR w wr f g q r) (k v : Nat) : QR w (wr.setCell ⟨w.heap.size + 1 + 1 + 1 + 1 + 1, k, none⟩ (.int .u8 v)) f g q (upd r k v) :=
  ⟨h.ra.other (by show w.heap.size ≠ w.heap.size + 1 + 1 + 1 + 1 + 1; omega) _, h.rb.other (by show w.heap.size + 1 ≠ w.heap.size + 1 + 1 + 1 + 1 + 1; omega) _, h.rc.imp fun _ r => r.other (by show w.heap.size + 1 + 1 ≠ w.heap.size + 1 + 1 + 1 + 1 + 1; omega) _, h.rd.imp fun _ r => r.other (by show w.heap.size + 1 + 1 + 1 ≠ w.heap.size + 1 + 1 + 1 + 1 + 1; omega) _, h.rq.other (by show w.heap.size + 1 + 1 + 1 + 1 ≠ w.heap.size + 1 + 1 + 1 + 1 + 1; omega) _, h.rr.set k v, h.below.setCell (by show w.heap.size ≤ w.heap.size + 1 + 1 + 1 + 1 + 1; omega) _⟩
theorem QR.setq {w wr : World} {f g q r : Nat → Nat} (h : QR w wr f g q r) (k v : Nat) : QR w (wr.setCell ⟨w.heap.size + 1 + 1 + 1 + 1, k, none⟩ (.int .u8 v)) f g (upd q k v) r :=
  ⟨h.ra.other (by show w.heap.size ≠ w.heap.size + 1 + 1 + 1 + 1; omega) _, h.rb.other (by show w.heap.size + 1 ≠ w.heap.size + 1 + 1 + 1 + 1; omega) _, h.rc.imp fun _ r => r.other (by show w.heap.size + 1 + 1 ≠ w.heap.size + 1 + 1 + 1 + 1; omega) _, h.rd.imp fun _ r => r.other (by show w.heap.size + 1 + 1 + 1 ≠ w.heap.size + 1 + 1 + 1 + 1; omega) _, h.rq.set k v, h.rr.other (by show w.heap.size + 1 + 1 + 1 + 1 + 1 ≠ w.heap.size + 1 + 1 + 1 + 1; omega) _, h.below.setCell (by show w.heap.size ≤ w.heap.size + 1 + 1 + 1 + 1; omega) _⟩
theorem QR.keep {w wr w2 : World} {f g q r : Nat → Nat} (h : QR w wr f g q r) (hb : Below wr.heap.size wr w2) : QR w w2 f g q r :=
  ⟨h.ra.keep hb h.ra.lt, h.rb.keep hb h.rb.lt, h.rc.imp fun _ r => r.keep hb r.lt, h.rd.imp fun _ r => r.keep hb r.lt, h.rq.keep hb h.rq.lt, h.rr.keep hb h.rr.lt, below_via h.below hb⟩
theorem QR.putr {w wr : World} {f g q r : Nat → Nat} (h : QR w wr f g q r) (k : Nat → Nat) : QR w (wr.setRow (w.heap.size + 1 + 1 + 1 + 1 + 1) (bv k)) f g q k :=
  ⟨h.ra.putOther (by omega) _, h.rb.putOther (by omega) _, h.rc.imp fun _ r => r.putOther (by omega) _, h.rd.imp fun _ r => r.putOther (by omega) _, h.rq.putOther (by omega) _, h.rr.put k, below_put h.below (by omega) _⟩
theorem shifted_of {r r1 : Nat → Nat} {b : Nat} (hr : Bit r) (hb : b ≤ 1) (h : ∀ j, r1 j = if 0 < j ∧ j < 260 then r (j - 1) else r j) : Shifted r (upd r1 0 b) b := by
  refine ⟨by unfold upd; rw [if_pos rfl], fun j hj => ?_, bit_upd (fun i => ?_) hb⟩
  · unfold upd
    rw [if_neg (by omega), h, if_pos ⟨by omega, by omega⟩, Nat.add_sub_cancel]
  · rw [h]; split <;> exact hr _
theorem shift_step {r r1 : Nat → Nat} {m : Nat} (hm : m + 1 < 260) (h : ∀ j, r1 j = if m + 1 < j ∧ j < 260 then r (j - 1) else r j) : ∀ j, upd r1 (m + 1) (r1 m) j = if m < j ∧ j < 260 then r (j - 1) else r j := by
  intro j
  unfold upd
  by_cases e : j = m + 1
  · subst e
    rw [if_pos rfl, if_pos ⟨by omega, hm⟩, h m, if_neg (by omega), Nat.add_sub_cancel]
  · rw [if_neg e, h j]
    by_cases c : m + 1 < j ∧ j < 260
    · rw [if_pos c, if_pos ⟨by omega, c.2⟩]
    · rw [if_neg c, if_neg (by omega)]
theorem below_cells {B b : Nat} {a : World} (hb : B ≤ b) : ∀ (vs : List Value) (o : Nat) (w : World), Below B a w → Below B a (w.setCells b o vs)
  | [], _, _, h => h
  | v :: r, o, w, h => below_cells hb r (o + 1) _ (h.setCell (by exact hb) v)
theorem Row.range {w : World} {b : Nat} {f : Nat → Nat} (h : Row w b f) : w.rangeAt b 0 (bv f).toList := by
  intro j v hv
  rw [Nat.zero_add, cell_of_row w b j _ _ _ h]
  simpa using hv
theorem Row.there {w : World} {b : Nat} {f : Nat → Nat} (h : Row w b f) : w.there b 0 260 := by
  intro j hj
  rw [Nat.zero_add]
  exact ⟨by rw [h.cell hj]; rfl, h.frozen j⟩
theorem two_ranges {w : World} {b c : Nat} {cs ds : List Value} (hc : cs.length = 260) (hd : ds.length = 260) (hbc : b ≠ c) (h1 : w.there b 0 260) (h2 : w.there c 0 260) :
    ((w.setCells b 0 cs).setCells c 0 ds).rangeAt b 0 cs ∧ ((w.setCells b 0 cs).setCells c 0 ds).rangeAt c 0 ds :=
  ⟨World.rangeAt_setCells_apart (World.rangeAt_setCells_same w b 0 cs (by rw [hc]; exact h1)) c 0 ds (Or.inl hbc), World.rangeAt_setCells_same _ c 0 ds (by rw [hd]; exact World.there_setCells h2 _ _ _)⟩
theorem results54_2 {fn : Func} {p p' : Tmp} (h : fn.results = #[.cell p 199, .cell p' 199]) (tmps : Array Value) {w : World} {b c : Nat} {cs ds : List Value} (hc : cs.length = 260) (hd : ds.length = 260)
    (hp : tmps.getD p undef = .pointer (some ⟨b, 0, none⟩)) (hp' : tmps.getD p' undef = .pointer (some ⟨c, 0, none⟩)) (hr : w.rangeAt b 0 cs) (hr' : w.rangeAt c 0 ds) :
    (results fn tmps).run (Tri Try.prog) w = .ok (.tuple #[.agg cs.toArray, .agg ds.toArray]) w := by
  have i0 := (zero_of_info info199).2
  have l1 := run_loadVar_mid (P := (Tri Try.prog)) w b 0 199 cs _ hr (Tri.und Try.underlying199) rfl (by rw [hc]; exact i0)
  have l2 := run_loadVar_mid (P := (Tri Try.prog)) w c 0 199 ds _ hr' (Tri.und Try.underlying199) rfl (by rw [hd]; exact i0)
  have e1 : tmps[p]?.getD undef = .pointer (some ⟨b, 0, none⟩) := by simpa using hp
  have e2 : tmps[p']?.getD undef = .pointer (some ⟨c, 0, none⟩) := by simpa using hp'
  simp [results, h, e1, e2, asAddr, l1, l2]
def SQ (b : Nat) (cs ds : List Value) (w : World) : Prop := w.rangeAt (b + 1 + 1 + 1 + 1) 0 cs ∧ w.rangeAt (b + 1 + 1 + 1 + 1 + 1) 0 ds ∧ w.there (b + 1 + 1) 0 260 ∧ w.there (b + 1 + 1 + 1) 0 260
theorem SQ.set {b c : Nat} {cs ds : List Value} {w : World} (h : SQ b cs ds w) (hc : c < b + 1 + 1 + 1 + 1) (vs : List Value) : SQ b cs ds (w.setCells c 0 vs) :=
  ⟨World.rangeAt_setCells_apart h.1 c 0 vs (Or.inl (by omega)), World.rangeAt_setCells_apart h.2.1 c 0 vs (Or.inl (by omega)), World.there_setCells h.2.2.1 _ _ _, World.there_setCells h.2.2.2 _ _ _⟩
def Quo (f g q r : Nat → Nat) : Prop := Bit q ∧ Bit r ∧ val q 260 = val f 260 / val g 260 ∧ val r 260 = val f 260 % val g 260
set_option maxRecDepth 20000 in
set_option maxHeartbeats 4000000 in
theorem quo_any (f g : Nat → Nat) (hf : Bit f) (hg : Bit g) (h0 : 0 < val g 260) (hV : val g 260 ≤ 18446744073709551616) (w : World) :
    Calls (Tri Try.prog) 180 #[.agg (bv f), .agg (bv g)] w fun e w' => (∃ q r, Quo f g q r ∧ e = .returned (.tuple #[.agg (bv q), .agg (bv r)])) ∧ Below w.heap.size w w' := by
  have Hf := hide hf
  have Hg := hide hg
  have hz := zero54
  have HV := hide hV
  have H0 := hide (QInv.start f h0)
  clear hf hg hV h0
  go_enter (Tri.at (by decide) Try.func180), Try.ntmps180
  go_wp2_with fail
  go_loopw [8] (fun i wr => ∃ (k : Nat) (z : Int) (q r : Nat → Nat), k ≤ 260 ∧ Hid (z = (k : Int) - 1) ∧ i = .int .i64 z ∧ Hid (QInv f g q r k) ∧ Hid (QR w wr f g q r)) (fun i _ => (intOf i + 1).toNat)
  case atStart => exact ⟨260, 259, zb, zb, by omega, hide (by omega), rfl, H0, hide (QR.start w f g)⟩
  case round =>
    obtain ⟨k, z, q, r, hk, HZ, rfl, HI, HR⟩ := hrel
    clear H0
    rcases k with _ | m
    · obtain rfl : z = -1 := by have := unhide HZ; omega
      have HQ := hide (show Quo f g q r from ⟨(unhide HI).1, (unhide HI).2.1, (unhide HI).done.1, (unhide HI).done.2⟩)
      obtain ⟨uc, hrc⟩ := (unhide HR).rc
      obtain ⟨ud, hrd⟩ := (unhide HR).rd
      have tc := hrc.there
      have td := hrd.there
      have gq := (unhide HR).rq.range
      have gr := (unhide HR).rr.range
      have HBl := hide (unhide HR).below
      have hl1 : (bv q).toList.length = 260 := by simp [bv_size]
      have hl2 : (bv r).toList.length = 260 := by simp [bv_size]
      have ho1 : ∀ v ∈ (bv q).toList, v.oneCell' = true := fun v hv => (Array.all_eq_true_iff_forall_mem.1 (bv_all q)) v (by simpa using hv)
      have ho2 : ∀ v ∈ (bv r).toList, v.oneCell' = true := fun v hv => (Array.all_eq_true_iff_forall_mem.1 (bv_all r)) v (by simpa using hv)
      have q1 : (bv q).toList.toArray = bv q := by simp
      have q2 : (bv r).toList.toArray = bv r := by simp
      have hu := (Tri.und Try.underlying199)
      have hi : ((Tri Try.prog).info? 199).map (·.size) = some 260 := (zero_of_info info199).2
      replace q1 := hide q1
      replace q2 := hide q2
      generalize (bv q).toList = cs at *
      generalize (bv r).toList = ds at *
      have hi1 : ((Tri Try.prog).info? 199).map (·.size) = some cs.length := by rw [hl1]; exact hi
      have hi2 : ((Tri Try.prog).info? 199).map (·.size) = some ds.length := by rw [hl2]; exact hi
      clear hrc hrd HR HI hi
      go_wp2_with fail
      have hSd : SQ w.heap.size cs ds wr.drew := ⟨gq, gr, tc, td⟩
      clear gq gr tc td
      refine wp_region_held_drew (S := SQ w.heap.size cs ds) (by kernel_rfl) hSd (fun hS => ?_)
      refine wpAnyH_take (i := 0) (v := .agg cs.toArray) rfl (by kernel_rfl) (by kernel_rfl) (by kernel_rfl) (fun _ _ _ h => h) (yieldsIf_load_mid (by rfl) 199 _ rfl _ _ rfl cs _ (fun w h => h.1) (Tri.und Try.underlying199) rfl hi1) hS ?_
      refine wpAnyH_take (i := 1) (v := .agg ds.toArray) rfl (by kernel_rfl) (by kernel_rfl) (by kernel_rfl) (fun _ _ _ h => h) (yieldsIf_load_mid (by rfl) 199 _ rfl _ _ rfl ds _ (fun w h => h.2.1) (Tri.und Try.underlying199) rfl hi2) hS ?_
      refine wpAnyH_all (rs := [2]) (by kernel_rfl) (by simp) (AllReadyH.cons (i := 2) rfl (fun K' hK => ?_) AllReadyH.nil)
      rw [if_pos (by rfl)]
      refine wp_store_mid 199 _ _ rfl (w.heap.size + 1 + 1) 0 cs.toArray rfl rfl (by simpa [hl1] using hS.2.2.1) (by simpa using hi1) (all_oneCell_toArray ho1) ?_
      refine hK.out _ _ (hS.set (by omega) _) (fun hS2 => ?_)
      refine wpAnyH_all (rs := [3]) (by kernel_rfl) (by simp) (AllReadyH.cons (i := 3) rfl (fun K2 hK2 => ?_) AllReadyH.nil)
      rw [if_pos (by rfl)]
      refine wp_store_mid 199 _ _ rfl (w.heap.size + 1 + 1 + 1) 0 ds.toArray rfl rfl (by simpa [hl2] using hS2.2.2.2) (by simpa using hi2) (all_oneCell_toArray ho2) ?_
      refine hK2.out _ _ (hS2.set (by omega) _) (fun hS3 => ?_)
      refine wpAnyH_done (by kernel_rfl) ?_ _
      have HB3 := hide (below_cells (B := w.heap.size) (a := w) (b := w.heap.size + 1 + 1 + 1) (by omega) ds 0 _ (below_cells (b := w.heap.size + 1 + 1) (by omega) cs 0 _ (below_drew (unhide HBl))))
      obtain ⟨g1, g2⟩ := two_ranges (w := wr.drew) (b := w.heap.size + 1 + 1) (c := w.heap.size + 1 + 1 + 1) hl1 hl2 (by omega) hS.2.2.1 hS.2.2.2
      have G1 := hide g1
      have G2 := hide g2
      clear g1 g2 hS hS2 hS3 hSd hK hK2
      go_wp2_with fail
      refine bodyPost_ret (v := .tuple #[.agg cs.toArray, .agg ds.toArray]) (results54_2 rfl _ hl1 hl2 rfl rfl (unhide G1) (unhide G2)) rfl ⟨⟨q, r, unhide HQ, ?_⟩, unhide HB3⟩
      rw [unhide q1, unhide q2]
    · obtain rfl : z = (m : Int) := by have := unhide HZ; omega
      have hm : m < 260 := by omega
      go_wp2_with fail
      go_loopw [9] (fun i wr' => ∃ (n : Nat) (r1 : Nat → Nat), n < 260 ∧ i = .int .i64 n ∧ Hid (∀ j, r1 j = if n < j ∧ j < 260 then r (j - 1) else r j) ∧ Hid (QR w wr' f g q r1)) (fun i _ => (intOf i).toNat)
      case atStart => exact ⟨259, r, by omega, rfl, hide (fun j => by rw [if_neg (by omega)]), HR⟩
      case round =>
        obtain ⟨n, r1, hn, rfl, HS, HR1⟩ := hrel
        rcases n with _ | n
        · have c1 := (unhide HR1).ra.cell (i := m) hm
          have c2 := (unhide HR1).rr.cell (i := 0) (by omega)
          have f2 := (unhide HR1).rr.frozen 0
          have hfm := unhide Hf m
          have HS2 := hide (shifted_of (b := f m) (unhide HI).2.1 hfm (unhide HS))
          have HR2 := hide ((unhide HR1).setr 0 (f m))
          go_wp2_with fail
          clear c1 c2 f2 HR1 HS
          generalize wr.setCell ⟨w.heap.size + 1 + 1 + 1 + 1 + 1, 0, none⟩ (.int .u8 (f m)) = W at *
          generalize upd r1 0 (f m) = r2 at *
          refine wp_load54 (unhide HR2).rr rfl rfl ?_
          go_wp2_with fail
          refine wp_load54 (unhide HR2).rb rfl rfl ?_
          go_wp2_with fail
          refine (size_any r2 g (unhide HS2).2.2 (unhide Hg) _).mono ?_
          rintro e w2 ⟨rfl, hb⟩
          have HR3 := hide ((unhide HR2).keep hb)
          clear hb HR2
          by_cases hl : val r2 260 < val g 260
          · have HI2 := hide ((unhide HI).less (unhide HS2) (unhide HV) hl)
            rw [ord_lt (by omega)]
            go_wp2_with fail
            go_roundw
            case rel => exact ⟨m, (m : Int) - 1, q, r2, by omega, hide rfl, by go_num, HI2, HR3⟩
            case measure => simp [intOf]
          · have ho : decide (0 ≤ ord (val r2 260) (val g 260)) = true := decide_eq_true (by unfold ord; rw [if_neg (by omega)]; split <;> omega)
            have HM := hide (fun (h : Nat → Nat) (hM : Minus r2 g h) => (unhide HI).more hm (unhide Hf) (unhide HS2) (unhide HV) hl hM)
            generalize ord (val r2 260) (val g 260) = o at *
            clear hl
            go_wp2_with fail
            refine wp_load54 (unhide HR3).rr rfl rfl ?_
            go_wp2_with fail
            refine wp_load54 (unhide HR3).rb rfl rfl ?_
            go_wp2_with fail
            refine (minus_any r2 g (unhide HS2).2.2 (unhide Hg) _).mono ?_
            rintro e w3 ⟨⟨h, hM, rfl⟩, hb⟩
            have HI2 := hide (unhide HM h hM)
            have HR4 := (unhide HR3).keep hb
            have hst := store54c h HR4.rr
            have HR5 := hide (HR4.putr h)
            clear hb HR3 HR4 hM HM
            generalize w3.setRow (w.heap.size + 1 + 1 + 1 + 1 + 1) (bv h) = W5 at *
            have c6 := (unhide HR5).rq.cell (i := m) hm
            have f6 := (unhide HR5).rq.frozen m
            have HR6 := hide ((unhide HR5).setq m 1)
            go_wp2_with fail
            go_roundw
            case rel => exact ⟨m, (m : Int) - 1, upd q m 1, h, by omega, hide rfl, by go_num, HI2, HR6⟩
            case measure => simp [intOf]
        · have c1 := (unhide HR1).rr.cell (i := n) (by omega)
          have c2 := (unhide HR1).rr.cell (i := n + 1) (by omega)
          have f2 := (unhide HR1).rr.frozen (n + 1)
          have e1 : ((n + 1 : Nat) : Int) - 1 = (n : Int) := by omega
          go_wp2_with fail
          go_roundw
          case rel => exact ⟨n, _, by omega, by go_num, hide (shift_step hn (unhide HS)), hide ((unhide HR1).setr (n + 1) (r1 n))⟩
          case measure => simp [intOf]
end Go.Proofs.Ytpeoabopeihadaa
namespace Go.Proofs.Ytpeoabopeihadaa
open Go.RowKit
attribute [local simp] Tri.typeInfo Tri.sizeOf Tri.underlying Tri.runUnderlying Tri.isAgg Tri.zeroValue Tri.depth Tri.stoodInHeld Tri.eqGuardType Tri.call15 Tri.call14 Tri.call16 Tri.call17 Tri.call18 Tri.call19 Tri.call20 Tri.call46 Tri.call49 Tri.call50 Tri.call51 Tri.call52 Tri.call53 Tri.call54 Tri.call55 Tri.call65 Tri.call95 Tri.call106 Tri.call107 Tri.call108 Tri.call109 Tri.call116 Tri.call117 Tri.call118 Tri.call119 Tri.call120 Tri.call122 Tri.call135 Tri.call136 Tri.call137 Tri.call143 Tri.call144 Tri.call145 Tri.call146 Tri.call147 Tri.call149 Tri.call150 Tri.call151 Tri.call152 Tri.call156 Tri.call157 Tri.call159 Tri.call160 Tri.call161 Tri.call162 Tri.call163 Tri.call164 Tri.call165 Tri.call166 Tri.call167 Tri.call175 Tri.call176 Tri.call178 Tri.call179 Tri.call180 Tri.call181 Tri.call182 Tri.call183 Tri.call186 Tri.call187 Tri.call188 Tri.call204 Tri.call205
def gv (l : Bool) (f : Nat → Nat) : Array Value := ((List.range 261).map fun i => if i = 0 then Value.bool l else Value.int .u8 (f (i - 1))).toArray
theorem gv_size (l : Bool) (f : Nat → Nat) : (gv l f).size = 261 := by simp [gv]
theorem gv_zero (l : Bool) (f : Nat → Nat) : (gv l f)[0]? = some (.bool l) := by simp [gv]
theorem gv_get {l : Bool} {f : Nat → Nat} {i : Nat} (h : i < 260) : (gv l f)[1 + i]? = some (.int .u8 (f i)) := by
  have e : ¬ 1 + i = 0 := by omega
  have e2 : 1 + i - 1 = i := by omega
  have e3 : 1 + i < 261 := by omega
  simp [gv, e2, e3, e]
theorem gv_all (l : Bool) (f : Nat → Nat) : (gv l f).all (·.oneCell') = true := by
  rw [Array.all_eq_true]
  intro i h
  rw [gv_size] at h
  rcases i with _ | i
  · have := gv_zero l f
    rw [Array.getElem?_eq_getElem (by rw [gv_size]; exact h)] at this
    rw [Option.some.inj this]
    rfl
  · have := gv_get (l := l) (f := f) (i := i) (by omega)
    rw [show 1 + i = i + 1 by omega, Array.getElem?_eq_getElem (by rw [gv_size]; exact h)] at this
    rw [Option.some.inj this]
    rfl
theorem gv_ext {l : Bool} {f : Nat → Nat} {c : Array Value} (hs : c.size = 261) (h0 : c[0]? = some (.bool l)) (h : ∀ i, i < 260 → c[1 + i]? = some (.int .u8 (f i))) : c = gv l f := by
  apply Array.ext_getElem?
  intro j
  by_cases hj : j < 261
  · rcases j with _ | j
    · rw [h0, gv_zero]
    · rw [show j + 1 = 1 + j by omega, h j (by omega), gv_get (by omega)]
  · rw [Array.getElem?_eq_none (by omega), Array.getElem?_eq_none (by rw [gv_size]; omega)]
theorem gv_set {l : Bool} {f : Nat → Nat} {k v : Nat} : (gv l f).setIfInBounds (1 + k) (.int .u8 v) = gv l (upd f k v) := by
  refine gv_ext (by rw [Array.size_setIfInBounds, gv_size]) ?_ (fun i hi => ?_)
  · rw [Array.getElem?_setIfInBounds, if_neg (by omega), gv_zero]
  · rw [Array.getElem?_setIfInBounds, gv_size]
    unfold upd
    by_cases e : k = i
    · subst e; rw [if_pos rfl, if_pos (by omega), if_pos rfl]
    · rw [if_neg (by omega), if_neg (fun h => e h.symm), gv_get hi]
theorem gv_less {l m : Bool} {f : Nat → Nat} : (gv l f).setIfInBounds 0 (.bool m) = gv m f := by
  refine gv_ext (by rw [Array.size_setIfInBounds, gv_size]) ?_ (fun i hi => ?_)
  · rw [Array.getElem?_setIfInBounds, if_pos rfl, if_pos (by rw [gv_size]; omega)]
  · rw [Array.getElem?_setIfInBounds, if_neg (by omega), gv_get hi]
def GRow (w : World) (b : Nat) (l : Bool) (f : Nat → Nat) : Prop := w.heap[b]? = some (.cells (gv l f) 201 (0, 0))
theorem GRow.less {w : World} {b : Nat} {l : Bool} {f : Nat → Nat} (h : GRow w b l f) : w.cell? ⟨b, 0, none⟩ = some (.bool l) := by rw [cell_of_row w b 0 _ _ _ h]; exact gv_zero l f
theorem GRow.cell {w : World} {b : Nat} {l : Bool} {f : Nat → Nat} (h : GRow w b l f) {i : Nat} (hi : i < 260) : w.cell? ⟨b, 1 + i, none⟩ = some (.int .u8 (f i)) := by rw [cell_of_row w b (1 + i) _ _ _ h]; exact gv_get hi
theorem GRow.frozen {w : World} {b : Nat} {l : Bool} {f : Nat → Nat} (h : GRow w b l f) (i : Nat) : w.frozen? ⟨b, i, none⟩ = false := frozen_of_row w b i _ _ h
theorem GRow.lt {w : World} {b : Nat} {l : Bool} {f : Nat → Nat} (h : GRow w b l f) : b < w.heap.size := (Array.getElem?_eq_some_iff.1 h).1
theorem GRow.set {w : World} {b : Nat} {l : Bool} {f : Nat → Nat} (h : GRow w b l f) (k v : Nat) : GRow (w.setCell ⟨b, 1 + k, none⟩ (.int .u8 v)) b l (upd f k v) := by
  unfold GRow
  rw [Go.heap_setCell_same w b (1 + k) _ _ _ h, gv_set]
theorem GRow.other {w : World} {b : Nat} {l : Bool} {f : Nat → Nat} (h : GRow w b l f) {a : Addr} (ha : b ≠ a.block) (v : Value) : GRow (w.setCell a v) b l f := (heap_setCell_other w a b v ha).trans h
theorem GRow.alloc {w : World} {b : Nat} {l : Bool} {f : Nat → Nat} (h : GRow w b l f) (o : Obj) : GRow (w.alloc o) b l f := (Below.heap_alloc w o b h.lt).trans h
theorem GRow.keep {w w' : World} {B b : Nat} {l : Bool} {f : Nat → Nat} (h : GRow w b l f) (hb : Below B w w') (hB : b < B) : GRow w' b l f := (hb.block b hB).trans h
theorem GRow.new (w : World) (l : Bool) (f : Nat → Nat) : GRow (w.alloc (.cells (gv l f) 201)) w.heap.size l f := heap_alloc_new w _
theorem GRow.putOther {w : World} {b c : Nat} {l : Bool} {f : Nat → Nat} (h : GRow w b l f) (hc : c ≠ b) (g : Array Value) : GRow (w.setRow c g) b l f := by
  unfold GRow at *
  simp [World.setRow, Array.getElem?_modify, h, hc]
theorem GRow.put {w : World} {b : Nat} {l m : Bool} {f : Nat → Nat} (h : GRow w b l f) (g : Nat → Nat) : GRow (w.setRow b (gv m g)) b m g := by
  unfold GRow at *
  simp [World.setRow, Array.getElem?_modify, h]
theorem info201 : ((Tri Try.prog).info? 201).map (fun i => (i.zero, i.size)) = some (some (.agg (gv false zb)), 261) := by kernel_rfl
theorem zero56 (w : World) : (zeroValue 201).run (Tri Try.prog) w = .ok (.agg (gv false zb)) w := (zero_of_info info201).1 w
theorem size56 (l : Bool) (f : Nat → Nat) : ((Tri Try.prog).info? 201).map (·.size) = some (gv l f).size := by rw [gv_size]; exact (zero_of_info info201).2
theorem store56c {w : World} {b : Nat} {l : Bool} {f : Nat → Nat} (m : Bool) (g : Nat → Nat) (h : GRow w b l f) : (storeCells ⟨b, 0, none⟩ (gv m g).toList).run (Tri Try.prog) w = .ok () (w.setRow b (gv m g)) := by
  have := run_storeVar_row (P := (Tri Try.prog)) w b 201 201 (gv l f) (gv m g) h (size56 m g) (by rw [gv_size, gv_size]) (gv_all m g)
  have hi := size56 m g
  cases hq : (Tri Try.prog).info? 201 with
  | none => simp [hq] at hi
  | some i =>
    have hs : (gv m g).size = i.size := by simp [hq] at hi; omega
    simpa [storeVar, sizeOf, typeInfo, hq, Value.cells, hs] using this
theorem wp_load56 {o : Oper} {a : Act} {w : World} {K : Act → World → Prop} {Q : Exit → Act → World → Prop} {x : Operand} {b : Nat} {l : Bool} {f : Nat → Nat} (hr : GRow w b l f) (ho : o.op = .load 201 x) (hx : a.eval x = .pointer (some ⟨b, 0, none⟩))
    (h : K (a.put o.dst (.agg (gv l f))) w) : o.wp (Tri Try.prog) a w K Q := wp_load_row 201 x ho b hx 201 (gv l f) (0, 0) _ hr (Tri.und Try.underlying201) rfl (size56 l f) h
theorem results56 {fn : Func} {p : Tmp} (h : fn.results = #[.cell p 201]) (tmps : Array Value) {w : World} {b : Nat} {l : Bool} {f : Nat → Nat} (hp : tmps.getD p undef = .pointer (some ⟨b, 0, none⟩)) (hr : GRow w b l f) :
    (results fn tmps).run (Tri Try.prog) w = .ok (.agg (gv l f)) w := results_cell_row h tmps w b 201 (gv l f) (0, 0) _ hp hr (Tri.und Try.underlying201) rfl (size56 l f)
end Go.Proofs.Ytpeoabopeihadaa
