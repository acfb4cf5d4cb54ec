/- Rows of 260 bits: what they are as numbers, and where they lie. -/
import Derived.Test.YtmepmmhhiphfiaaWide7
import Derived.Deep.OwnRows
import Derived.Deep.WholeRow
namespace Go.Proofs.Ytmepmmhhiphfiaa
open Go.RowKit
set_option linter.unusedSimpArgs false
/-- 260 bits as a value. -/
def bv (f : Nat → Nat) : Array Value := ((List.range 260).map fun i => Value.int .u8 (f i)).toArray
theorem bv_size (f : Nat → Nat) : (bv f).size = 260 := by simp [bv]
theorem bv_get {f : Nat → Nat} {i : Nat} (h : i < 260) : (bv f)[i]? = some (.int .u8 (f i)) := by simp [bv, h]
theorem bv_all (f : Nat → Nat) : (bv f).all (·.oneCell') = true := by
  rw [Array.all_eq_true]
  intro i h
  rw [bv_size] at h
  have := bv_get (f := f) h
  rw [Array.getElem?_eq_getElem (by rw [bv_size]; exact h)] at this
  rw [Option.some.inj this]
  rfl
theorem bv_congr {f g : Nat → Nat} (h : ∀ i, i < 260 → f i = g i) : bv f = bv g := by
  unfold bv
  congr 1
  apply List.map_congr_left
  intro i hi
  rw [h i (List.mem_range.mp hi)]
def upd (f : Nat → Nat) (k v : Nat) : Nat → Nat := fun j => if j = k then v else f j
theorem bv_set {f : Nat → Nat} {k v : Nat} : (bv f).setIfInBounds k (.int .u8 v) = bv (upd f k v) := by
  apply Array.ext_getElem?
  intro j
  by_cases hj : j < 260
  · rw [bv_get hj, Array.getElem?_setIfInBounds, bv_size]
    unfold upd
    by_cases e : k = j
    · subst e; simp [hj]
    · rw [if_neg e, if_neg (fun h => e h.symm), bv_get hj]
  · rw [Array.getElem?_eq_none (by simp [bv_size]; omega), Array.getElem?_eq_none (by rw [bv_size]; omega)]
/-- Block b is such a row. -/
def Row (w : World) (b : Nat) (f : Nat → Nat) : Prop := w.heap[b]? = some (.cells (bv f) 82 (0, 0))
theorem Row.cell {w : World} {b : Nat} {f : Nat → Nat} (h : Row w b f) {i : Nat} (hi : i < 260) : w.cell? ⟨b, i, none⟩ = some (.int .u8 (f i)) := by
  rw [cell_of_row w b i _ _ _ h]; exact bv_get hi
theorem Row.frozen {w : World} {b : Nat} {f : Nat → Nat} (h : Row w b f) (i : Nat) : w.frozen? ⟨b, i, none⟩ = false := frozen_of_row w b i _ _ h
theorem Row.lt {w : World} {b : Nat} {f : Nat → Nat} (h : Row w b f) : b < w.heap.size := (Array.getElem?_eq_some_iff.1 h).1
theorem Row.set {w : World} {b : Nat} {f : Nat → Nat} (h : Row w b f) (k v : Nat) : Row (w.setCell ⟨b, k, none⟩ (.int .u8 v)) b (upd f k v) := by
  unfold Row
  rw [Go.heap_setCell_same w b k _ _ _ h, bv_set]
theorem Row.other {w : World} {b : Nat} {f : Nat → Nat} (h : Row w b f) {a : Addr} (ha : b ≠ a.block) (v : Value) : Row (w.setCell a v) b f := (heap_setCell_other w a b v ha).trans h
theorem Row.alloc {w : World} {b : Nat} {f : Nat → Nat} (h : Row w b f) (o : Obj) : Row (w.alloc o) b f := (Below.heap_alloc w o b h.lt).trans h
theorem Row.drew {w : World} {b : Nat} {f : Nat → Nat} (h : Row w b f) : Row w.drew b f := h
theorem Row.keep {w w' : World} {B b : Nat} {f : Nat → Nat} (h : Row w b f) (hb : Below B w w') (hB : b < B) : Row w' b f := (hb.block b hB).trans h
theorem Row.new (w : World) (f : Nat → Nat) : Row (w.alloc (.cells (bv f) 82)) w.heap.size f := heap_alloc_new w _
/-- The power of 2. -/
def P2 : Nat → Nat
  | 0 => 1
  | n + 1 => P2 n * 2
theorem P2_zero : P2 0 = 1 := rfl
theorem P2_succ (n : Nat) : P2 (n + 1) = P2 n * 2 := rfl
theorem P2_mono (n : Nat) : ∀ m, P2 n ≤ P2 (n + m)
  | 0 => Nat.le_refl _
  | m + 1 => by
    have := P2_mono n m
    show P2 n ≤ P2 (n + m) * 2
    omega
/-- The number that the lowest n bits are. -/
def val (f : Nat → Nat) : Nat → Nat
  | 0 => 0
  | n + 1 => val f n + f n * P2 n
def Bit (f : Nat → Nat) : Prop := ∀ i, f i ≤ 1
theorem val_congr {f g : Nat → Nat} : ∀ {n : Nat}, (∀ i, i < n → f i = g i) → val f n = val g n
  | 0, _ => rfl
  | n + 1, h => by
    show val f n + f n * P2 n = val g n + g n * P2 n
    rw [val_congr (n := n) (fun i hi => h i (by omega)), h n (by omega)]
theorem val_lt {f : Nat → Nat} (hf : Bit f) : ∀ n, val f n < P2 n
  | 0 => by show 0 < 1; omega
  | n + 1 => by
    have h1 := val_lt hf n
    have h2 := hf n
    show val f n + f n * P2 n < P2 (n + 1)
    rw [P2_succ]
    rcases Nat.lt_or_ge (f n) 1 with h | h
    · rw [show f n = 0 by omega]; omega
    · rw [show f n = 1 by omega]; omega
/-- Bits that are the same from k on: the order is that of the lower ones. -/
theorem val_top {f g : Nat → Nat} : ∀ {k m : Nat}, (∀ j, k ≤ j → j < k + m → f j = g j) → ∃ t, val f (k + m) = val f k + t ∧ val g (k + m) = val g k + t
  | k, 0, _ => ⟨0, rfl, rfl⟩
  | k, m + 1, h => by
    obtain ⟨t, h1, h2⟩ := val_top (k := k) (m := m) (fun j a b => h j a (by omega))
    refine ⟨t + f (k + m) * P2 (k + m), ?_, ?_⟩
    · show val f (k + m) + f (k + m) * P2 (k + m) = _
      omega
    · show val g (k + m) + g (k + m) * P2 (k + m) = _
      rw [h (k + m) (by omega) (by omega)]
      omega
theorem val_less {f g : Nat → Nat} (hf : Bit f) (hg : Bit g) {k : Nat} (hk : k < 260) (h : ∀ j, k < j → j < 260 → f j = g j) (hl : f k < g k) : val f 260 < val g 260 := by
  obtain ⟨t, h1, h2⟩ := val_top (k := k + 1) (m := 260 - (k + 1)) (fun j a b => h j (by omega) (by omega))
  rw [show k + 1 + (260 - (k + 1)) = 260 by omega] at h1 h2
  rw [h1, h2]
  have a := val_lt hf k
  have b := hg k
  show val f k + f k * P2 k + t < val g k + g k * P2 k + t
  rw [show f k = 0 by omega, show g k = 1 by omega]
  omega
def ord (x y : Int) : Int := if x < y then -1 else if y < x then 1 else 0
theorem ord_lt {x y : Int} (h : x < y) : ord x y = -1 := if_pos h
theorem ord_gt {x y : Int} (h : y < x) : ord x y = 1 := by unfold ord; rw [if_neg (by omega), if_pos h]
theorem ord_same (x : Int) : ord x x = 0 := by unfold ord; rw [if_neg (by omega), if_neg (by omega)]
set_option maxHeartbeats 1000000 in
theorem size_any (f g : Nat → Nat) (hf : Bit f) (hg : Bit g) (w : World) : Calls Try.prog 57 #[.agg (bv f), .agg (bv g)] w fun e w' => e = .returned (.int .i64 (ord (val f 260) (val g 260))) ∧ Below w.heap.size w w' := by
  have Hf := hide hf
  have Hg := hide hg
  clear hf hg
  go_enter Try.func57, Try.ntmps57
  go_wp2_with fail
  go_loopw [5] (fun i wr => ∃ (k : Nat) (z : Int), k ≤ 260 ∧ Hid (z = (k : Int) - 1) ∧ i = .int .i64 z ∧ Hid (∀ j, k ≤ j → j < 260 → f j = g j) ∧ Hid (Row wr w.heap.size f) ∧ Hid (Row wr (w.heap.size + 1) g) ∧ Hid (Below w.heap.size w wr)) (fun i _ => (intOf i + 1).toNat)
  case atStart =>
    refine ⟨260, 259, by omega, hide (by omega), rfl, hide (fun j a b => by omega), hide ((Row.new w f).alloc _), hide ?_, hide (((Below.refl _ _).alloc (Nat.le_refl _) _).alloc (by simp) _)⟩
    have := Row.new (w.alloc (.cells (bv f) 82)) g
    simpa using this
  case round =>
    obtain ⟨k, z, hk, HZ, rfl, HE, HR, HS, HB⟩ := hrel
    rcases k with _ | m
    · obtain rfl : z = -1 := by have := unhide HZ; omega
      have he : val f 260 = val g 260 := val_congr (fun i hi => unhide HE i (by omega) hi)
      go_wp2_with fail
      rw [he, ord_same]
      go_ret
      exact ⟨rfl, unhide HB⟩
    · obtain rfl : z = (m : Int) := by have := unhide HZ; omega
      have c1 := (unhide HR).cell (i := m) (by omega)
      have c2 := (unhide HS).cell (i := m) (by omega)
      have hm : m < 260 := by omega
      have hfm := unhide Hf m
      have hgm := unhide Hg m
      have HL := hide (fun h => val_less (unhide Hf) (unhide Hg) (k := m) hm (fun j a b => unhide HE j a b) h)
      have HG := hide (fun h => val_less (unhide Hg) (unhide Hf) (k := m) hm (fun j a b => (unhide HE j a b).symm) h)
      have HN := hide (fun (h : f m = g m) j (a : m ≤ j) (b : j < 260) => if e : j = m then (show f j = g j by rw [e]; exact h) else unhide HE j (by omega) b)
      generalize f m = x at *
      generalize g m = y at *
      by_cases hxy : x = y
      · subst hxy
        go_wp2_with fail
        go_region
        go_wp2_with fail
        go_roundw
        case rel => exact ⟨m, (m : Int) - 1, by omega, hide rfl, by go_num, hide (unhide HN trivial), HR, HS, hide (below_drew (unhide HB))⟩
        case measure => simp [intOf]
      · have t1 : ((x : Int) != (y : Int)) = true := by rw [bne_iff_ne]; omega
        by_cases hlt : x < y
        · have t2 : decide ((x : Int) < (y : Int)) = true := decide_eq_true (by omega)
          have hv := unhide HL hlt
          go_wp2_with fail
          go_region
          go_wp2_with fail
          go_region
          go_wp2_with fail
          rw [ord_lt (by omega)]
          go_ret
          exact ⟨rfl, below_drew (below_drew (unhide HB))⟩
        · have t2 : decide ((x : Int) < (y : Int)) = false := decide_eq_false (by omega)
          have hv := unhide HG (by omega)
          go_wp2_with fail
          go_region
          go_wp2_with fail
          go_region
          go_wp2_with fail
          rw [ord_gt (by omega)]
          go_ret
          exact ⟨rfl, below_drew (below_drew (unhide HB))⟩
end Go.Proofs.Ytmepmmhhiphfiaa
