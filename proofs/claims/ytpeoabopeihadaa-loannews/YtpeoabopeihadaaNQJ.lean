/- Rows of numbers: such as come in, such as are made, such as are appended to; what Ints answers. -/
import Derived.Test.YtpeoabopeihadaaNQI
import Derived.WalkKit
import Derived.WalkSpells
import Derived.ProofKit
import Derived.OpenShut
import Derived.ShutString
import Derived.ChangeOld
import Derived.Deep.Draws
import Derived.Deep.OwnRows
import Derived.Below
import Derived.Test.YtpeoabopeihadaaNTri
import Derived.Laws.EntriesVeiled
import Derived.Deep.RegionHeld3
set_option linter.unusedVariables false
set_option linter.unusedSimpArgs false
set_option linter.unusedSectionVars false
set_option maxHeartbeats 1000000
namespace Go.Proofs.Ytpeoabopeihadaa.Mn
open Go.RowKit
attribute [local simp] Tri.typeInfo Tri.sizeOf Tri.underlying Tri.runUnderlying Tri.isAgg Tri.zeroValue Tri.depth Tri.stoodInHeld Tri.eqGuardType Tri.call15 Tri.call16 Tri.call26 Tri.call27 Tri.call28 Tri.call29 Tri.call30 Tri.call31 Tri.call46 Tri.call49 Tri.call50 Tri.call51 Tri.call52 Tri.call53 Tri.call54 Tri.call65 Tri.call66 Tri.call68 Tri.call69 Tri.call70 Tri.call71 Tri.call72 Tri.call73 Tri.call74 Tri.call75 Tri.call82 Tri.call84 Tri.call85 Tri.call86 Tri.call95 Tri.call101 Tri.call106 Tri.call107 Tri.call116 Tri.call117 Tri.call118 Tri.call119 Tri.call120 Tri.call122 Tri.call123 Tri.call124 Tri.call125 Tri.call126 Tri.call135 Tri.call137 Tri.call143 Tri.call144 Tri.call145 Tri.call146 Tri.call147 Tri.call149 Tri.call150 Tri.call151 Tri.call152 Tri.call156 Tri.call157 Tri.call159 Tri.call160 Tri.call161 Tri.call162 Tri.call163 Tri.call164 Tri.call165 Tri.call166 Tri.call167 Tri.call175 Tri.call176 Tri.call178 Tri.call179 Tri.call180 Tri.call181 Tri.call182 Tri.call183 Tri.call186 Tri.call187 Tri.call188 Tri.call205
def Row (w : World) (v : Value) (zs : List Int) : Prop :=
 (∃ a cap, v = .slice a 0 cap ∧ zs = []) ∨
 ∃ b off cap, v = .slice (some ⟨b, off, none⟩) zs.length cap ∧ 0 < zs.length ∧ zs.length ≤ maxLen ∧ (∀ j, j < zs.length → w.cell? ⟨b, off + j, none⟩ = some (.int .i64 (zs.getD j 0))) ∧ ∀ z ∈ zs, In64 z
theorem getD_in {zs : List Int} (h : ∀ z ∈ zs, In64 z) (k : Nat) : In64 (zs.getD k 0) := by
 by_cases hk : k < zs.length
 ·have : zs.getD k 0 = zs[k] := by simp [List.getD, hk]
  rw [this]; exact h _ (List.getElem_mem hk)
 ·have : zs.getD k 0 = 0 := by simp [List.getD, List.getElem?_eq_none (Nat.le_of_not_lt hk)]
  rw [this]; exact ⟨by omega, by omega⟩
theorem lt_of_cell {w : World} {b o : Nat} {v : Value} (h : w.cell? ⟨b, o, none⟩ = some v) : b < w.heap.size := by
 by_cases hb : b < w.heap.size
 ·exact hb
 ·exfalso
  have e : w.heap[b]? = none := Array.getElem?_eq_none (Nat.le_of_not_lt hb)
  simp [World.cell?, e] at h
theorem row_slice {w : World} {v : Value} {zs : List Int} (h : Row w v zs) : ∃ a cap, v = .slice a zs.length cap := by
 rcases h with ⟨a, cap, rfl, rfl⟩ | ⟨b, off, cap, rfl, _⟩
 ·exact ⟨a, cap, rfl⟩
 ·exact ⟨_, cap, rfl⟩
theorem Row.later {w w' : World} {v : Value} {zs : List Int} (h : Row w v zs) (hc : ∀ a x, w.cell? a = some x → w'.cell? a = some x) : Row w' v zs := by
 rcases h with h | ⟨b, off, cap, h1, h2, h3, h4, h5⟩
 ·exact Or.inl h
 ·exact Or.inr ⟨b, off, cap, h1, h2, h3, fun j hj => hc _ _ (h4 j hj), h5⟩
theorem Row.below {B : Nat} {w w' : World} {v : Value} {zs : List Int} (h : Row w v zs) (hb : Below B w w') (hB : w.heap.size ≤ B) : Row w' v zs := by
 rcases h with h | ⟨b, off, cap, h1, h2, h3, h4, h5⟩
 ·exact Or.inl h
 ·exact Or.inr ⟨b, off, cap, h1, h2, h3, fun j hj => (hb.cell (p := ⟨b, off + j, none⟩) (Nat.lt_of_lt_of_le (lt_of_cell (h4 j hj)) hB)).trans (h4 j hj), h5⟩
theorem Row.alloc {w : World} {v : Value} {zs : List Int} (h : Row w v zs) (o : Obj) : Row (w.alloc o) v zs := h.below ((Below.refl w.heap.size w).alloc (Nat.le_refl _) o) (Nat.le_refl _)
structure Grow (E : TypeId) (w wr : World) (v : Value) (zs : List Int) : Prop where
 below : Below w.heap.size w wr
 owns : wr.ownsRow w.heap.size E 1 v zs.length (zs.map (Value.int .i64))
 small : ∀ z ∈ zs, In64 z
theorem Grow.nil (E : TypeId) (w wr : World) (h : Below w.heap.size w wr) : Grow E w wr (.slice none 0 0) [] :=
 ⟨h, World.ownsRow_nil _ _ _ _, fun z hz => by cases hz⟩
theorem Grow.row {E : TypeId} {w wr : World} {v : Value} {zs : List Int} (h : Grow E w wr v zs) (hm : zs.length ≤ maxLen) : Row wr v zs := by
 obtain ⟨h1, h2⟩ := h.owns
 rcases h2 with ⟨rfl, h0⟩ | ⟨g, cap, cur, rfl, _⟩
 ·exact Or.inl ⟨none, 0, rfl, List.eq_nil_of_length_eq_zero h0⟩
 ·by_cases h0 : zs.length = 0
  ·rw [h0]; exact Or.inl ⟨_, cap, rfl, List.eq_nil_of_length_eq_zero h0⟩
  ·refine Or.inr ⟨g, 0, cap, rfl, by omega, hm, fun j hj => ?_, h.small⟩
   rw [Nat.zero_add, h.owns.cellAt j (by omega)]
   simp [List.getD, hj]
theorem row_open {W : World} {x : Addr} {len cap : Nat} {zs : List Int} (hl : len ≤ cap) (hm : cap ≤ maxLen) (hz : zs.length = cap)
  (hcell : ∀ i, i < zs.length → W.cell? (x.add i) = some (.int .i64 (zs.getD i 0))) (hwz : ∀ n ∈ zs, (Lit.int .i64 n).wf = true) : ∃ ys : List Int, Row W (.slice (some x) len cap) ys := by
 by_cases h0 : len = 0
 ·subst h0; exact ⟨[], Or.inl ⟨_, cap, rfl, rfl⟩⟩
 ·obtain ⟨b, off, rfl, hc⟩ := ints_at hcell (by omega)
  have hlen : (zs.take len).length = len := by simp; omega
  refine ⟨zs.take len, Or.inr ⟨b, off, cap, by rw [hlen], by omega, by omega, fun j hj => ?_, fun z hz => in64_of (hwz z (List.mem_of_mem_take hz))⟩⟩
  rw [hlen] at hj
  rw [hc j (by omega)]
  congr 2
  simp [List.getD, hj]
theorem info2 : ((Tri Try.prog).info? 2).map (fun i => (i.zero, i.size, i.bytes)) = some (some (.int .i64 0), 1, 8) := by kernel_rfl
end Go.Proofs.Ytpeoabopeihadaa.Mn
/- What money's smallest functions answer, at every number of 64 bits. -/
namespace Go.Proofs.Ytpeoabopeihadaa.Mn
open Go.RowKit
attribute [local simp] Tri.typeInfo Tri.sizeOf Tri.underlying Tri.runUnderlying Tri.isAgg Tri.zeroValue Tri.depth Tri.stoodInHeld Tri.eqGuardType Tri.call15 Tri.call16 Tri.call26 Tri.call27 Tri.call28 Tri.call29 Tri.call30 Tri.call31 Tri.call46 Tri.call49 Tri.call50 Tri.call51 Tri.call52 Tri.call53 Tri.call54 Tri.call65 Tri.call66 Tri.call68 Tri.call69 Tri.call70 Tri.call71 Tri.call72 Tri.call73 Tri.call74 Tri.call75 Tri.call82 Tri.call84 Tri.call85 Tri.call86 Tri.call95 Tri.call101 Tri.call106 Tri.call107 Tri.call116 Tri.call117 Tri.call118 Tri.call119 Tri.call120 Tri.call122 Tri.call123 Tri.call124 Tri.call125 Tri.call126 Tri.call135 Tri.call137 Tri.call143 Tri.call144 Tri.call145 Tri.call146 Tri.call147 Tri.call149 Tri.call150 Tri.call151 Tri.call152 Tri.call156 Tri.call157 Tri.call159 Tri.call160 Tri.call161 Tri.call162 Tri.call163 Tri.call164 Tri.call165 Tri.call166 Tri.call167 Tri.call175 Tri.call176 Tri.call178 Tri.call179 Tri.call180 Tri.call181 Tri.call182 Tri.call183 Tri.call186 Tri.call187 Tri.call188 Tri.call205
theorem plus_any (a b : Int) (ha : In64 a) (hb : In64 b) (w : World) :
  Calls (Tri Try.prog) 156 #[.int .i64 a, .int .i64 b] w fun e w' => e = .returned (.tuple #[.int .i64 (wrap64 (a + b)), .int .i64 (turn (a + b))]) ∧ w = w' := by
 by_cases h0 : 0 < b
 ·have h9 : ¬ b < 0 := by omega
  by_cases h1 : wrap64 (a + b) < a
  ·rw [plus_up ha hb h0 h1]
   go_enter (Tri.at (by decide) Try.func156), Try.ntmps156
   go_wp2
   go_ret2
   exact ⟨rfl, rfl⟩
  ·rw [plus_pos ha hb h0 h1]
   go_enter (Tri.at (by decide) Try.func156), Try.ntmps156
   go_wp2
   go_ret2
   exact ⟨rfl, rfl⟩
 ·by_cases h9 : b < 0
  ·by_cases h1 : a < wrap64 (a + b)
   ·rw [plus_down ha hb h9 h1]
    go_enter (Tri.at (by decide) Try.func156), Try.ntmps156
    go_wp2
    go_ret2
    exact ⟨rfl, rfl⟩
   ·rw [plus_neg ha hb h9 h1]
    go_enter (Tri.at (by decide) Try.func156), Try.ntmps156
    go_wp2
    go_ret2
    exact ⟨rfl, rfl⟩
  ·rw [plus_zero ha h0 h9]
   go_enter (Tri.at (by decide) Try.func156), Try.ntmps156
   go_wp2
   go_ret2
   exact ⟨rfl, rfl⟩

theorem exact_no (n t : Int) (h : (t != 0) = true) (w : World) :
  Calls (Tri Try.prog) 122 #[.int .i64 n, .int .i64 t] w fun e w' => e = .returned (.tuple #[.int .i64 0, .int .i64 3]) ∧ w = w' := by
 go_enter (Tri.at (by decide) Try.func122), Try.ntmps122
 go_wp2
 go_ret2
 exact ⟨rfl, rfl⟩
theorem exact_yes (n t : Int) (h : (t != 0) = false) (w : World) :
  Calls (Tri Try.prog) 122 #[.int .i64 n, .int .i64 t] w fun e w' => e = .returned (.tuple #[.int .i64 n, .int .i64 0]) ∧ w = w' := by
 go_enter (Tri.at (by decide) Try.func122), Try.ntmps122
 go_wp2
 go_ret2
 exact ⟨rfl, rfl⟩
theorem exact_any (n t : Int) (h : t = 0 ↔ turn n = 0) (w : World) :
  Calls (Tri Try.prog) 122 #[.int .i64 (wrap64 n), .int .i64 t] w fun e w' => e = .returned (.tuple #[.int .i64 (okN n), .int .i64 (okE n)]) ∧ w = w' := by
 by_cases h0 : t = 0
 ·rw [okN_in (h.1 h0), okE_in (h.1 h0), wrap_in (in_of_turn (h.1 h0))]
  exact exact_yes n t (by simp [h0]) w
 ·rw [okN_out (fun c => h0 (h.2 c)), okE_out (fun c => h0 (h.2 c))]
  exact exact_no _ t (by simp [h0]) w

theorem may_any (a : Int) (w : World) :
  Calls (Tri Try.prog) 143 #[.int .i64 a] w fun e w' => e = .returned (.bool (may a)) ∧ w = w' := by
 by_cases h0 : -10000000000000 ≤ a
 ·by_cases h1 : a ≤ 10000000000000
  ·rw [show may a = true from by simp [may, h0, h1]]
   go_enter (Tri.at (by decide) Try.func143), Try.ntmps143
   go_wp2
   go_ret
   exact ⟨rfl, rfl⟩
  ·rw [show may a = false from by simp [may, h1]]
   go_enter (Tri.at (by decide) Try.func143), Try.ntmps143
   go_wp2
   go_ret
   exact ⟨rfl, rfl⟩
 ·rw [show may a = false from by simp [may, h0]]
  go_enter (Tri.at (by decide) Try.func143), Try.ntmps143
  go_wp2
  go_ret
  exact ⟨rfl, rfl⟩
theorem rmay_any (a : Int) (w : World) :
  Calls (Tri Try.prog) 149 #[.int .i64 a] w fun e w' => e = .returned (.bool (may a)) ∧ w = w' := by
 by_cases h0 : -10000000000000 ≤ a
 ·by_cases h1 : a ≤ 10000000000000
  ·rw [show may a = true from by simp [may, h0, h1]]
   go_enter (Tri.at (by decide) Try.func149), Try.ntmps149
   go_wp2
   go_ret
   exact ⟨rfl, rfl⟩
  ·rw [show may a = false from by simp [may, h1]]
   go_enter (Tri.at (by decide) Try.func149), Try.ntmps149
   go_wp2
   go_ret
   exact ⟨rfl, rfl⟩
 ·rw [show may a = false from by simp [may, h0]]
  go_enter (Tri.at (by decide) Try.func149), Try.ntmps149
  go_wp2
  go_ret
  exact ⟨rfl, rfl⟩
theorem out_of {n : Int} (h : ¬ turn n = 0) : 9223372036854775807 < n ∨ n < -9223372036854775808 := by
 by_cases h1 : 9223372036854775807 < n
 ·exact Or.inl h1
 ·by_cases h2 : n < -9223372036854775808
  ·exact Or.inr h2
  ·exact absurd (turn_in ⟨by omega, by omega⟩) h
theorem radd_any (a b : Int) (ha : In64 a) (hb : In64 b) (w : World) :
  Calls (Tri Try.prog) 150 #[.int .i64 a, .int .i64 b] w fun e w' => e = .returned (.tuple #[.int .i64 (okN (a + b)), .int .i64 (okE (a + b))]) ∧ w = w' := by
 have a1 := ha.lo
 have a2 := ha.hi
 have b1 := hb.lo
 have b2 := hb.hi
 by_cases ht : turn (a + b) = 0
 ·rw [okN_in ht, okE_in ht]
  have c := in_of_turn ht
  have c1 := c.lo
  have c2 := c.hi
  clear ht c ha hb
  by_cases h0 : 0 < b
  ·go_enter (Tri.at (by decide) Try.func150), Try.ntmps150
   go_wp2
   go_ret2
   exact ⟨rfl, rfl⟩
  ·by_cases h9 : b < 0
   ·go_enter (Tri.at (by decide) Try.func150), Try.ntmps150
    go_wp2
    go_ret2
    exact ⟨rfl, rfl⟩
   ·go_enter (Tri.at (by decide) Try.func150), Try.ntmps150
    go_wp2
    go_ret2
    exact ⟨rfl, rfl⟩
 ·rw [okN_out ht, okE_out ht]
  have c := out_of ht
  clear ht ha hb
  rcases c with c | c
  ·have h0 : 0 < b := by omega
   go_enter (Tri.at (by decide) Try.func150), Try.ntmps150
   go_wp2
   go_ret2
   exact ⟨rfl, rfl⟩
  ·have h0 : ¬ 0 < b := by omega
   have h9 : b < 0 := by omega
   go_enter (Tri.at (by decide) Try.func150), Try.ntmps150
   go_wp2
   go_ret2
   exact ⟨rfl, rfl⟩
theorem add_any (a b : Int) (ha : In64 a) (hb : In64 b) (w : World) :
  Calls (Tri Try.prog) 144 #[.int .i64 a, .int .i64 b] w fun e w' => e = .returned (.tuple #[.int .i64 (okN (a + b)), .int .i64 (okE (a + b))]) ∧ w = w' := by
 go_enter (Tri.at (by decide) Try.func144), Try.ntmps144
 go_wp2_with fail
 refine (plus_any a b ha hb _).mono ?_
 rintro e w' ⟨rfl, rfl⟩
 go_wp2_with fail
 refine (exact_any (a + b) _ Iff.rfl _).mono ?_
 rintro e w' ⟨rfl, rfl⟩
 go_wp2_with fail
 go_ret2
 exact ⟨rfl, rfl⟩
end Go.Proofs.Ytpeoabopeihadaa.Mn
/- Plain facts on what amounts to come are worth, period by period from behind, each discounted and rounded. No program in this text. -/
namespace Go.Proofs.Ytpeoabopeihadaa.Mn
open Go.RowKit
theorem near_neg {x B : Int} (hB : 0 < B) : near (-x) B = -near x B := by
 have e1 : x % B + B * (x / B) = x := Int.emod_add_mul_ediv _ _
 have e2 : -x % B + B * (-x / B) = -x := Int.emod_add_mul_ediv _ _
 have h0 := Int.emod_nonneg x (show B ≠ 0 by omega)
 have h1 := Int.emod_lt_of_pos x hB
 have g0 := Int.emod_nonneg (-x) (show B ≠ 0 by omega)
 have g1 := Int.emod_lt_of_pos (-x) hB
 unfold near
 generalize x / B = q at *
 generalize x % B = t at *
 generalize -x / B = p at *
 generalize -x % B = s at *
 have hs : B * (q + p) = -(t + s) := by rw [Int.mul_add]; omega
 by_cases hz : t = 0
 ·have : q + p = 0 := by
   rcases Int.lt_trichotomy (q + p) 0 with h | h | h
   ·have := Int.mul_le_mul_of_nonneg_left (show q + p ≤ -1 by omega) (Int.le_of_lt hB)
    rw [hs] at this
    omega
   ·exact h
   ·have := Int.mul_le_mul_of_nonneg_left (show 1 ≤ q + p by omega) (Int.le_of_lt hB)
    rw [hs] at this
    omega
  have hs0 : s = 0 := by rw [this] at hs; omega
  subst hz hs0
  unfold up
  rw [if_neg (by omega), if_neg (by omega)]
  omega
 ·have : q + p = -1 := by
   rcases Int.lt_trichotomy (q + p) (-1) with h | h | h
   ·have := Int.mul_le_mul_of_nonneg_left (show q + p ≤ -2 by omega) (Int.le_of_lt hB)
    rw [hs] at this
    omega
   ·exact h
   ·have := Int.mul_le_mul_of_nonneg_left (show 0 ≤ q + p by omega) (Int.le_of_lt hB)
    rw [hs] at this
    omega
  have hs1 : s = B - t := by rw [this] at hs; omega
  have hp : p = -1 - q := by omega
  subst hs1 hp
  unfold up
  split <;> split <;> omega
theorem qD_none {r : Int} (h : May r) : qD 0 r = 0 := by
 unfold qD
 rw [Int.zero_mul]
 exact near_zero (by have := h.1; omega)
theorem qD_mono {x y r : Int} (h : May r) (l : x ≤ y) : qD x r ≤ qD y r := near_mono (by have := h.1; omega) (by omega)
theorem qD_anti {x r s : Int} (h : May r) (l : r ≤ s) (hx : 0 ≤ x) : qD x s ≤ qD x r := near_anti (by have := h.1; omega) (by omega) (by omega)
theorem qD_nonneg {x r : Int} (h : May r) (hx : 0 ≤ x) : 0 ≤ qD x r := by
 have := qD_mono h hx
 rwa [qD_none h] at this
def worth (r : Int) : List Int → Int
 | [] => 0
 | x :: l => qD (worth r l + x) r
def fitB (s v : Int) : Bool := decide (-9223372036854775808 ≤ s) && decide (s ≤ 9223372036854775807) && decide (-4611686018427387904 ≤ v) && decide (v ≤ 4611686018427387904)
theorem fitB_iff {s v : Int} : fitB s v = true ↔ In64 s ∧ -4611686018427387904 ≤ v ∧ v ≤ 4611686018427387904 := by
 unfold fitB
 simp only [Bool.and_eq_true, decide_eq_true_eq]
 exact ⟨fun ⟨⟨⟨a, b⟩, c⟩, d⟩ => ⟨⟨a, b⟩, c, d⟩, fun ⟨h, c, d⟩ => ⟨⟨⟨h.lo, h.hi⟩, c⟩, d⟩⟩
def fits (r : Int) : List Int → Bool
 | [] => true
 | x :: l => fits r l && fitB (worth r l + x) (worth r (x :: l))
def worths (r : Int) : List Int → List Int
 | [] => [0]
 | x :: l => worth r (x :: l) :: worths r l
theorem worths_len (r : Int) : ∀ l : List Int, (worths r l).length = l.length + 1
 | [] => rfl
 | _ :: l => by simp [worths, worths_len r l]
theorem worths_get (r : Int) : ∀ (l : List Int) (k : Nat), k ≤ l.length → (worths r l).getD k 0 = worth r (l.drop k)
 | [], 0, _ => rfl
 | _ :: _, 0, _ => rfl
 | x :: l, k + 1, h => by
  have := worths_get r l k (by simpa using h)
  simpa [worths] using this
theorem drop_getD {l : List Int} {k : Nat} (h : k < l.length) : l.drop k = l.getD k 0 :: l.drop (k + 1) := by
 rw [List.drop_eq_getElem_cons h]
 simp [List.getD, h]
theorem worth_drop {r : Int} {l : List Int} {k : Nat} (h : k < l.length) : worth r (l.drop k) = qD (worth r (l.drop (k + 1)) + l.getD k 0) r := by
 rw [drop_getD h]
 rfl
theorem fits_drop {r : Int} : ∀ {l : List Int} (k : Nat), fits r l = true → fits r (l.drop k) = true
 | [], k, _ => by simp [fits]
 | _ :: _, 0, h => h
 | x :: l, k + 1, h => by
  rw [List.drop_succ_cons]
  exact fits_drop k (Bool.and_eq_true _ _ ▸ h).1
theorem fits_step {r : Int} {l : List Int} {k : Nat} (h : k < l.length) : fits r (l.drop k) = (fits r (l.drop (k + 1)) && fitB (worth r (l.drop (k + 1)) + l.getD k 0) (worth r (l.drop k))) := by
 rw [drop_getD h]
 rfl
theorem not_fits {r : Int} {l : List Int} {k : Nat} (h : k < l.length) (hf : fitB (worth r (l.drop (k + 1)) + l.getD k 0) (worth r (l.drop k)) = false) : fits r l = false := by
 cases hl : fits r l with
 | false => rfl
 | true =>
  have := fits_drop k hl
  rw [fits_step h, hf, Bool.and_false] at this
  exact this.symm
theorem fits_in {r : Int} : ∀ {l : List Int}, fits r l = true → -4611686018427387904 ≤ worth r l ∧ worth r l ≤ 4611686018427387904
 | [], _ => by simp [worth]
 | _ :: _, h => (fitB_iff.mp (Bool.and_eq_true _ _ ▸ h).2).2
theorem worth_nonneg {r : Int} (h : May r) : ∀ {l : List Int}, (∀ x ∈ l, 0 ≤ x) → 0 ≤ worth r l
 | [], _ => by simp [worth]
 | x :: l, hl => by
  have := worth_nonneg h (fun y hy => hl y (List.mem_cons_of_mem x hy))
  have := hl x List.mem_cons_self
  exact qD_nonneg h (by omega)
def both : List Int → List Int → List Int
 | x :: l, y :: m => (x + y) :: both l m
 | _, _ => []
def valE (b : Int) (l : List Int) (r : Int) : Int :=
 if 600 < l.length then 10 else if l.all may = false then 2 else if mayB r = false then 2 else if fits r (l.map (· * b)) = false then 3 else 0
def valN (b : Int) (l : List Int) (r : Int) : Int := if valE b l r = 0 then worth r (l.map (· * b)) else 0
def valL (b : Int) (l : List Int) (r : Int) : List Int := if valE b l r = 0 then worths r (l.map (· * b)) else []
theorem valE_of {b : Int} {l : List Int} {r : Int} (h1 : l.length ≤ 600) (h2 : l.all may = true) (h3 : May r) : valE b l r = if fits r (l.map (· * b)) = false then 3 else 0 := by
 have h4 : mayB r = true := by unfold mayB; simpa [May] using h3
 unfold valE
 rw [if_neg (by omega), if_neg (by rw [h2]; decide), if_neg (by rw [h4]; decide)]
end Go.Proofs.Ytpeoabopeihadaa.Mn
/- What value's check, earlier and the step of its fold answer. -/
namespace Go.Proofs.Ytpeoabopeihadaa.Mn
open Go.RowKit
attribute [local simp] Tri.typeInfo Tri.sizeOf Tri.underlying Tri.runUnderlying Tri.isAgg Tri.zeroValue Tri.depth Tri.stoodInHeld Tri.eqGuardType Tri.call15 Tri.call16 Tri.call26 Tri.call27 Tri.call28 Tri.call29 Tri.call30 Tri.call31 Tri.call46 Tri.call49 Tri.call50 Tri.call51 Tri.call52 Tri.call53 Tri.call54 Tri.call65 Tri.call66 Tri.call68 Tri.call69 Tri.call70 Tri.call71 Tri.call72 Tri.call73 Tri.call74 Tri.call75 Tri.call82 Tri.call84 Tri.call85 Tri.call86 Tri.call95 Tri.call101 Tri.call106 Tri.call107 Tri.call116 Tri.call117 Tri.call118 Tri.call119 Tri.call120 Tri.call122 Tri.call123 Tri.call124 Tri.call125 Tri.call126 Tri.call135 Tri.call137 Tri.call143 Tri.call144 Tri.call145 Tri.call146 Tri.call147 Tri.call149 Tri.call150 Tri.call151 Tri.call152 Tri.call156 Tri.call157 Tri.call159 Tri.call160 Tri.call161 Tri.call162 Tri.call163 Tri.call164 Tri.call165 Tri.call166 Tri.call167 Tri.call175 Tri.call176 Tri.call178 Tri.call179 Tri.call180 Tri.call181 Tri.call182 Tri.call183 Tri.call186 Tri.call187 Tri.call188 Tri.call205
def chkE (l : List Int) (r : Int) : Int := if 600 < l.length then 10 else if mayB r = false then 2 else if l.all may = false then 2 else 0
def ChkA (w : World) (v : Value) (r e : Int) : Prop := Calls (Tri Try.prog) 116 #[v, .int .i64 r] w fun z w' => z = .returned (.int .i64 e) ∧ w = w'
theorem rate_yes {r : Int} (h : mayB r = true) (w : World) : Calls (Tri Try.prog) 52 #[.int .i64 r] w fun e w' => e = .returned (.bool true) ∧ w = w' := by
 have := _root_.Go.Proofs.Ytpeoabopeihadaa.may_any r w
 rwa [h] at this
theorem rate_no {r : Int} (h : mayB r = false) (w : World) : Calls (Tri Try.prog) 52 #[.int .i64 r] w fun e w' => e = .returned (.bool false) ∧ w = w' := by
 have := _root_.Go.Proofs.Ytpeoabopeihadaa.may_any r w
 rwa [h] at this
theorem amount_yes {a : Int} (h : may a = true) (w : World) : Calls (Tri Try.prog) 143 #[.int .i64 a] w fun e w' => e = .returned (.bool true) ∧ w = w' := by
 have := may_any a w
 rwa [h] at this
theorem amount_no {a : Int} (h : may a = false) (w : World) : Calls (Tri Try.prog) 143 #[.int .i64 a] w fun e w' => e = .returned (.bool false) ∧ w = w' := by
 have := may_any a w
 rwa [h] at this
theorem chk_long (a : Option Addr) (len cap : Nat) (r : Int) (w : World) (h : 600 < len) : ChkA w (.slice a len cap) r 10 := by
 unfold ChkA
 have d : decide ((600 : Int) < (len : Int)) = true := decide_eq_true (by omega)
 go_enter (Tri.at (by decide) Try.func116), Try.ntmps116
 go_wp2_with fail
 go_ret
 exact ⟨rfl, rfl⟩
theorem chk_rate (a : Option Addr) (len cap : Nat) (r : Int) (w : World) (h : ¬ 600 < len) (hr : mayB r = false) : ChkA w (.slice a len cap) r 2 := by
 unfold ChkA
 have d : decide ((600 : Int) < (len : Int)) = false := decide_eq_false (by omega)
 have HR := hide (rate_no hr)
 clear hr
 go_enter (Tri.at (by decide) Try.func116), Try.ntmps116
 go_wp2_with fail
 refine (uh HR _).mono ?_
 rintro e w1 ⟨rfl, rfl⟩
 go_wp2_with fail
 go_ret
 exact ⟨rfl, rfl⟩
theorem chk_none (a : Option Addr) (cap : Nat) (r : Int) (w : World) (hr : mayB r = true) : ChkA w (.slice a 0 cap) r 0 := by
 unfold ChkA
 have HR := hide (rate_yes hr)
 clear hr
 go_enter (Tri.at (by decide) Try.func116), Try.ntmps116
 go_wp2_with fail
 refine (uh HR _).mono ?_
 rintro e w1 ⟨rfl, rfl⟩
 go_wp2_with fail
 refine wp_loop_rounds 1 ?_
 rw [rounds_succ]
 go_wp2_with fail
 go_ret
 exact ⟨rfl, rfl⟩
theorem chk_row (b off cap : Nat) (l : List Int) (r e : Int) (w : World) (h : ¬ 600 < l.length) (hr : mayB r = true) (hc : ∀ j, j < l.length → w.cell? ⟨b, off + j, none⟩ = some (.int .i64 (l.getD j 0)))
  (he : (e = 0 ∧ ∀ x ∈ l, may x = true) ∨ (e = 2 ∧ ∃ x ∈ l, may x = false)) : ChkA w (.slice (some ⟨b, off, none⟩) l.length cap) r e := by
 unfold ChkA
 have HC := hide hc
 have HE := hide he
 have HR := hide (rate_yes hr)
 have HX : Hid (∀ j, j < l.length → l.getD j 0 ∈ l) := hide (fun j hj => by rw [show l.getD j 0 = l[j] by simp [List.getD, hj]]; exact List.getElem_mem hj)
 have HY : Hid ((∀ j, j < l.length → may (l.getD j 0) = true) → ∀ x ∈ l, may x = true) := hide (fun h x hx => by
  obtain ⟨j, hj, rfl⟩ := List.getElem_of_mem hx
  have := h j hj
  rwa [show l.getD j 0 = l[j] by simp [List.getD, hj]] at this)
 clear hc he hr
 generalize l.length = len at *
 have d : decide ((600 : Int) < (len : Int)) = false := decide_eq_false (by omega)
 go_enter (Tri.at (by decide) Try.func116), Try.ntmps116
 go_wp2_with fail
 refine (uh HR _).mono ?_
 rintro z w1 ⟨rfl, rfl⟩
 go_wp2_with fail
 go_loop [15] (fun i => ∃ k : Nat, k ≤ len ∧ i = .int .i64 k ∧ Hid (∀ j, j < k → may (l.getD j 0) = true)) (fun i => len - (intOf i).toNat)
 case atStart => exact ⟨0, Nat.zero_le _, rfl, hide (fun j hj => absurd hj (Nat.not_lt_zero j))⟩
 case round =>
  obtain ⟨k, hk, rfl, HA⟩ := hrel
  by_cases hlt : k < len
  ·have ck := uh HC k hlt
   have HN := hide (uh HX k hlt)
   have HS : Hid (may (l.getD k 0) = true → ∀ j, j < k + 1 → may (l.getD j 0) = true) := hide (fun h j hj => by
    by_cases e : j = k
    ·rw [e]; exact h
    ·exact uh HA j (by omega))
   generalize l.getD k 0 = z at *
   cases hz : may z with
   | true =>
    replace HS := hide (uh HS hz)
    have HM := hide (amount_yes hz)
    clear hz
    go_wp2_with fail
    refine (uh HM _).mono ?_
    rintro e1 w1 ⟨rfl, rfl⟩
    go_wp2_with fail
    go_round
    case rel => exact ⟨k + 1, by omega, by go_num, HS⟩
    case measure => simp [intOf]; omega
   | false =>
    have he : e = 2 := by
     rcases uh HE with ⟨_, h⟩ | ⟨h, _⟩
     ·have := h z (uh HN); rw [hz] at this; cases this
     ·exact h
    have HM := hide (amount_no hz)
    have HE2 := hide he
    clear hz HS he
    go_wp2_with fail
    refine (uh HM _).mono ?_
    rintro e1 w1 ⟨rfl, rfl⟩
    go_wp2_with fail
    go_ret
    exact ⟨by rw [uh HE2]; rfl, rfl⟩
  ·have hk2 : k = len := by omega
   subst hk2
   have he : e = 0 := by
    rcases uh HE with ⟨h, _⟩ | ⟨_, x, hx, h⟩
    ·exact h
    ·have := uh HY (uh HA) x hx; rw [h] at this; cases this
   have HE2 := hide he
   clear he
   go_wp2_with fail
   go_ret
   exact ⟨by rw [uh HE2]; rfl, rfl⟩
theorem chk_any {w : World} {v : Value} {l : List Int} (r : Int) (h : Row w v l) : ChkA w v r (chkE l r) := by
 unfold chkE
 by_cases h6 : 600 < l.length
 ·obtain ⟨a, cap, rfl⟩ := row_slice h
  rw [if_pos h6]
  exact chk_long a _ cap r w h6
 ·rw [if_neg h6]
  cases hr : mayB r with
  | false =>
   obtain ⟨a, cap, rfl⟩ := row_slice h
   rw [if_pos rfl]
   exact chk_rate a _ cap r w h6 hr
  | true =>
   rw [if_neg (by decide)]
   rcases h with ⟨a, cap, rfl, rfl⟩ | ⟨b, off, cap, rfl, _, _, hc, _⟩
   ·exact chk_none a cap r w hr
   ·refine chk_row b off cap l r _ w h6 hr hc ?_
    cases ha : l.all may with
    | true => exact Or.inl ⟨by simp, fun x hx => List.all_eq_true.1 ha x hx⟩
    | false =>
     refine Or.inr ⟨by simp, ?_⟩
     have := List.all_eq_false.1 ha
     obtain ⟨x, hx, hn⟩ := this
     exact ⟨x, hx, by simpa using hn⟩
def EarA (t a r n e : Int) : Prop := ∀ w : World, Calls (Tri Try.prog) 119 #[.int .i64 t, .int .i64 a, .int .i64 r] w fun z w' => z = .returned (.tuple #[.int .i64 n, .int .i64 e]) ∧ Below w.heap.size w w'
theorem add_no {a b : Int} (ha : In64 a) (hb : In64 b) (h : ¬ In64 (a + b)) (w : World) : Calls (Tri Try.prog) 144 #[.int .i64 a, .int .i64 b] w fun e w' => e = .returned (.tuple #[.int .i64 0, .int .i64 3]) ∧ w = w' := by
 have := add_any a b ha hb w
 have ht : ¬ turn (a + b) = 0 := fun c => h (in_of_turn c)
 rwa [okN_out ht, okE_out ht] at this
theorem add_yes {a b : Int} (ha : In64 a) (hb : In64 b) (h : In64 (a + b)) (w : World) : Calls (Tri Try.prog) 144 #[.int .i64 a, .int .i64 b] w fun e w' => e = .returned (.tuple #[.int .i64 (a + b), .int .i64 0]) ∧ w = w' := by
 have := add_any a b ha hb w
 rwa [okN_in (turn_in h), okE_in (turn_in h)] at this
theorem ear_sum {t a r : Int} (ht : In64 t) (ha : In64 a) (h : ¬ In64 (t + a)) : EarA t a r 0 3 := by
 intro w
 have HA := hide (add_no ht ha h)
 clear h ht ha
 go_enter (Tri.at (by decide) Try.func119), Try.ntmps119
 go_wp2_with fail
 refine (uh HA _).mono ?_
 rintro e w1 ⟨rfl, rfl⟩
 go_wp2_with fail
 go_ret2
 exact ⟨rfl, Below.refl _ _⟩
theorem ear_disc {t a r : Int} (ht : In64 t) (ha : In64 a) (hr : May r) (h : In64 (t + a)) (hq : ¬ In64 (qD (t + a) r)) : EarA t a r 0 3 := by
 intro w
 have HA := hide (add_yes ht ha h)
 have hd := discount_ok h hr
 have hq' : ¬ turn (qD (t + a) r) = 0 := fun c => hq (in_of_turn c)
 rw [okN_out hq', okE_out hq'] at hd
 have HD := hide hd
 clear hd hq hq' hr ht ha
 generalize t + a = s at *
 clear h
 go_enter (Tri.at (by decide) Try.func119), Try.ntmps119
 go_wp2_with fail
 refine (uh HA _).mono ?_
 rintro e w1 ⟨rfl, rfl⟩
 go_wp2_with fail
 refine (uh HD _).mono ?_
 rintro e w1 ⟨rfl, hb⟩
 go_wp2_with fail
 go_ret2
 exact ⟨rfl, hb⟩
theorem ear_lo {t a r : Int} (ht : In64 t) (ha : In64 a) (hr : May r) (h : In64 (t + a)) (hq : In64 (qD (t + a) r)) (d1 : decide (qD (t + a) r < -4611686018427387904) = true) : EarA t a r 0 3 := by
 intro w
 have HA := hide (add_yes ht ha h)
 have HD := hide (in_ok (discount_ok h hr) hq)
 clear hq hr ht ha
 generalize qD (t + a) r = q at *
 generalize t + a = s at *
 clear h
 go_enter (Tri.at (by decide) Try.func119), Try.ntmps119
 go_wp2_with fail
 refine (uh HA _).mono ?_
 rintro e w1 ⟨rfl, rfl⟩
 go_wp2_with fail
 refine (uh HD _).mono ?_
 rintro e w1 ⟨rfl, hb⟩
 go_wp2_with fail
 go_ret2
 exact ⟨rfl, hb⟩
theorem ear_hi {t a r : Int} (ht : In64 t) (ha : In64 a) (hr : May r) (h : In64 (t + a)) (hq : In64 (qD (t + a) r)) (d1 : decide (qD (t + a) r < -4611686018427387904) = false) (d2 : decide (4611686018427387904 < qD (t + a) r) = true) : EarA t a r 0 3 := by
 intro w
 have HA := hide (add_yes ht ha h)
 have HD := hide (in_ok (discount_ok h hr) hq)
 clear hq hr ht ha
 generalize qD (t + a) r = q at *
 generalize t + a = s at *
 clear h
 go_enter (Tri.at (by decide) Try.func119), Try.ntmps119
 go_wp2_with fail
 refine (uh HA _).mono ?_
 rintro e w1 ⟨rfl, rfl⟩
 go_wp2_with fail
 refine (uh HD _).mono ?_
 rintro e w1 ⟨rfl, hb⟩
 go_wp2_with fail
 go_ret2
 exact ⟨rfl, hb⟩
theorem ear_ok {t a r : Int} (ht : In64 t) (ha : In64 a) (hr : May r) (h : In64 (t + a)) (hq : In64 (qD (t + a) r)) (d1 : decide (qD (t + a) r < -4611686018427387904) = false) (d2 : decide (4611686018427387904 < qD (t + a) r) = false) : EarA t a r (qD (t + a) r) 0 := by
 intro w
 have HA := hide (add_yes ht ha h)
 have HD := hide (in_ok (discount_ok h hr) hq)
 clear hq hr ht ha
 generalize qD (t + a) r = q at *
 generalize t + a = s at *
 clear h
 go_enter (Tri.at (by decide) Try.func119), Try.ntmps119
 go_wp2_with fail
 refine (uh HA _).mono ?_
 rintro e w1 ⟨rfl, rfl⟩
 go_wp2_with fail
 refine (uh HD _).mono ?_
 rintro e w1 ⟨rfl, hb⟩
 go_wp2_with fail
 go_ret2
 exact ⟨rfl, hb⟩
theorem ear_yes {t a r : Int} (ht : In64 t) (ha : In64 a) (hr : May r) (h : fitB (t + a) (qD (t + a) r) = true) : EarA t a r (qD (t + a) r) 0 := by
 obtain ⟨h1, h2, h3⟩ := fitB_iff.1 h
 exact ear_ok ht ha hr h1 ⟨by omega, by omega⟩ (decide_eq_false (by omega)) (decide_eq_false (by omega))
theorem ear_no {t a r : Int} (ht : In64 t) (ha : In64 a) (hr : May r) (h : fitB (t + a) (qD (t + a) r) = false) : EarA t a r 0 3 := by
 by_cases h1 : In64 (t + a)
 ·by_cases hq : In64 (qD (t + a) r)
  ·by_cases h2 : qD (t + a) r < -4611686018427387904
   ·exact ear_lo ht ha hr h1 hq (decide_eq_true h2)
   ·by_cases h3 : 4611686018427387904 < qD (t + a) r
    ·exact ear_hi ht ha hr h1 hq (decide_eq_false h2) (decide_eq_true h3)
    ·rw [fitB_iff.2 ⟨h1, by omega, by omega⟩] at h
     cases h
  ·exact ear_disc ht ha hr h1 hq
 ·exact ear_sum ht ha h1
structure Box2 (w : World) (bt br : Nat) (b r : Int) : Prop where
 c0 : w.cell? ⟨bt, 0, none⟩ = some (.int .i64 b)
 c1 : w.cell? ⟨br, 0, none⟩ = some (.int .i64 r)
theorem step_of {x t b r n e : Int} (hx : In64 (x * b)) (H : EarA t (x * b) r n e) (bt br : Nat) (w : World) (hB : Box2 w bt br b r) :
  Calls (Tri Try.prog) 118 #[.int .i64 x, .int .i64 t, .pointer (some ⟨bt, 0, none⟩), .pointer (some ⟨br, 0, none⟩)] w fun z w' => z = .returned (.tuple #[.int .i64 n, .int .i64 e]) ∧ Below w.heap.size w w' := by
 have c0 := hB.c0
 have c1 := hB.c1
 have hw : wrap64 (x * b) = x * b := wrap_in hx
 replace H := hide H
 clear hB hx
 go_enter (Tri.at (by decide) Try.func118), Try.ntmps118
 go_wp2_with fail
 refine (uh H _).mono ?_
 rintro e w1 ⟨rfl, hb⟩
 go_wp2_with fail
 go_ret2
 exact ⟨rfl, hb⟩
end Go.Proofs.Ytpeoabopeihadaa.Mn
/- What value's foldBack answers, with the step of value's worths. -/
namespace Go.Proofs.Ytpeoabopeihadaa.Mn
open Go.RowKit
attribute [local simp] Tri.typeInfo Tri.sizeOf Tri.underlying Tri.runUnderlying Tri.isAgg Tri.zeroValue Tri.depth Tri.stoodInHeld Tri.eqGuardType Tri.call15 Tri.call16 Tri.call26 Tri.call27 Tri.call28 Tri.call29 Tri.call30 Tri.call31 Tri.call46 Tri.call49 Tri.call50 Tri.call51 Tri.call52 Tri.call53 Tri.call54 Tri.call65 Tri.call66 Tri.call68 Tri.call69 Tri.call70 Tri.call71 Tri.call72 Tri.call73 Tri.call74 Tri.call75 Tri.call82 Tri.call84 Tri.call85 Tri.call86 Tri.call95 Tri.call101 Tri.call106 Tri.call107 Tri.call116 Tri.call117 Tri.call118 Tri.call119 Tri.call120 Tri.call122 Tri.call123 Tri.call124 Tri.call125 Tri.call126 Tri.call135 Tri.call137 Tri.call143 Tri.call144 Tri.call145 Tri.call146 Tri.call147 Tri.call149 Tri.call150 Tri.call151 Tri.call152 Tri.call156 Tri.call157 Tri.call159 Tri.call160 Tri.call161 Tri.call162 Tri.call163 Tri.call164 Tri.call165 Tri.call166 Tri.call167 Tri.call175 Tri.call176 Tri.call178 Tri.call179 Tri.call180 Tri.call181 Tri.call182 Tri.call183 Tri.call186 Tri.call187 Tri.call188 Tri.call205
structure Own (w wr : World) (P len : Nat) (f : Nat → Int) : Prop where
 below : Below P w wr
 row : wr.rowIs P 2 len (fun j => .int .i64 (f j))
theorem Own.put {w wr : World} {P len : Nat} {f g : Nat → Int} (h : Own w wr P len f) (k : Nat) (v : Int) (hg : ∀ j, (if j = k then v else f j) = g j) : Own w (wr.setCell ⟨P, k, none⟩ (.int .i64 v)) P len g :=
 ⟨h.below.setCell (Nat.le_refl _) _, (h.row.set k _).congr (fun j _ => by
  by_cases e : j = k
  ·rw [if_pos e, ← hg j, if_pos e]
  ·rw [if_neg e, ← hg j, if_neg e])⟩
theorem Own.as {w wr : World} {P len : Nat} {f g : Nat → Int} (h : Own w wr P len f) (hg : ∀ j, j < len → f j = g j) : Own w wr P len g :=
 ⟨h.below, h.row.congr (fun j hj => by rw [hg j hj])⟩
theorem Own.keep {w wr w' : World} {P len : Nat} {f : Nat → Int} (h : Own w wr P len f) (hb : Below wr.heap.size wr w') : Own w w' P len f :=
 ⟨h.below.trans (hb.mono (Nat.le_of_lt h.row.lt)), h.row.of_block (hb.block P h.row.lt)⟩
theorem Own.drew {w wr : World} {P len : Nat} {f : Nat → Int} (h : Own w wr P len f) : Own w wr.drew P len f :=
 ⟨h.below.trans ⟨rfl, rfl, rfl, Nat.le_refl _, fun _ _ => rfl⟩, h.row⟩
theorem Own.asRow {w wr : World} {P len : Nat} {f : Nat → Int} {zs : List Int} (h : Own w wr P len f) (hl : zs.length = len) (h0 : 0 < len) (hm : len ≤ maxLen) (hz : ∀ j, j < len → zs.getD j 0 = f j) (hin : ∀ z ∈ zs, In64 z) : Row wr (.slice (some ⟨P, 0, none⟩) len len) zs := by
 subst hl
 refine Or.inr ⟨P, 0, zs.length, rfl, h0, hm, fun j hj => ?_, hin⟩
 rw [Nat.zero_add, h.row.cell hj, hz j hj]
def worthAt (r : Int) (L : List Int) (k j : Nat) : Int := if k ≤ j then worth r (L.drop j) else 0
theorem worthAt_end (r : Int) (L : List Int) (j : Nat) : worthAt r L L.length j = 0 := by
 unfold worthAt
 split
 ·rw [List.drop_eq_nil_of_le (by assumption)]; rfl
 ·rfl
theorem worthAt_put (r : Int) (L : List Int) (k j : Nat) : (if j = k then worth r (L.drop k) else worthAt r L (k + 1) j) = worthAt r L k j := by
 unfold worthAt
 by_cases e : j = k
 ·subst e; rw [if_pos rfl, if_pos (Nat.le_refl _)]
 ·rw [if_neg e]
  by_cases c : k ≤ j
  ·rw [if_pos c, if_pos (by omega)]
  ·rw [if_neg c, if_neg (by omega)]
theorem worthAt_here (r : Int) (L : List Int) (k : Nat) : worthAt r L k k = worth r (L.drop k) := if_pos (Nat.le_refl _)
def FoldPost (w : World) (len : Nat) (L : List Int) (r : Int) (e : Ending) (w' : World) : Prop :=
 (fits r L = true ∧ e = .returned (.tuple #[.slice (some ⟨w.heap.size, 0, none⟩) (len + 1) (len + 1), .int .i64 0]) ∧ Own w w' w.heap.size (len + 1) (worthAt r L 0)) ∨
 (fits r L = false ∧ e = .returned (.tuple #[.slice none 0 0, .int .i64 3]) ∧ Below w.heap.size w w')
theorem made_own (w : World) (n : Nat) : Own w (w.alloc (.cells (madeCells #[.int .i64 0] n) 2)) w.heap.size n (fun _ => 0) :=
 ⟨(Below.refl _ _).alloc (Nat.le_refl _) _, (World.rowIs_made w _ n 2).congr (fun _ _ => rfl)⟩
theorem made_put (w : World) (n k : Nat) : Own w (w.alloc (.cells ((madeCells #[.int .i64 0] n).setIfInBounds k (.int .i64 0)) 2)) w.heap.size n (fun _ => 0) := by
 have h := World.rowIs_alloc w ((madeCells #[.int .i64 0] n).setIfInBounds k (.int .i64 0)) 2 (fun _ => .int .i64 0) (fun i hi => by
  rw [Array.size_setIfInBounds, size_madeCells] at hi
  rw [Array.getElem?_setIfInBounds]
  split
  ·simp [size_madeCells, hi, *]
  ·simp [madeCells, hi, Nat.mod_one])
 rw [Array.size_setIfInBounds, size_madeCells] at h
 exact ⟨(Below.refl _ _).alloc (Nat.le_refl _) _, h⟩
theorem make_n (n : Nat) (h : n ≤ 1000000) (w : World) : (Instr.makeSlice 22 (.int .i64 (n : Int)) (.int .i64 (n : Int))).run (Tri Try.prog) w = .ok (.slice (some ⟨w.heap.size, 0, none⟩) n n) (w.alloc (.cells (madeCells #[.int .i64 0] n) 2)) :=
 run_make_row' (P := (Tri Try.prog)) 22 2 (.int .i64 0) 8 (Tri.und Try.underlying22) info2 rfl .i64 .i64 n (by omega) (by omega) w
theorem make_next (n : Nat) (h : n ≤ 100000) (w : World) : (Instr.makeSlice 22 (.int .i64 ((n : Int) + 1)) (.int .i64 ((n : Int) + 1))).run (Tri Try.prog) w = .ok (.slice (some ⟨w.heap.size, 0, none⟩) (n + 1) (n + 1)) (w.alloc (.cells (madeCells #[.int .i64 0] (n + 1)) 2)) := by
 have := make_n (n + 1) (by omega) w
 rwa [show ((n + 1 : Nat) : Int) = (n : Int) + 1 from by omega] at this
theorem fold_none (a : Option Addr) (cap bt br : Nat) (r : Int) (w : World) :
  Calls (Tri Try.prog) 117 #[.slice a 0 cap, .int .i64 0, .func (.func 118) #[] #[.pointer (some ⟨bt, 0, none⟩), .pointer (some ⟨br, 0, none⟩)]] w (FoldPost w 0 [] r) := by
 have hmk : ∀ w : World, (Instr.makeSlice 22 (.int .i64 1) (.int .i64 1)).run (Tri Try.prog) w = .ok (.slice (some ⟨w.heap.size, 0, none⟩) 1 1) (w.alloc (.cells (madeCells #[.int .i64 0] 1) 2)) := make_n 1 (by omega)
 have hO := made_own w 1
 have c0 := hO.row.cell (i := 0) (by omega)
 have f0 := hO.row.frozen 0
 have HO := hide (made_put w 1 0)
 clear hO
 go_enter (Tri.at (by decide) Try.func117), Try.ntmps117
 go_wp2_with fail
 refine wp_loop_rounds 1 ?_
 rw [rounds_succ]
 go_wp2_with fail
 go_ret2
 exact Or.inl ⟨rfl, rfl, (uh HO).as (fun j _ => by simp [worthAt, worth])⟩
set_option maxRecDepth 20000 in
theorem fold_row (b off cap bt br : Nat) (l : List Int) (by' r : Int) (w : World) (h0 : 0 < l.length) (h6 : l.length ≤ 600) (hr : May r)
  (hc : ∀ j, j < l.length → w.cell? ⟨b, off + j, none⟩ = some (.int .i64 (l.getD j 0))) (hin : ∀ x ∈ l, In64 (x * by')) (hB : Box2 w bt br by' r) :
  Calls (Tri Try.prog) 117 #[.slice (some ⟨b, off, none⟩) l.length cap, .int .i64 0, .func (.func 118) #[] #[.pointer (some ⟨bt, 0, none⟩), .pointer (some ⟨br, 0, none⟩)]] w (FoldPost w l.length (l.map (· * by')) r) := by
 obtain ⟨L, hL⟩ : ∃ L, l.map (· * by') = L := ⟨_, rfl⟩
 have hlen : L.length = l.length := by rw [← hL, List.length_map]
 have HG : Hid (∀ k, k < l.length → L.getD k 0 = l.getD k 0 * by' ∧ In64 (l.getD k 0 * by')) := hide (fun k hk => by
  have e1 : l.getD k 0 = l[k] := by simp [List.getD, hk]
  refine ⟨?_, ?_⟩
  ·rw [← hL, e1]; simp [List.getD, hk]
  ·rw [e1]; exact hin _ (List.getElem_mem hk))
 rw [hL]
 have HC := hide hc
 have HB := hide hB
 have hbb : b < w.heap.size := lt_of_cell (hc 0 h0)
 have HW : Hid (∀ k, k < l.length → worth r (L.drop k) = qD (worth r (L.drop (k + 1)) + L.getD k 0) r) := hide (fun k hk => worth_drop (by omega))
 have HF : Hid (∀ k, k < l.length → fits r (L.drop k) = (fits r (L.drop (k + 1)) && fitB (worth r (L.drop (k + 1)) + L.getD k 0) (worth r (L.drop k)))) := hide (fun k hk => fits_step (by omega))
 have HN : Hid (∀ k, k < l.length → fitB (worth r (L.drop (k + 1)) + L.getD k 0) (worth r (L.drop k)) = false → fits r L = false) := hide (fun k hk => not_fits (by omega))
 have H0 : Hid (fits r (L.drop l.length) = true) := hide (by rw [List.drop_eq_nil_of_le (by omega)]; rfl)
 have HY : Hid (fits r (L.drop 0) = fits r L) := hide rfl
 have HE : Hid (∀ j, worthAt r L l.length j = 0) := hide (fun j => by rw [← hlen]; exact worthAt_end r L j)
 have hmk := make_next l.length (by omega)
 have Hmk := hide hmk
 have hO := made_own w (l.length + 1)
 have c0 := hO.row.cell (i := l.length) (by omega)
 have f0 := hO.row.frozen l.length
 have HO := hide (made_put w (l.length + 1) l.length)
 clear hO hL hc hB hin
 generalize l.length = len at *
 clear hlen
 go_enter (Tri.at (by decide) Try.func117), Try.ntmps117
 go_wp2_with fail
 clear hmk Hmk
 go_loopw [9] (fun i wr => ∃ k : Nat, k ≤ len ∧ i = .int .i64 ((k : Int) - 1) ∧ Hid (fits r (L.drop k) = true) ∧ Hid (Own w wr w.heap.size (len + 1) (worthAt r L k))) (fun i _ => (intOf i + 1).toNat)
 case atStart => exact ⟨len, Nat.le_refl _, by go_num, H0, hide ((uh HO).as (fun j _ => (uh HE j).symm))⟩
 case round =>
  clear HO c0 f0
  obtain ⟨k, hk, rfl, HK, HO⟩ := hrel
  by_cases hlt : 0 < k
  ·obtain ⟨m, rfl⟩ : ∃ m, k = m + 1 := ⟨k - 1, by omega⟩
   rw [show (((m + 1 : Nat) : Int) - 1) = (m : Int) from by omega]
   have hw := (uh HO).below
   have cl := (hw.cell (p := ⟨b, off + m, none⟩) hbb).trans (uh HC m (by omega))
   have ca := (uh HO).row.cell (i := m + 1) (by omega)
   have cm := (uh HO).row.cell (i := m) (by omega)
   have fm := (uh HO).row.frozen m
   rw [worthAt_here] at ca
   have hB1 : Box2 wr bt br by' r := ⟨(hw.cell (p := ⟨bt, 0, none⟩) (lt_of_cell (uh HB).c0)).trans (uh HB).c0, (hw.cell (p := ⟨br, 0, none⟩) (lt_of_cell (uh HB).c1)).trans (uh HB).c1⟩
   have HB1 := hide hB1
   obtain ⟨g1, g2⟩ := uh HG m (by omega)
   have t64 : In64 (worth r (L.drop (m + 1))) := by
    have := fits_in (uh HK)
    exact ⟨by omega, by omega⟩
   have hF := uh HF m (by omega)
   have hW := uh HW m (by omega)
   have hN := uh HN m (by omega)
   have HP := hide (worthAt_put r L m)
   rw [uh HK, Bool.true_and] at hF
   rw [g1] at hF hW hN
   rw [hW] at hF hN HP
   generalize worth r (L.drop (m + 1)) = t at *
   generalize l.getD m 0 = x at *
   have i1 : (0 : Int) ≤ (m : Int) := by omega
   have i2 : (m : Int) < (len : Int) := by omega
   have i3 : (0 : Int) ≤ (m : Int) + 1 := by omega
   have i4 : (m : Int) + 1 < (len : Int) + 1 := by omega
   have i5 : IntKind.i64.wrap ((m : Int) + 1) = (m : Int) + 1 := by rw [IntKind.wrap_i64]; omega
   have i6 : m < len := by omega
   have i7 : m + 1 < len + 1 := by omega
   cases hb : fitB (t + x * by') (qD (t + x * by') r) with
   | true =>
    rw [hb] at hF
    have HF1 := hide hF
    have HP1 := HP
    clear hN hF HP hW
    have HS := hide (fun w' => step_of (x := x) (t := t) g2 (ear_yes t64 g2 hr hb) bt br w')
    clear hr
    go_wp2_with fail
    go_region_held3 (fun w' => w'.cell? ⟨b, off + m, none⟩ = some (.int .i64 x) ∧ w'.cell? ⟨w.heap.size, m + 1, none⟩ = some (.int .i64 t) ∧ Hid (Own w w' w.heap.size (len + 1) (worthAt r L (m + 1))))
     (first
      | exact ⟨(hb1.cell (p := ⟨b, off + m, none⟩) (lt_of_cell cl)).trans cl, (hb1.cell (p := ⟨w.heap.size, m + 1, none⟩) (lt_of_cell ca)).trans ca, hide ((uh HO).drew.keep hb1)⟩
      | exact ⟨cl, ca, HO⟩
      | exact ⟨cl, ca, hide (uh HO).drew⟩)
     ((go_at_call 118; refine (uh HS _ (by exact ⟨(uh HB1).c0, (uh HB1).c1⟩)).mono ?_; rintro e w1 ⟨rfl, hb1⟩))
    rename_i hH
    replace HO := hide (uh hH.2.2)
    clear hH hb1 HS HB1 cl ca cm fm
    have cm := (uh HO).row.cell (i := m) (by omega)
    have fm := (uh HO).row.frozen m
    generalize qD (t + x * by') r = q at *
    go_wp2_with fail
    go_roundw
    case rel => exact ⟨m, by omega, by go_num, HF1, hide ((uh HO).put m q (uh HP1))⟩
    case measure => simp [intOf]
   | false =>
    have HN1 := hide (hN hb)
    clear hN hF HP hW
    have HS := hide (fun w' => step_of (x := x) (t := t) g2 (ear_no t64 g2 hr hb) bt br w')
    clear hr
    go_wp2_with fail
    go_region_held3 (fun w' => w'.cell? ⟨b, off + m, none⟩ = some (.int .i64 x) ∧ w'.cell? ⟨w.heap.size, m + 1, none⟩ = some (.int .i64 t) ∧ Hid (Own w w' w.heap.size (len + 1) (worthAt r L (m + 1))))
     (first
      | exact ⟨(hb1.cell (p := ⟨b, off + m, none⟩) (lt_of_cell cl)).trans cl, (hb1.cell (p := ⟨w.heap.size, m + 1, none⟩) (lt_of_cell ca)).trans ca, hide ((uh HO).drew.keep hb1)⟩
      | exact ⟨cl, ca, HO⟩
      | exact ⟨cl, ca, hide (uh HO).drew⟩)
     ((go_at_call 118; refine (uh HS _ (by exact ⟨(uh HB1).c0, (uh HB1).c1⟩)).mono ?_; rintro e w1 ⟨rfl, hb1⟩))
    rename_i hH
    replace HO := hide (uh hH.2.2)
    clear hH hb1 HS HB1 cl ca cm fm
    go_wp2_with fail
    go_ret2
    exact Or.inr ⟨uh HN1, rfl, (uh HO).below⟩
  ·have e0 : k = 0 := by omega
   subst e0
   have HF1 : Hid (fits r L = true) := hide ((uh HY).symm.trans (uh HK))
   clear HK
   go_wp2_with fail
   go_ret2
   exact Or.inl ⟨uh HF1, rfl, uh HO⟩
end Go.Proofs.Ytpeoabopeihadaa.Mn
/- What value's worths, now, Of, All, Fine and Change answer. -/
namespace Go.Proofs.Ytpeoabopeihadaa.Mn
open Go.RowKit
attribute [local simp] Tri.typeInfo Tri.sizeOf Tri.underlying Tri.runUnderlying Tri.isAgg Tri.zeroValue Tri.depth Tri.stoodInHeld Tri.eqGuardType Tri.call15 Tri.call16 Tri.call26 Tri.call27 Tri.call28 Tri.call29 Tri.call30 Tri.call31 Tri.call46 Tri.call49 Tri.call50 Tri.call51 Tri.call52 Tri.call53 Tri.call54 Tri.call65 Tri.call66 Tri.call68 Tri.call69 Tri.call70 Tri.call71 Tri.call72 Tri.call73 Tri.call74 Tri.call75 Tri.call82 Tri.call84 Tri.call85 Tri.call86 Tri.call95 Tri.call101 Tri.call106 Tri.call107 Tri.call116 Tri.call117 Tri.call118 Tri.call119 Tri.call120 Tri.call122 Tri.call123 Tri.call124 Tri.call125 Tri.call126 Tri.call135 Tri.call137 Tri.call143 Tri.call144 Tri.call145 Tri.call146 Tri.call147 Tri.call149 Tri.call150 Tri.call151 Tri.call152 Tri.call156 Tri.call157 Tri.call159 Tri.call160 Tri.call161 Tri.call162 Tri.call163 Tri.call164 Tri.call165 Tri.call166 Tri.call167 Tri.call175 Tri.call176 Tri.call178 Tri.call179 Tri.call180 Tri.call181 Tri.call182 Tri.call183 Tri.call186 Tri.call187 Tri.call188 Tri.call205
theorem cell_new (w : World) (v : Value) (T : TypeId) : (w.alloc (.cells #[v] T)).cell? ⟨w.heap.size, 0, none⟩ = some v := by
 rw [cell_of_row _ _ _ _ _ _ (heap_alloc_new w _)]; rfl
theorem cell_old {w : World} {b o : Nat} {v : Value} (h : w.cell? ⟨b, o, none⟩ = some v) (x : Obj) : (w.alloc x).cell? ⟨b, o, none⟩ = some v :=
 (((Below.refl w.heap.size w).alloc (Nat.le_refl _) x).cell (p := ⟨b, o, none⟩) (lt_of_cell h)).trans h
theorem box2_new (w : World) (r b : Int) : Box2 ((w.alloc (.cells #[.int .i64 r] 2)).alloc (.cells #[.int .i64 b] 2)) (w.heap.size + 1) w.heap.size b r := by
 refine ⟨?_, cell_old (cell_new _ _ _) _⟩
 have h := cell_new (w.alloc (.cells #[.int .i64 r] 2)) (.int .i64 b) 2
 rwa [show (w.alloc (.cells #[.int .i64 r] 2)).heap.size = w.heap.size + 1 from by simp] at h
theorem below2 (w : World) (o p : Obj) : Below w.heap.size w ((w.alloc o).alloc p) := ((Below.refl _ _).alloc (Nat.le_refl _) _).alloc (by simp) _
theorem valE_no {b : Int} {l : List Int} {r : Int} (h : chkE l r ≠ 0) : valE b l r = chkE l r := by
 unfold chkE at *
 unfold valE
 by_cases h6 : 600 < l.length
 ·rw [if_pos h6, if_pos h6]
 ·rw [if_neg h6] at h
  rw [if_neg h6, if_neg h6]
  cases hr : mayB r with
  | false => simp
  | true =>
   cases ha : l.all may with
   | false => simp
   | true => rw [hr, ha] at h; exact absurd rfl h
theorem chk_ok {l : List Int} {r : Int} (h : chkE l r = 0) : l.length ≤ 600 ∧ l.all may = true ∧ May r := by
 unfold chkE at h
 split at h
 ·omega
 ·split at h
  ·omega
  ·split at h
   ·omega
   ·next a b c =>
    refine ⟨by omega, by simpa using c, ?_⟩
    have b := (Bool.not_eq_false _).mp b
    unfold mayB at b
    simpa [May] using b
theorem all_bd {l : List Int} (h : l.all may = true) {b : Int} (hb : b = 1 ∨ b = 1000) : ∀ x ∈ l, In64 (x * b) := by
 intro x hx
 have := List.all_eq_true.1 h x hx
 have hx : -10000000000000 ≤ x ∧ x ≤ 10000000000000 := by simpa [may] using this
 rcases hb with rfl | rfl <;> exact ⟨by omega, by omega⟩
theorem worths_in {r : Int} : ∀ {l : List Int}, fits r l = true → ∀ z ∈ worths r l, In64 z
 | [], _ => by
  intro z hz
  simp [Mn.worths] at hz
  subst hz
  exact ⟨by omega, by omega⟩
 | x :: l, h => by
  intro z hz
  rcases List.mem_cons.1 hz with rfl | hz
  ·have := fits_in h
   exact ⟨by omega, by omega⟩
  ·exact worths_in ((Bool.and_eq_true _ _ ▸ h).1) z hz
def WorPost (w : World) (b : Int) (l : List Int) (r : Int) (e : Ending) (w' : World) : Prop := ∃ v, e = .returned (.tuple #[v, .int .i64 (valE b l r)]) ∧ Row w' v (valL b l r) ∧ Below w.heap.size w w'
def WorA (w : World) (v : Value) (l : List Int) (r b : Int) : Prop := Calls (Tri Try.prog) 65 #[v, .int .i64 r, .int .i64 b] w (WorPost w b l r)
theorem wor_no {w : World} {v : Value} {l : List Int} {r b : Int} (hR : Row w v l) (h : chkE l r ≠ 0) : WorA w v l r b := by
 have hv : valE b l r = chkE l r := valE_no h
 have hl : valL b l r = [] := by unfold valL; rw [hv, if_neg h]
 unfold WorA WorPost
 rw [hl, hv]
 have hB := box2_new w r b
 have c1 := hB.c1
 have HC := hide (chk_any r ((hR.alloc (.cells #[.int .i64 r] 2)).alloc (.cells #[.int .i64 b] 2)))
 have HBl := hide (below2 w (.cells #[.int .i64 r] 2) (.cells #[.int .i64 b] 2))
 unfold ChkA at HC
 generalize chkE l r = E at *
 have hE : (E != 0) = true := by simpa using h
 clear hv hl h hB hR
 go_enter (Tri.at (by decide) Try.func65), Try.ntmps65
 go_wp2_with fail
 refine (uh HC).mono ?_
 rintro e w1 ⟨rfl, rfl⟩
 go_wp2_with fail
 go_ret2
 exact ⟨_, rfl, Or.inl ⟨_, _, rfl, rfl⟩, uh HBl⟩
theorem fold_any {w : World} {v : Value} {l : List Int} {r b : Int} {bt br : Nat} (hR : Row w v l) (h6 : l.length ≤ 600) (hr : May r) (hin : ∀ x ∈ l, In64 (x * b)) (hB : Box2 w bt br b r) :
  Calls (Tri Try.prog) 117 #[v, .int .i64 0, .func (.func 118) #[] #[.pointer (some ⟨bt, 0, none⟩), .pointer (some ⟨br, 0, none⟩)]] w (FoldPost w l.length (l.map (· * b)) r) := by
 rcases hR with ⟨a, cap, rfl, rfl⟩ | ⟨rb, off, cap, rfl, h0, _, hc, _⟩
 ·exact fold_none a cap bt br r w
 ·exact fold_row rb off cap bt br l b r w h0 h6 hr hc hin hB
theorem wor_end {w W : World} {b : Int} {l : List Int} {r : Int} (h : chkE l r = 0) (hBl : Below w.heap.size w W) {e : Ending} {w' : World} (hF : FoldPost W l.length (l.map (· * b)) r e w') : WorPost w b l r e w' := by
 obtain ⟨h6, ha, hr⟩ := chk_ok h
 have hv : valE b l r = _ := valE_of h6 ha hr
 rcases hF with ⟨hf, rfl, ho⟩ | ⟨hf, rfl, hb⟩
 ·rw [hf, if_neg (by decide)] at hv
  refine ⟨_, by rw [hv], ?_, below_via hBl (ho.below)⟩
  unfold valL
  rw [if_pos hv]
  have hw := worths_len r (l.map (· * b))
  rw [List.length_map] at hw
  exact ho.asRow hw (by omega) (by unfold maxLen; omega) (fun j hj => by
   rw [worths_get r _ j (by rw [List.length_map]; omega)]
   exact (if_pos (Nat.zero_le _)).symm) (worths_in hf)
 ·rw [hf, if_pos rfl] at hv
  refine ⟨_, by rw [hv], ?_, below_via hBl hb⟩
  unfold valL
  rw [if_neg (by omega)]
  exact Or.inl ⟨_, _, rfl, rfl⟩
theorem fold_shape {w : World} {len : Nat} {L : List Int} {r : Int} {e : Ending} {w' : World} (h : FoldPost w len L r e w') : ∃ (v : Value) (E : Int), e = .returned (.tuple #[v, .int .i64 E]) := by
 rcases h with ⟨_, rfl, _⟩ | ⟨_, rfl, _⟩
 ·exact ⟨_, _, rfl⟩
 ·exact ⟨_, _, rfl⟩
theorem wor_yes {w : World} {v : Value} {l : List Int} {r b : Int} (hb : b = 1 ∨ b = 1000) (hR : Row w v l) (h : chkE l r = 0) : WorA w v l r b := by
 obtain ⟨h6, ha, hr⟩ := chk_ok h
 have hB := box2_new w r b
 have c1 := hB.c1
 have hR2 := (hR.alloc (.cells #[.int .i64 r] 2)).alloc (.cells #[.int .i64 b] 2)
 have hC := chk_any r hR2
 rw [h] at hC
 have HC := hide hC
 have HF := hide (fold_any hR2 h6 hr (all_bd ha hb) hB)
 have HE := hide (fun e w' => wor_end (b := b) (e := e) (w' := w') h (below2 w (.cells #[.int .i64 r] 2) (.cells #[.int .i64 b] 2)))
 unfold WorA
 unfold ChkA at HC
 clear h hB hR hR2 hC hb h6 ha hr
 have HS := hide (fun e w' => fold_shape (w := (w.alloc (.cells #[.int .i64 r] 2)).alloc (.cells #[.int .i64 b] 2)) (len := l.length) (L := l.map (· * b)) (r := r) (e := e) (w' := w'))
 show Calls _ _ _ _ (fun e w' => WorPost w b l r e w')
 generalize FoldPost ((w.alloc (.cells #[.int .i64 r] 2)).alloc (.cells #[.int .i64 b] 2)) l.length (l.map (· * b)) r = F at *
 go_enter (Tri.at (by decide) Try.func65), Try.ntmps65
 go_wp2_with fail
 refine (uh HC).mono ?_
 rintro e w1 ⟨rfl, rfl⟩
 go_wp2_with fail
 refine (uh HF).mono ?_
 intro e w1 hf
 obtain ⟨v', E, rfl⟩ := uh HS _ _ hf
 have HQ := hide (uh HE _ _ hf)
 clear hf HE HF HS HC
 go_wp2_with fail
 go_ret2
 exact uh HQ
theorem wor_any {w : World} {v : Value} {l : List Int} {r b : Int} (hb : b = 1 ∨ b = 1000) (hR : Row w v l) : WorA w v l r b := by
 by_cases h : chkE l r = 0
 ·exact wor_yes hb hR h
 ·exact wor_no hR h
def NowA (f : Nat) (w : World) (args : Array Value) (n e : Int) : Prop := Calls (Tri Try.prog) f args w fun z w' => z = .returned (.tuple #[.int .i64 n, .int .i64 e]) ∧ Below w.heap.size w w'
theorem valL_head {b : Int} {l : List Int} {r : Int} (h : valE b l r = 0) : ∃ R, valL b l r = valN b l r :: R := by
 unfold valL valN
 rw [if_pos h, if_pos h]
 cases l with
 | nil => exact ⟨[], rfl⟩
 | cons x l => exact ⟨_, rfl⟩
theorem now_any {w : World} {v : Value} {l : List Int} {r b : Int} (hb : b = 1 ∨ b = 1000) (hR : Row w v l) : NowA 95 w #[v, .int .i64 r, .int .i64 b] (valN b l r) (valE b l r) := by
 have HW := hide (wor_any (r := r) hb hR)
 unfold NowA
 unfold WorA WorPost at HW
 by_cases h : valE b l r = 0
 ·obtain ⟨R, hR⟩ := valL_head h
  rw [hR, h] at HW
  rw [h]
  have HH := hide hR
  clear hR h
  generalize valN b l r = n at *
  go_enter (Tri.at (by decide) Try.func95), Try.ntmps95
  go_wp2_with fail
  refine (uh HW).mono ?_
  rintro e w1 ⟨u, rfl, hu, hb⟩
  rcases hu with ⟨a, cap, rfl, h0⟩ | ⟨g, off, cap, rfl, _, _, hc, _⟩
  ·cases h0
  ·have c0 := hc 0 (by simp)
   rw [Nat.add_zero] at c0
   simp only [List.getD_cons_zero] at c0
   have HB := hide hb
   clear hc hb HW
   have i1 : (0 : Int) < ((n :: R).length : Int) := by simp only [List.length_cons]; omega
   generalize (n :: R).length = len at *
   have i2 : 0 < len := by omega
   go_wp2_with fail
   go_ret2
   exact ⟨rfl, uh HB⟩
 ·have h0 : valN b l r = 0 := by unfold valN; rw [if_neg h]
  rw [h0]
  have hE : (valE b l r != 0) = true := by simpa using h
  clear h h0
  generalize valE b l r = E at *
  go_enter (Tri.at (by decide) Try.func95), Try.ntmps95
  go_wp2_with fail
  refine (uh HW).mono ?_
  rintro e w1 ⟨u, rfl, hu, hb⟩
  have HB := hide hb
  clear hu hb
  go_wp2_with fail
  go_ret2
  exact ⟨rfl, uh HB⟩
theorem fine_any {w : World} {v : Value} {l : List Int} (r : Int) (hR : Row w v l) : NowA 106 w #[v, .int .i64 r] (valN 1000 l r) (valE 1000 l r) := by
 have H := hide (now_any (r := r) (Or.inr rfl : (1000 : Int) = 1 ∨ (1000 : Int) = 1000) hR)
 unfold NowA at *
 generalize valN 1000 l r = n at *
 generalize valE 1000 l r = E at *
 go_enter (Tri.at (by decide) Try.func106), Try.ntmps106
 go_wp2_with fail
 refine (uh H).mono ?_
 rintro e w1 ⟨rfl, hb⟩
 go_wp2_with fail
 go_ret2
 exact ⟨rfl, hb⟩
end Go.Proofs.Ytpeoabopeihadaa.Mn
