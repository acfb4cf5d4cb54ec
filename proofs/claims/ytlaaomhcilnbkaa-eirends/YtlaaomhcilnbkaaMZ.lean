/- Rows of numbers appended to rows, and zeros appended to them. -/
import Derived.Test.YtlaaomhcilnbkaaQJ
import Derived.Laws.IdiomCopy
import Derived.Deep.RegionLaw
set_option linter.unusedVariables false
set_option linter.unusedSimpArgs false
set_option linter.unusedSectionVars false
namespace Go.Proofs.Ytlaaomhcilnbkaa.Mn
open Go.RowKit
attribute [local simp] Tri.typeInfo Tri.sizeOf Tri.underlying Tri.runUnderlying Tri.isAgg Tri.zeroValue Tri.depth Tri.stoodInHeld Tri.eqGuardType Tri.call16 Tri.call3 Tri.call4 Tri.call5 Tri.call6 Tri.call7 Tri.call8 Tri.call9 Tri.call10 Tri.call11 Tri.call12 Tri.call13 Tri.call14 Tri.call15 Tri.call17 Tri.call18 Tri.call19 Tri.call20 Tri.call21 Tri.call22 Tri.call23 Tri.call24 Tri.call25 Tri.call26 Tri.call27 Tri.call28 Tri.call29 Tri.call30 Tri.call31 Tri.call32 Tri.call33 Tri.call34 Tri.call35 Tri.call36 Tri.call37 Tri.call38 Tri.call39 Tri.call40 Tri.call41 Tri.call42 Tri.call43 Tri.call44 Tri.call45 Tri.call46 Tri.call47 Tri.call48 Tri.call49 Tri.call50 Tri.call51 Tri.call52 Tri.call53 Tri.call54 Tri.call55 Tri.call56 Tri.call57 Tri.call58 Tri.call59 Tri.call60 Tri.call61 Tri.call62 Tri.call63 Tri.call64 Tri.call65 Tri.call66 Tri.call67 Tri.call68 Tri.call69 Tri.call70 Tri.call71 Tri.call72 Tri.call73 Tri.call74 Tri.call75 Tri.call76 Tri.call77 Tri.call78 Tri.call79 Tri.call80 Tri.call81 Tri.call82 Tri.call83 Tri.call84 Tri.call85 Tri.call86 Tri.call87 Tri.call88 Tri.call89 Tri.call90 Tri.call91 Tri.call92 Tri.call93 Tri.call94 Tri.call95 Tri.call96 Tri.call97 Tri.call98 Tri.call99 Tri.call100 Tri.call101 Tri.call102 Tri.call103 Tri.call104 Tri.call105 Tri.call106 Tri.call107 Tri.call108 Tri.call109 Tri.call110 Tri.call111 Tri.call112 Tri.call113 Tri.call114 Tri.call115 Tri.call116 Tri.call117 Tri.call118 Tri.call119 Tri.call120 Tri.call121 Tri.call122 Tri.call123 Tri.call124 Tri.call125 Tri.call126 Tri.call127 Tri.call128 Tri.call129 Tri.call130 Tri.call131 Tri.call132 Tri.call133 Tri.call134 Tri.call135 Tri.call136 Tri.call137 Tri.call138 Tri.call139 Tri.call140 Tri.call141 Tri.call142 Tri.call143 Tri.call144 Tri.call145 Tri.call146 Tri.call147 Tri.call148 Tri.call149 Tri.call150 Tri.call151 Tri.call152 Tri.call153 Tri.call154 Tri.call155 Tri.call157 Tri.call158 Tri.call159 Tri.call160 Tri.call161 Tri.call162 Tri.call163 Tri.call165 Tri.call166 Tri.call167 Tri.call183 Tri.call184
theorem row_len {w : World} {a : Option Addr} {n c : Nat} {zs : List Int} (h : Row w (.slice a n c) zs) : n = zs.length := by
  obtain ⟨a', c', e⟩ := row_slice h
  cases e
  rfl
theorem row_cell {w : World} {b off n c : Nat} {zs : List Int} (h : Row w (.slice (some ⟨b, off, none⟩) n c) zs) {j : Nat} (hj : j < zs.length) : w.cell? ⟨b, off + j, none⟩ = some (.int .i64 (zs.getD j 0)) := by
  rcases h with ⟨a, cap, h1, h2⟩ | ⟨b', off', cap, h1, _, _, hc, _⟩
  · rw [h2] at hj; exact absurd hj (Nat.not_lt_zero j)
  · cases h1
    exact hc j hj
theorem row_in {w : World} {v : Value} {zs : List Int} (h : Row w v zs) : ∀ z ∈ zs, In64 z := by
  rcases h with ⟨a, cap, _, h2⟩ | ⟨b', off', cap, h1, _, _, _, h⟩
  · rw [h2]; intro z hz; cases hz
  · exact h
theorem row_open' {w : World} {v : Value} {zs : List Int} (h : Row w v zs) (h0 : 0 < zs.length) : ∃ b off cap, v = .slice (some ⟨b, off, none⟩) zs.length cap := by
  rcases h with ⟨a, cap, _, h2⟩ | ⟨b', off', cap, h1, _⟩
  · rw [h2] at h0; exact absurd h0 (Nat.not_lt_zero 0)
  · exact ⟨_, _, _, h1⟩
theorem row_drop {w : World} {b off n c K : Nat} {zs : List Int} (h : Row w (.slice (some ⟨b, off, none⟩) n c) zs) (hK : K ≤ n) : Row w (.slice (some ⟨b, off + K, none⟩) (n - K) (c - K)) (zs.drop K) := by
  have hl := row_len h
  have hin := row_in h
  rcases h with ⟨a, cap, h1, h2⟩ | ⟨b', off', cap, h1, h2, hm, hc, _⟩
  · subst h2
    have e : n = 0 := hl
    subst e
    obtain rfl : K = 0 := by omega
    exact Or.inl ⟨_, _, rfl, rfl⟩
  · cases h1
    by_cases e : zs.length - K = 0
    · rw [e]
      exact Or.inl ⟨_, _, rfl, List.drop_eq_nil_of_le (by omega)⟩
    · refine Or.inr ⟨b, off + K, c - K, by rw [List.length_drop], by rw [List.length_drop]; omega, by rw [List.length_drop]; omega, fun j hj => ?_, fun z hz => hin z (List.mem_of_mem_drop hz)⟩
      rw [List.length_drop] at hj
      rw [Nat.add_assoc, hc (K + j) (by omega)]
      congr 2
      simp [List.getD, List.getElem?_drop]
theorem row_drop_if {w : World} {b off n c K : Nat} {zs : List Int} (h : Row w (.slice (some ⟨b, off, none⟩) n c) zs) (hK : K ≤ n) (hc : n ≤ c) : Row w (.slice (if c = K then some ⟨b, off, none⟩ else some ⟨b, off + K, none⟩) (n - K) (c - K)) (zs.drop K) := by
  split
  · have e : n - K = 0 := by omega
    have := row_len h
    rw [e]
    exact Or.inl ⟨_, _, rfl, List.drop_eq_nil_of_le (by omega)⟩
  · exact row_drop h hK
theorem row_end {w : World} (v : Option Addr) (c : Nat) {zs : List Int} {K : Nat} (h : zs.length ≤ K) : Row w (.slice v 0 c) (zs.drop K) := Or.inl ⟨_, _, rfl, List.drop_eq_nil_of_le h⟩
/-- The value x, in the world W, is a slice whose elements are the numbers ys. -/
def From (W : World) (x : Value) (ys : List Int) : Prop :=
  (x = .slice none 0 0 ∧ ys = []) ∨ ∃ ad c, x = .slice (some ad) ys.length c ∧ ∀ j, j < ys.length → W.cell? (ad.add j) = some (.int .i64 (ys.getD j 0))
theorem wp_from {o : Oper} {a : Act} {K : Act → World → Prop} {Q : Exit → Act → World → Prop} (s x : Operand)
    (ho : o.op = .call { callee := .builtin .append, args := #[s, x], argTypes := #[22, 22] })
    (w W : World) (v u : Value) (zs ys : List Int) (hG : Grow 2 w W v zs) (hF : From W u ys) (hs : a.eval s = v) (hx : a.eval x = u)
    (hlen : zs.length + ys.length ≤ 1000000) (hy : ∀ y ∈ ys, In64 y)
    (h : ∀ v' W', Grow 2 w W' v' (zs ++ ys) → K (a.put o.dst v') W') : o.wp (Tri Try.prog) a W K Q := by
  obtain ⟨i0, hi, hz0, hz1, hz2⟩ := info_parts info2
  have hsize := hG.below.size
  rcases hF with ⟨rfl, rfl⟩ | ⟨ad, c, rfl, hc⟩
  · have hrun := run_append_owned_none (P := (Tri Try.prog)) W w.heap.size 22 o.type 2 i0 1 (Tri.und Try.underlying22) hi v zs.length _ hG.owns
    unfold Oper.wp
    simp [execOp, ho, resolve, invoke, builtin, hs, hx, hrun, Result.andThen]
    have := h v W (by simpa using hG)
    exact this
  · refine wp_append_own W s x 22 ho w.heap.size 2 i0 (.int .i64 0) 1 8 (Tri.und Try.underlying22) hi hz0 hz1 hz2 rfl (by decide) v zs.length _ hs hG.owns ad ys.length c (ys.map (Value.int .i64)) hx (by simp) ?_ (ints_oneCell _ _) (by unfold maxLen; omega) (by omega) hsize ?_
    · intro j y hj
      have hjl : j < ys.length := by
        have := (List.getElem?_eq_some_iff.1 hj).1
        simpa using this
      rw [hc j hjl]
      rw [List.getElem?_map] at hj
      simpa [List.getD, hjl] using hj
    · intro v' W' hown hgrow _
      refine h v' W' ⟨?_, ?_, ?_⟩
      · exact hG.below.grown hgrow hsize (fun k hk => (hG.owns.lt k hk).1)
      · simpa using hown
      · intro y hy'
        rcases List.mem_append.1 hy' with h1 | h1
        · exact hG.small y h1
        · exact hy y h1
theorem list_from {ops : Array Oper} {rest : List Oper} {o : Oper} {a : Act} {Q : Exit → Act → World → Prop} (hgd : o.guard = none) (s x : Operand)
    (ho : o.op = .call { callee := .builtin .append, args := #[s, x], argTypes := #[22, 22] })
    (w W : World) (v u : Value) (zs ys : List Int) (hG : Grow 2 w W v zs) (hF : From W u ys) (hs : a.eval s = v) (hx : a.eval x = u)
    (hlen : zs.length + ys.length ≤ 1000000) (hy : ∀ y ∈ ys, In64 y)
    (h : ∀ v' W', Grow 2 w W' v' (zs ++ ys) → wpList (Tri Try.prog) ops Q rest (a.put o.dst v') W') : wpList (Tri Try.prog) ops Q (o :: rest) a W :=
  wpList_plain hgd fun _ hK => wp_from s x ho w W v u zs ys hG hF hs hx hlen hy fun v' W' h2 => hK _ _ (h v' W' h2)
/-- The empty slice that is written out. -/
theorem Grow.empty (w W : World) (h : Below w.heap.size w W) : Grow 2 w (W.alloc (.cells #[] 2)) (.slice (some ⟨W.heap.size, 0, none⟩) 0 0) [] :=
  ⟨h.alloc h.size _, W.ownsRow_lit #[] 0 h.size (by decide) rfl, fun z hz => (by cases hz)⟩
theorem From.later {W W' : World} {x : Value} {ys : List Int} (h : From W x ys) (hc : ∀ a y, W.cell? a = some y → W'.cell? a = some y) : From W' x ys := by
  rcases h with h | ⟨ad, c, h1, h2⟩
  · exact Or.inl h
  · exact Or.inr ⟨ad, c, h1, fun j hj => hc _ _ (h2 j hj)⟩
theorem from_row {W : World} {a : Option Addr} {n c : Nat} {zs : List Int} (h : Row W (.slice a n c) zs) (hn : a = none → c = 0) : From W (.slice a n c) zs := by
  have hl := row_len h
  rcases h with ⟨a', c', e, rfl⟩ | ⟨b, off, c', e, _, _, hc, _⟩
  · injection e with e1 e2 e3
    subst e1 e2 e3
    cases a with
    | none =>
      rw [hn rfl]
      exact Or.inl ⟨rfl, rfl⟩
    | some x => exact Or.inr ⟨x, c, rfl, fun j hj => absurd hj (Nat.not_lt_zero j)⟩
  · injection e with e1 e2 e3
    subst e1 e2 e3
    refine Or.inr ⟨_, _, rfl, fun j hj => ?_⟩
    rw [← hc j hj, Addr.add_lit]
theorem wrap_small (n : Nat) (h : n ≤ 255) : IntKind.i64.wrap (n : Int) = (n : Int) := by rw [IntKind.wrap_i64]; omega
/-- n zeros, as cells. -/
def zs0 (n : Nat) : List Value := (List.replicate n (0 : Int)).map (Value.int .i64)
theorem zeros_cells (n : Nat) : Builtin.zeroCells #[Value.int .i64 0] n = (zs0 n).toArray := by
  apply Array.ext'
  simp [Builtin.zeroCells, zs0]
  apply List.ext_getElem (by simp)
  intro i h1 h2
  simp [Nat.mod_one]
theorem run_zeros_nil (ty : TypeId) (n : Nat) (h0 : 0 < n) (h : n ≤ 255) (w : World) : (Builtin.append_ #[22, 5] ty #[.slice none 0 0, .int .u8 (n : Int)]).run (Tri Try.prog) w =
    .ok (.slice (some ⟨w.heap.size, 0, none⟩) n (grownCap w n 0 2)) (w.drew.alloc (.cells (Builtin.zeroCells #[.int .i64 0] n ++ Builtin.zeroCells #[.int .i64 0] (grownCap w n 0 2 - n)) 2)) := by
  obtain ⟨i, hi, hz, hs, hb⟩ := info_parts info2
  have hw := wrap_small n h
  have h1 : ¬ (n : Int) < 0 := by omega
  have h2 : ¬ (281474976710656 : Int) < (n : Int) * 8 := by omega
  have h3 : n ≠ 0 := by omega
  have h4 : ¬ (9223372036854775807 < (n : Int)) := by omega
  have h5 : ¬ (281474976710656 < Builtin.nextslicecap n 0 * 8) := by rw [nextslicecap_zero h0]; omega
  simp [Builtin.append_, run_underlying (Tri.und Try.underlying22), run_underlying (Tri.und Try.underlying5), sizeOf, typeInfo, zeroValue, hi, hz, hs, hb, asInt, asIntOf, hw, h1, h2, h3, h4, h5, Question.forced, run_firstCells_none, newRow, grownCap, Value.cells]
theorem run_zeros_none (ty : TypeId) (len cap : Nat) (a : Option Addr) (hl : len ≤ cap) (w : World) : (Builtin.append_ #[22, 5] ty #[.slice a len cap, .int .u8 0]).run (Tri Try.prog) w = .ok (.slice a len cap) w := by
  obtain ⟨i, hi, hz, hs, hb⟩ := info_parts info2
  have hw : IntKind.i64.wrap 0 = 0 := rfl
  cases a with
  | none => simp [Builtin.append_, run_underlying (Tri.und Try.underlying22), run_underlying (Tri.und Try.underlying5), sizeOf, typeInfo, zeroValue, hi, hz, hs, hb, asInt, asIntOf, hw, hl]
  | some x => simp [Builtin.append_, run_underlying (Tri.und Try.underlying22), run_underlying (Tri.und Try.underlying5), sizeOf, typeInfo, zeroValue, hi, hz, hs, hb, asInt, asIntOf, hw, hl, storeCells]
theorem run_zeros_room (ty : TypeId) (n : Nat) (h0 : 0 < n) (h : n ≤ 255) (g len cap : Nat) (cur : Array Value) (w : World) (hg : w.heap[g]? = some (.cells cur 2 (0, 0))) (hroom : len + n ≤ cap) (hfit : len + n ≤ cur.size) :
    (Builtin.append_ #[22, 5] ty #[.slice (some ⟨g, 0, none⟩) len cap, .int .u8 (n : Int)]).run (Tri Try.prog) w =
      .ok (.slice (some ⟨g, 0, none⟩) (len + n) cap) (w.setRow g (cur.toList.take len ++ zs0 n ++ cur.toList.drop (len + n)).toArray) := by
  obtain ⟨i, hi, hz, hs, hb⟩ := info_parts info2
  have hw := wrap_small n h
  have h1 : ¬ (n : Int) < 0 := by omega
  have h2 : ¬ (281474976710656 : Int) < (n : Int) * 8 := by omega
  have h3 : n ≠ 0 := by omega
  have hn : (zs0 n).length = n := by simp [zs0]
  have hst := run_storeCells_at (Tri Try.prog) g len 2 (zs0 n) 0 cur w hg (by simpa [hn] using hfit) (by intro u hu; simp [zs0] at hu; rw [hu.2]; rfl)
  simp only [Nat.add_zero, hn] at hst
  have hz' := zeros_cells n
  simp [Builtin.append_, run_underlying (Tri.und Try.underlying22), run_underlying (Tri.und Try.underlying5), sizeOf, typeInfo, zeroValue, hi, hz, hs, hb, asInt, asIntOf, hw, h1, h2, h3, hroom, Value.cells, hz', Addr.add_lit, hst]
set_option maxRecDepth 100000 in
theorem run_zeros_grow (ty : TypeId) (n : Nat) (h0 : 0 < n) (h : n ≤ 255) (b : Addr) (len cap : Nat) (olds : List Value) (w : World) (hlo : olds.length = len) (holds : ∀ j v, olds[j]? = some v → w.cell? (b.add j) = some v) (hg : cap < len + n) (h6 : len ≤ 1000000) :
    (Builtin.append_ #[22, 5] ty #[.slice (some b) len cap, .int .u8 (n : Int)]).run (Tri Try.prog) w =
      .ok (.slice (some ⟨w.heap.size, 0, none⟩) (len + n) (grownCap w (len + n) cap 2)) (w.drew.alloc (.cells (olds.toArray ++ (zs0 n).toArray ++ Builtin.zeroCells #[.int .i64 0] (grownCap w (len + n) cap 2 - (len + n))) 2)) := by
  obtain ⟨i, hi, hz, hs, hb⟩ := info_parts info2
  have hw := wrap_small n h
  have h1 : ¬ (n : Int) < 0 := by omega
  have h2 : ¬ (281474976710656 : Int) < (n : Int) * 8 := by omega
  have h3 : n ≠ 0 := by omega
  have h4 : ¬ (9223372036854775807 < ((len : Int) + (n : Int))) := by omega
  have h5 : ¬ (281474976710656 < Builtin.nextslicecap (len + n) cap * 8) := by have := growslice_fits (bytes := 8) hg (by omega); omega
  have h7 : ¬ (len + n ≤ cap) := by omega
  have hfo := run_firstCells_some (P := (Tri Try.prog)) w.drew 1 len b len cap olds (by simpa using hlo) (by simpa using holds)
  have hz' := zeros_cells n
  simp [Builtin.append_, run_underlying (Tri.und Try.underlying22), run_underlying (Tri.und Try.underlying5), sizeOf, typeInfo, zeroValue, hi, hz, hs, hb, asInt, asIntOf, hw, h1, h2, h3, h4, h5, h7, Question.forced, hfo, newRow, grownCap, Value.cells, hz']
  congr 2
  apply Array.ext'
  simp [List.append_assoc]
theorem grow_new {w W : World} {zs : List Int} (hB : Below w.heap.size w W) (n old : Nat) (hm : zs.length + n ≤ 1000255) (hin2 : ∀ z ∈ zs ++ List.replicate n 0, In64 z) :
    Grow 2 w (W.drew.alloc (.cells ((zs.map (Value.int .i64)).toArray ++ (zs0 n).toArray ++ Builtin.zeroCells #[.int .i64 0] (grownCap W (zs.length + n) old 2 - (zs.length + n))) 2)) (.slice (some ⟨W.heap.size, 0, none⟩) (zs.length + n) (grownCap W (zs.length + n) old 2)) (zs ++ List.replicate n 0) := by
  have hsize := hB.size
  have hge := grownCap_ge W (zs.length + n) old 2
  have hcm := grownCap_le_maxLen W (zs.length + n) old 2 (by unfold maxLen; omega)
  have hlen : (zs ++ List.replicate n (0 : Int)).length = zs.length + n := by simp
  refine ⟨(below_drew hB).alloc hsize _, ⟨by simp, .inr ⟨W.heap.size, _, _, by rw [hlen], hsize, heap_alloc_new W.drew _, by rw [hlen]; exact hge, hcm, ?_, ?_⟩⟩, hin2⟩
  · simp only [Array.size_append, List.size_toArray, size_zeroCells, zs0, List.length_map, List.length_replicate, Nat.mul_one, List.size_toArray, List.length_cons, List.length_nil]
    omega
  · simp only [Array.toList_append, zs0, Nat.mul_one, hlen]
    rw [List.take_left' (by simp)]
    simp
theorem run_zeros_own (ty : TypeId) {w W : World} {v : Value} {zs : List Int} (n : Nat) (h : n ≤ 255) (hG : Grow 2 w W v zs) (hlen : zs.length ≤ 1000000) :
    ∃ v' W', (Builtin.append_ #[22, 5] ty #[v, .int .u8 (n : Int)]).run (Tri Try.prog) W = .ok v' W' ∧ Grow 2 w W' v' (zs ++ List.replicate n 0) := by
  have hsize := hG.below.size
  have hin : ∀ z ∈ zs ++ List.replicate n (0 : Int), In64 z := fun z hz => by
    rcases List.mem_append.1 hz with hz | hz
    · exact hG.small z hz
    · rw [(List.mem_replicate.1 hz).2]; exact ⟨by omega, by omega⟩
  by_cases h0 : n = 0
  · subst h0
    simp only [List.replicate_zero, List.append_nil]
    rcases hG.owns.2 with ⟨hv, hz⟩ | ⟨g, cap, cur, hv, _, _, hc, _⟩
    · exact ⟨v, W, by rw [hv]; exact run_zeros_none ty 0 0 none (Nat.le_refl _) W, hG⟩
    · exact ⟨v, W, by rw [hv]; exact run_zeros_none ty _ cap _ hc W, hG⟩
  · have hp : 0 < n := by omega
    rcases hG.owns.2 with ⟨hv, hz⟩ | ⟨g, cap, cur, hv, hbg, hg, hnc, hcm, hcs, htake⟩
    · obtain rfl : zs = [] := List.eq_nil_of_length_eq_zero hz
      subst hv
      have hg := grow_new hG.below n 0 (by simp; omega) hin
      have hr := run_zeros_nil ty n hp h W
      rw [zeros_cells] at hr
      simp only [List.length_nil, Nat.zero_add, List.map_nil, Array.empty_append] at hg
      exact ⟨_, _, hr, hg⟩
    · subst hv
      by_cases hroom : zs.length + n ≤ cap
      · have hr := run_zeros_room ty n hp h g zs.length cap cur W hg hroom (by omega)
        refine ⟨_, _, hr, ⟨hG.below.grown (row := some g) ⟨rfl, rfl, rfl, by simp, fun k _ hk => setRow_other W g k _ (fun e => hk (by rw [e]))⟩ hsize (fun k hk => by cases hk; exact hbg), ⟨by simp, .inr ⟨g, cap, _, by simp, hbg, setRow_heap W g cur _ 2 _ hg, by simpa using hroom, hcm, ?_, ?_⟩⟩, hin⟩⟩
        · simp only [List.size_toArray, List.length_append, List.length_take, List.length_drop, Array.length_toList, zs0, List.length_map, List.length_replicate]
          omega
        · simp only [Nat.mul_one] at htake
          simp only [List.length_append, List.length_replicate, Nat.mul_one, htake]
          rw [List.take_left' (by simp [zs0])]
          simp [zs0]
      · have holds := hG.owns.cells (g := g) rfl
        have hr := run_zeros_grow ty n hp h ⟨g, 0, none⟩ zs.length cap (zs.map (Value.int .i64)) W (by simp) holds (by omega) hlen
        exact ⟨_, _, hr, grow_new hG.below n cap (by omega) hin⟩
theorem list_zeros {ops : Array Oper} {rest : List Oper} {o : Oper} {a : Act} {Q : Exit → Act → World → Prop} (hgd : o.guard = none) (s x : Operand)
    (ho : o.op = .call { callee := .builtin .append, args := #[s, x], argTypes := #[22, 5] })
    (w W : World) (v : Value) (zs : List Int) (n : Nat) (hG : Grow 2 w W v zs) (hs : a.eval s = v) (hx : a.eval x = .int .u8 (n : Int)) (hn : n ≤ 255) (hlen : zs.length ≤ 1000000)
    (h : ∀ v' W', Grow 2 w W' v' (zs ++ List.replicate n 0) → wpList (Tri Try.prog) ops Q rest (a.put o.dst v') W') : wpList (Tri Try.prog) ops Q (o :: rest) a W :=
  wpList_plain hgd fun K hK => by
    obtain ⟨v', W', hr, h2⟩ := run_zeros_own o.type n hn hG hlen
    unfold Oper.wp execOp
    simp only [ho, resolve, invoke, builtin, Sem.run_bind, Sem.run_pure, Result.andThen_ok, List.map_toArray, List.map_cons, List.map_nil, hs, hx, hr]
    exact hK _ _ (h v' W' h2)
/-- What make lays is a row of zeros. -/
theorem grow_made {w W : World} (hB : Below w.heap.size w W) (n : Nat) (hn : n ≤ 1000) : Grow 2 w (W.alloc (.cells (madeCells #[.int .i64 0] n) 2)) (.slice (some ⟨W.heap.size, 0, none⟩) n n) (List.replicate n 0) := by
  have hsize := hB.size
  refine ⟨hB.alloc hsize _, ⟨by simp, .inr ⟨W.heap.size, n, _, by simp, hsize, heap_alloc_new W _, by simp, by unfold maxLen; omega, by rw [size_madeCells]; omega, ?_⟩⟩, fun z hz => by rw [(List.mem_replicate.1 hz).2]; exact ⟨by omega, by omega⟩⟩
  simp only [List.length_replicate, Nat.mul_one]
  rw [List.take_of_length_le (by simp [madeCells])]
  apply List.ext_getElem (by simp [madeCells])
  intro i h1 h2
  simp [madeCells, Nat.mod_one]
theorem make_u8 (n : Nat) (h : n ≤ 255) (w : World) : (Instr.makeSlice 22 (.int .u8 (n : Int)) (.int .u8 (n : Int))).run (Tri Try.prog) w = .ok (.slice (some ⟨w.heap.size, 0, none⟩) n n) (w.alloc (.cells (madeCells #[.int .i64 0] n) 2)) :=
  run_make_row' (P := (Tri Try.prog)) 22 2 (.int .i64 0) 8 (Tri.und Try.underlying22) info2 rfl .u8 .u8 n (by omega) (by omega) w
end Go.Proofs.Ytlaaomhcilnbkaa.Mn
