/- Rows of 260 bits: plus and minus. -/
import Derived.Test.YtmepmmhhiphfiaaBits
namespace Go.Proofs.Ytmepmmhhiphfiaa
open Go.RowKit
set_option linter.unusedSimpArgs false
def zb : Nat → Nat := fun _ => 0
theorem info82 : (Try.prog.info? 82).map (fun i => (i.zero, i.size)) = some (some (.agg (bv zb)), 260) := by kernel_rfl
theorem zero54 (w : World) : (zeroValue 82).run Try.prog w = .ok (.agg (bv zb)) w := (zero_of_info info82).1 w
theorem size54 (f : Nat → Nat) : (Try.prog.info? 82).map (·.size) = some (bv f).size := by rw [bv_size]; exact (zero_of_info info82).2
theorem load54 {w : World} {b : Nat} {f : Nat → Nat} (h : Row w b f) : (Instr.loadAt 82 (.pointer (some ⟨b, 0, none⟩))).run Try.prog w = .ok (.agg (bv f)) w := by
  simp only [Instr.loadAt, Instr.sureAddr, Sem.run_bind, Sem.run_pure, Result.andThen]
  exact run_loadVar_row w b 82 82 (bv f) (0, 0) _ h Try.underlying82 rfl (size54 f)
theorem store54 {w : World} {b : Nat} {f : Nat → Nat} (g : Nat → Nat) (h : Row w b f) : (Instr.storeAt 82 (.pointer (some ⟨b, 0, none⟩)) (.agg (bv g))).run Try.prog w = .ok () (w.setRow b (bv g)) := by
  simp only [Instr.storeAt, Instr.sureAddr, Sem.run_bind, Sem.run_pure, Result.andThen]
  exact run_storeVar_row w b 82 82 (bv f) (bv g) h (size54 g) (by rw [bv_size, bv_size]) (bv_all g)
theorem store54c {w : World} {b : Nat} {f : Nat → Nat} (g : Nat → Nat) (h : Row w b f) : (storeCells ⟨b, 0, none⟩ (bv g).toList).run Try.prog w = .ok () (w.setRow b (bv g)) := by
  have := run_storeVar_row (P := Try.prog) w b 82 82 (bv f) (bv g) h (size54 g) (by rw [bv_size, bv_size]) (bv_all g)
  have hi := size54 g
  cases hq : Try.prog.info? 82 with
  | none => simp [hq] at hi
  | some i =>
    have hs : (bv g).size = i.size := by simp [hq] at hi; omega
    simpa [storeVar, sizeOf, typeInfo, hq, Value.cells, hs] using this
theorem Row.put {w : World} {b : Nat} {f : Nat → Nat} (h : Row w b f) (g : Nat → Nat) : Row (w.setRow b (bv g)) b g := by
  unfold Row at *
  simp [World.setRow, Array.getElem?_modify, h]
theorem Row.putOther {w : World} {b c : Nat} {f : Nat → Nat} (h : Row w b f) (hc : c ≠ b) (g : Array Value) : Row (w.setRow c g) b f := by
  unfold Row at *
  simp [World.setRow, Array.getElem?_modify, h, hc]
theorem below_put {B b : Nat} {a w : World} (h : Below B a w) (hb : B ≤ b) (g : Array Value) : Below B a (w.setRow b g) :=
  h.trans ⟨rfl, rfl, rfl, by simp, fun k hk => by simp [World.setRow, Array.getElem?_modify, show ¬ b = k by omega]⟩
theorem results54 {fn : Func} {p : Tmp} (h : fn.results = #[.cell p 82]) (tmps : Array Value) {w : World} {b : Nat} {f : Nat → Nat} (hp : tmps.getD p undef = .pointer (some ⟨b, 0, none⟩)) (hr : Row w b f) :
    (results fn tmps).run Try.prog w = .ok (.agg (bv f)) w := results_cell_row h tmps w b 82 (bv f) (0, 0) _ hp hr Try.underlying82 rfl (size54 f)
theorem wp_load54 {o : Oper} {a : Act} {w : World} {K : Act → World → Prop} {Q : Exit → Act → World → Prop} {x : Operand} {b : Nat} {f : Nat → Nat} (hr : Row w b f) (ho : o.op = .load 82 x) (hx : a.eval x = .pointer (some ⟨b, 0, none⟩))
    (h : K (a.put o.dst (.agg (bv f))) w) : o.wp Try.prog a w K Q := wp_load_row 82 x ho b hx 82 (bv f) (0, 0) _ hr Try.underlying82 rfl (size54 f) h
theorem wp_store54 {o : Oper} {a : Act} {w : World} {K : Act → World → Prop} {Q : Exit → Act → World → Prop} {x y : Operand} {b : Nat} {f g : Nat → Nat} (hr : Row w b f) (ho : o.op = .store 82 x y) (hx : a.eval x = .pointer (some ⟨b, 0, none⟩)) (hy : a.eval y = .agg (bv g))
    (h : K (a.put o.dst undef) (w.setRow b (bv g))) : o.wp Try.prog a w K Q := by
  unfold Oper.wp execOp
  simp only [ho, hx, hy, store54 g hr, Sem.run_bind, Sem.run_pure, Result.andThen_ok]
  exact h
theorem val_upd (h : Nat → Nat) (k b : Nat) : val (upd h k b) (k + 1) = val h k + b * P2 k := by
  show val (upd h k b) k + upd h k b k * P2 k = _
  rw [val_congr (g := h) (fun i hi => by unfold upd; rw [if_neg (by omega)]), show upd h k b k = b by unfold upd; rw [if_pos rfl]]
theorem bit_upd {h : Nat → Nat} (hh : Bit h) {k b : Nat} (hb : b ≤ 1) : Bit (upd h k b) := by
  intro i
  unfold upd
  split
  · exact hb
  · exact hh i
theorem plus_step {f g h : Nat → Nat} {k c b d : Nat} (H : val h k + c * P2 k = val f k + val g k) (e : b + 2 * d = f k + g k + c) : val (upd h k b) (k + 1) + d * P2 (k + 1) = val f (k + 1) + val g (k + 1) := by
  rw [val_upd]
  show val h k + b * P2 k + d * P2 (k + 1) = val f k + f k * P2 k + (val g k + g k * P2 k)
  have e2 : (b + 2 * d) * P2 k = (f k + g k + c) * P2 k := by rw [e]
  rw [Nat.add_mul, Nat.add_mul, Nat.add_mul] at e2
  rw [P2_succ]
  have : d * (P2 k * 2) = 2 * d * P2 k := by rw [Nat.mul_comm (P2 k) 2, ← Nat.mul_assoc, Nat.mul_comm d 2]
  omega
def Plus (f g h : Nat → Nat) : Prop := Bit h ∧ ∃ c, c ≤ 1 ∧ val h 260 + c * P2 260 = val f 260 + val g 260
theorem rows2 (w : World) (f g : Nat → Nat) : Row ((w.alloc (.cells (bv f) 82)).alloc (.cells (bv g) 82)) w.heap.size f ∧ Row ((w.alloc (.cells (bv f) 82)).alloc (.cells (bv g) 82)) (w.heap.size + 1) g ∧ Below w.heap.size w ((w.alloc (.cells (bv f) 82)).alloc (.cells (bv g) 82)) := by
  refine ⟨(Row.new w f).alloc _, ?_, ((Below.refl _ _).alloc (Nat.le_refl _) _).alloc (by simp) _⟩
  have := Row.new (w.alloc (.cells (bv f) 82)) g
  simpa using this
theorem rows4 (w : World) (f g h i : Nat → Nat) : Row ((((w.alloc (.cells (bv f) 82)).alloc (.cells (bv g) 82)).alloc (.cells (bv h) 82)).alloc (.cells (bv i) 82)) w.heap.size f ∧
    Row ((((w.alloc (.cells (bv f) 82)).alloc (.cells (bv g) 82)).alloc (.cells (bv h) 82)).alloc (.cells (bv i) 82)) (w.heap.size + 1) g ∧
    Row ((((w.alloc (.cells (bv f) 82)).alloc (.cells (bv g) 82)).alloc (.cells (bv h) 82)).alloc (.cells (bv i) 82)) (w.heap.size + 1 + 1) h ∧
    Row ((((w.alloc (.cells (bv f) 82)).alloc (.cells (bv g) 82)).alloc (.cells (bv h) 82)).alloc (.cells (bv i) 82)) (w.heap.size + 1 + 1 + 1) i ∧
    Below w.heap.size w ((((w.alloc (.cells (bv f) 82)).alloc (.cells (bv g) 82)).alloc (.cells (bv h) 82)).alloc (.cells (bv i) 82)) := by
  obtain ⟨a, b, c⟩ := rows2 w f g
  have hs : ((w.alloc (.cells (bv f) 82)).alloc (.cells (bv g) 82)).heap.size = w.heap.size + 1 + 1 := by simp
  generalize ((w.alloc (.cells (bv f) 82)).alloc (.cells (bv g) 82)) = W at *
  obtain ⟨d, e, k⟩ := rows2 W h i
  rw [hs] at d e
  exact ⟨(a.alloc _).alloc _, (b.alloc _).alloc _, d, e, c.trans (k.mono (by omega))⟩
set_option maxRecDepth 20000 in
set_option maxHeartbeats 4000000 in
theorem plus_any (f g : Nat → Nat) (hf : Bit f) (hg : Bit g) (w : World) : Calls Try.prog 58 #[.agg (bv f), .agg (bv g)] w fun e w' => (∃ h, Plus f g h ∧ e = .returned (.agg (bv h))) ∧ Below w.heap.size w w' := by
  have Hf := hide hf
  have Hg := hide hg
  have hz := zero54
  clear hf hg
  go_enter Try.func58, Try.ntmps58
  go_wp2_with fail
  go_loopw [6, 7] (fun cr i wr => ∃ (k c : Nat) (h : Nat → Nat), k ≤ 260 ∧ i = .int .i64 k ∧ cr = .int .u8 c ∧ c ≤ 1 ∧ Hid (Bit h) ∧ Hid (val h k + c * P2 k = val f k + val g k) ∧ Hid (Row wr w.heap.size f) ∧ Hid (Row wr (w.heap.size + 1) g) ∧ Hid (∃ u, Row wr (w.heap.size + 1 + 1) u) ∧ Hid (Row wr (w.heap.size + 1 + 1 + 1) h) ∧ Hid (Below w.heap.size w wr)) (fun _ i _ => 260 - (intOf i).toNat)
  case atStart =>
    obtain ⟨a, b, c, d, e⟩ := rows4 w f g zb zb
    exact ⟨0, 0, zb, by omega, rfl, rfl, by omega, hide (fun _ => by simp [zb]), hide rfl, hide a, hide b, hide ⟨_, c⟩, hide d, hide e⟩
  case round =>
    obtain ⟨k, c, h, hk, rfl, rfl, hc, HH, HV, R1, R2, R3, R4, HB⟩ := hrel
    by_cases hlt : k < 260
    · have c1 := (unhide R1).cell (i := k) hlt
      have c2 := (unhide R2).cell (i := k) hlt
      have c4 := (unhide R4).cell (i := k) hlt
      have f4 := (unhide R4).frozen k
      have hfk := unhide Hf k
      have hgk := unhide Hg k
      have HS := hide (fun (b d : Nat) => plus_step (f := f) (g := g) (h := h) (k := k) (c := c) (b := b) (d := d) (unhide HV))
      generalize f k = x at *
      generalize g k = y at *
      generalize h k = z at *
      have hx : x = 0 ∨ x = 1 := by omega
      have hy : y = 0 ∨ y = 1 := by omega
      have hc' : c = 0 ∨ c = 1 := by omega
      clear hfk hgk HV hc
      rcases hx with rfl | rfl <;> rcases hy with rfl | rfl <;> rcases hc' with rfl | rfl
      · go_wp2_with fail
        go_region
        go_wp2_with fail
        go_roundw
        case rel => exact ⟨k + 1, 0, upd h k 0, by omega, by go_num, rfl, by omega, hide (bit_upd (unhide HH) (by omega)), hide (unhide HS 0 0 (by omega)), hide ((unhide R1).drew.other (by show w.heap.size ≠ w.heap.size + 1 + 1 + 1; omega) _), hide ((unhide R2).drew.other (by show w.heap.size + 1 ≠ w.heap.size + 1 + 1 + 1; omega) _), hide ((unhide R3).imp fun u r => r.drew.other (by show w.heap.size + 1 + 1 ≠ w.heap.size + 1 + 1 + 1; omega) _), hide ((unhide R4).drew.set k 0), hide ((below_drew (unhide HB)).setCell (by show w.heap.size ≤ w.heap.size + 1 + 1 + 1; omega) _)⟩
        case measure => simp [intOf]; omega
      · go_wp2_with fail
        go_region
        go_wp2_with fail
        go_roundw
        case rel => exact ⟨k + 1, 0, upd h k 1, by omega, by go_num, rfl, by omega, hide (bit_upd (unhide HH) (by omega)), hide (unhide HS 1 0 (by omega)), hide ((unhide R1).drew.other (by show w.heap.size ≠ w.heap.size + 1 + 1 + 1; omega) _), hide ((unhide R2).drew.other (by show w.heap.size + 1 ≠ w.heap.size + 1 + 1 + 1; omega) _), hide ((unhide R3).imp fun u r => r.drew.other (by show w.heap.size + 1 + 1 ≠ w.heap.size + 1 + 1 + 1; omega) _), hide ((unhide R4).drew.set k 1), hide ((below_drew (unhide HB)).setCell (by show w.heap.size ≤ w.heap.size + 1 + 1 + 1; omega) _)⟩
        case measure => simp [intOf]; omega
      · go_wp2_with fail
        go_region
        go_wp2_with fail
        go_roundw
        case rel => exact ⟨k + 1, 0, upd h k 1, by omega, by go_num, rfl, by omega, hide (bit_upd (unhide HH) (by omega)), hide (unhide HS 1 0 (by omega)), hide ((unhide R1).drew.other (by show w.heap.size ≠ w.heap.size + 1 + 1 + 1; omega) _), hide ((unhide R2).drew.other (by show w.heap.size + 1 ≠ w.heap.size + 1 + 1 + 1; omega) _), hide ((unhide R3).imp fun u r => r.drew.other (by show w.heap.size + 1 + 1 ≠ w.heap.size + 1 + 1 + 1; omega) _), hide ((unhide R4).drew.set k 1), hide ((below_drew (unhide HB)).setCell (by show w.heap.size ≤ w.heap.size + 1 + 1 + 1; omega) _)⟩
        case measure => simp [intOf]; omega
      · go_wp2_with fail
        go_region
        go_wp2_with fail
        go_roundw
        case rel => exact ⟨k + 1, 1, upd h k 0, by omega, by go_num, rfl, by omega, hide (bit_upd (unhide HH) (by omega)), hide (unhide HS 0 1 (by omega)), hide ((unhide R1).drew.other (by show w.heap.size ≠ w.heap.size + 1 + 1 + 1; omega) _), hide ((unhide R2).drew.other (by show w.heap.size + 1 ≠ w.heap.size + 1 + 1 + 1; omega) _), hide ((unhide R3).imp fun u r => r.drew.other (by show w.heap.size + 1 + 1 ≠ w.heap.size + 1 + 1 + 1; omega) _), hide ((unhide R4).drew.set k 0), hide ((below_drew (unhide HB)).setCell (by show w.heap.size ≤ w.heap.size + 1 + 1 + 1; omega) _)⟩
        case measure => simp [intOf]; omega
      · go_wp2_with fail
        go_region
        go_wp2_with fail
        go_roundw
        case rel => exact ⟨k + 1, 0, upd h k 1, by omega, by go_num, rfl, by omega, hide (bit_upd (unhide HH) (by omega)), hide (unhide HS 1 0 (by omega)), hide ((unhide R1).drew.other (by show w.heap.size ≠ w.heap.size + 1 + 1 + 1; omega) _), hide ((unhide R2).drew.other (by show w.heap.size + 1 ≠ w.heap.size + 1 + 1 + 1; omega) _), hide ((unhide R3).imp fun u r => r.drew.other (by show w.heap.size + 1 + 1 ≠ w.heap.size + 1 + 1 + 1; omega) _), hide ((unhide R4).drew.set k 1), hide ((below_drew (unhide HB)).setCell (by show w.heap.size ≤ w.heap.size + 1 + 1 + 1; omega) _)⟩
        case measure => simp [intOf]; omega
      · go_wp2_with fail
        go_region
        go_wp2_with fail
        go_roundw
        case rel => exact ⟨k + 1, 1, upd h k 0, by omega, by go_num, rfl, by omega, hide (bit_upd (unhide HH) (by omega)), hide (unhide HS 0 1 (by omega)), hide ((unhide R1).drew.other (by show w.heap.size ≠ w.heap.size + 1 + 1 + 1; omega) _), hide ((unhide R2).drew.other (by show w.heap.size + 1 ≠ w.heap.size + 1 + 1 + 1; omega) _), hide ((unhide R3).imp fun u r => r.drew.other (by show w.heap.size + 1 + 1 ≠ w.heap.size + 1 + 1 + 1; omega) _), hide ((unhide R4).drew.set k 0), hide ((below_drew (unhide HB)).setCell (by show w.heap.size ≤ w.heap.size + 1 + 1 + 1; omega) _)⟩
        case measure => simp [intOf]; omega
      · go_wp2_with fail
        go_region
        go_wp2_with fail
        go_roundw
        case rel => exact ⟨k + 1, 1, upd h k 0, by omega, by go_num, rfl, by omega, hide (bit_upd (unhide HH) (by omega)), hide (unhide HS 0 1 (by omega)), hide ((unhide R1).drew.other (by show w.heap.size ≠ w.heap.size + 1 + 1 + 1; omega) _), hide ((unhide R2).drew.other (by show w.heap.size + 1 ≠ w.heap.size + 1 + 1 + 1; omega) _), hide ((unhide R3).imp fun u r => r.drew.other (by show w.heap.size + 1 + 1 ≠ w.heap.size + 1 + 1 + 1; omega) _), hide ((unhide R4).drew.set k 0), hide ((below_drew (unhide HB)).setCell (by show w.heap.size ≤ w.heap.size + 1 + 1 + 1; omega) _)⟩
        case measure => simp [intOf]; omega
      · go_wp2_with fail
        go_region
        go_wp2_with fail
        go_roundw
        case rel => exact ⟨k + 1, 1, upd h k 1, by omega, by go_num, rfl, by omega, hide (bit_upd (unhide HH) (by omega)), hide (unhide HS 1 1 (by omega)), hide ((unhide R1).drew.other (by show w.heap.size ≠ w.heap.size + 1 + 1 + 1; omega) _), hide ((unhide R2).drew.other (by show w.heap.size + 1 ≠ w.heap.size + 1 + 1 + 1; omega) _), hide ((unhide R3).imp fun u r => r.drew.other (by show w.heap.size + 1 + 1 ≠ w.heap.size + 1 + 1 + 1; omega) _), hide ((unhide R4).drew.set k 1), hide ((below_drew (unhide HB)).setCell (by show w.heap.size ≤ w.heap.size + 1 + 1 + 1; omega) _)⟩
        case measure => simp [intOf]; omega
    · obtain rfl : k = 260 := by omega
      obtain ⟨u, R3'⟩ := unhide R3
      replace R3' := hide R3'
      have HP := hide (show Plus f g h from ⟨unhide HH, c, hc, unhide HV⟩)
      clear HV R3
      have hst := store54c h (unhide R3')
      have Rr := hide ((unhide R3').put h)
      have HB2 := hide (below_put (unhide HB) (b := w.heap.size + 1 + 1) (by omega) (bv h))
      go_wp2_with fail
      refine wp_load54 (unhide R4) rfl rfl ?_
      go_wp2_with fail
      refine bodyPost_ret (v := .agg (bv h)) (results54 rfl _ rfl (unhide Rr)) rfl ⟨⟨h, unhide HP, rfl⟩, unhide HB2⟩
end Go.Proofs.Ytmepmmhhiphfiaa
