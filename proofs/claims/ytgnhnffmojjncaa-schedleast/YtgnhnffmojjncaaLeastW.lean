/- The law SchedLeast's own trial of an amount. -/
import Derived.Test.YtgnhnffmojjncaaSAlive
namespace Go.Proofs.Ytgnhnffmojjncaa.Mn
open Go.RowKit
set_option linter.unusedSimpArgs false
theorem ask19' {x r : Int} (h0 : 0 ≤ x) (h1 : x ≤ 1125899906842624) (r0 : 0 ≤ r) (r1 : r ≤ 1000000000000) : Ans 19 x r (qI x r) 0 := by
  have h := qI_bd h0 r0 r1
  exact in_ok (interest_ok ⟨by omega, by omega⟩ ⟨by omega, by omega⟩) ⟨by omega, by omega⟩
set_option maxHeartbeats 1000000 in
theorem off_any (x r a : Int) (k : Nat) (x0 : 0 < x) (x1 : x ≤ 10000000000000) (r0 : 0 ≤ r) (r1 : r ≤ 1000000000000) (k1 : k ≤ 600) (a0 : 0 ≤ a) (a1 : a ≤ 20000000000000) (b0 b1 b2 : Nat) (w : World) (H : Box3 w b0 b1 b2 x r k) :
    Calls Try.prog 20 #[.int .i64 a, .pointer (some ⟨b0, 0, none⟩), .pointer (some ⟨b2, 0, none⟩), .pointer (some ⟨b1, 0, none⟩)] w fun e w' => e = .returned (.bool (payR r a k x)) ∧ Below w.heap.size w w' := by
  have HI : Hid (∀ y, 0 ≤ y → y ≤ 1125899906842624 → Ans 19 y r (qI y r) 0) := hide (fun y h0 h1 => ask19' h0 h1 r0 r1)
  obtain ⟨P, hP⟩ : ∃ P, payR r a k x = P := ⟨_, rfl⟩
  rw [hP]
  have HP := hide hP
  have c0 := H.c0
  have c2 := H.c2
  replace H := hide H
  clear hP
  go_enter Try.func20, Try.ntmps20
  go_wp2_with fail
  go_loopw [6, 11] (fun l i wr => ∃ (j : Nat) (y : Int), j ≤ k ∧ i = .int .i64 j ∧ l = .int .i64 y ∧ 0 < y ∧ y ≤ 1125899906842624 ∧ Hid (payR r a (k - j) y = P) ∧ Hid (Box3 wr b0 b1 b2 x r k) ∧ Hid (Below w.heap.size w wr)) (fun _ i _ => k - (intOf i).toNat)
  case atStart => exact ⟨0, x, by omega, rfl, rfl, x0, by omega, HP, H, hide (Below.refl _ _)⟩
  case round =>
    clear HP H c0 c2
    obtain ⟨j, y, hj, rfl, rfl, hy0, hy1, HP, H, HB⟩ := hrel
    by_cases hlt : j < k
    · have hq := hide (unhide HI y (by omega) hy1)
      obtain ⟨q0, q1⟩ := qI_bd (x := y) (by omega) r0 r1
      obtain ⟨m, hm⟩ : ∃ m, k - j = m + 1 := ⟨k - j - 1, by omega⟩
      rw [hm] at HP
      have H1 : Hid (y + (qI y r - a) ≤ 0 → P = true) := hide (fun h => by rw [← unhide HP]; exact payR_end (by omega))
      have H2 : Hid (1125899906842624 < y + (qI y r - a) → P = false) := hide (fun h1 => by rw [← unhide HP]; exact payR_never r0 r1 hy0 (by omega))
      have H3 : Hid (payR r a (k - (j + 1)) (y + (qI y r - a)) = P) := hide (by rw [show k - (j + 1) = m from by omega, ← unhide HP, show y + (qI y r - a) = y + qI y r - a from by omega]; exact (payR_step hy0).symm)
      have c1 := (unhide H).c1
      unfold Ans at hq
      generalize qI y r = q at *
      clear HP hm
      by_cases t1 : y + (q - a) ≤ 0
      · have HP := hide (unhide H1 t1)
        clear H1 H2 H3
        go_wp2_with fail
        refine (unhide hq _).mono ?_
        rintro e w1 ⟨rfl, hb⟩
        replace HB := hide (below_via (unhide HB) hb)
        clear hb
        go_wp2_with fail
        go_ret
        exact ⟨ret_bool (unhide HP).symm, unhide HB⟩
      by_cases t2 : 1125899906842624 < y + (q - a)
      · have HP := hide (unhide H2 t2)
        clear H1 H2 H3
        go_wp2_with fail
        refine (unhide hq _).mono ?_
        rintro e w1 ⟨rfl, hb⟩
        replace HB := hide (below_via (unhide HB) hb)
        clear hb
        go_wp2_with fail
        go_ret
        exact ⟨ret_bool (unhide HP).symm, unhide HB⟩
      · clear H1 H2
        go_wp2_with fail
        refine (unhide hq _).mono ?_
        rintro e w1 ⟨rfl, hb⟩
        replace HB := hide (below_via (unhide HB) hb)
        replace H := hide ((unhide H).keep hb)
        clear hb c1
        go_wp2_with fail
        go_roundw
        case rel => exact ⟨j + 1, y + (q - a), by omega, by go_num, rfl, by omega, by omega, H3, H, HB⟩
        case measure => simp [intOf]; omega
    · have hP : P = false := by
        rw [← unhide HP, show k - j = 0 from by omega]
        exact payR_none hy0
      have HP2 := hide hP
      clear hP HP
      go_wp2_with fail
      go_ret
      exact ⟨ret_bool (unhide HP2).symm, unhide HB⟩
end Go.Proofs.Ytgnhnffmojjncaa.Mn
namespace Go.Proofs.Ytgnhnffmojjncaa.Mn.schedLeast
open Go.RowKit
set_option linter.unusedSimpArgs false
/-- A box of one number. -/
def Bx (w : World) (b : Nat) (v : Int) : Prop := w.heap[b]? = some (.cells #[.int .i64 v] 2 (0, 0))
theorem Bx.c {w : World} {b : Nat} {v : Int} (h : Bx w b v) : w.cell? ⟨b, 0, none⟩ = some (.int .i64 v) := by rw [cell_of_row w b 0 _ _ _ h]; rfl
theorem Bx.fz {w : World} {b : Nat} {v : Int} (h : Bx w b v) : w.frozen? ⟨b, 0, none⟩ = false := frozen_of_row w b 0 _ _ h
theorem Bx.lt {w : World} {b : Nat} {v : Int} (h : Bx w b v) : b < w.heap.size := (Array.getElem?_eq_some_iff.1 h).1
theorem Bx.keep {w w' : World} {b : Nat} {v : Int} (h : Bx w b v) (hb : Below w.heap.size w w') : Bx w' b v := (hb.block b h.lt).trans h
theorem Bx.alloc {w : World} {b : Nat} {v : Int} (h : Bx w b v) (o : Obj) : Bx (w.alloc o) b v := (Below.heap_alloc w o b h.lt).trans h
theorem Bx.new (w : World) (v : Int) : Bx (w.alloc (.cells #[.int .i64 v] 2)) w.heap.size v := heap_alloc_new w _
theorem Bx.set {w : World} {b : Nat} {v : Int} (h : Bx w b v) (z : Int) : Bx (w.setCell ⟨b, 0, none⟩ (.int .i64 z)) b z := by unfold Bx; rw [Go.heap_setCell_same w b 0 _ _ _ h]; rfl
theorem Bx.other {w : World} {b c : Nat} {v : Int} (h : Bx w b v) (hc : c ≠ b) (z : Value) : Bx (w.setCell ⟨c, 0, none⟩ z) b v := (Below.heap_setCell w ⟨c, 0, none⟩ z b (fun e => hc e.symm)).trans h
/-- What the least payments of a loan, of more, of a greater rate, of a longer one are. -/
theorem facts {x r : Int} {k : Nat} (x0 : 1 ≤ x) (x1 : x ≤ 9999999999999) (r0 : 0 ≤ r) (r1 : r ≤ 999999999999) (k0 : 0 < k) :
    ∃ n a b c : Int, lvlR r k x = n ∧ lvlR r k (x + 1) = a ∧ lvlR (r + 1) k x = b ∧ lvlR r (k + 1) x = c ∧ n ≤ a ∧ n ≤ b ∧ c ≤ n ∧ 0 ≤ n ∧ n ≤ 20000000000000 ∧ payR r n k x = true ∧ (n ≠ 0 → payR r (n - 1) k x = false) := by
  have h1 := lvlR_is (x := x) (r := r) (k := k) (by omega) (by omega) (by omega) (by omega) k0
  have h2 := lvlR_is (x := x + 1) (r := r) (k := k) (by omega) (by omega) (by omega) (by omega) k0
  have h3 := lvlR_is (x := x) (r := r + 1) (k := k) (by omega) (by omega) (by omega) (by omega) k0
  have h4 := lvlR_is (x := x) (r := r) (k := k + 1) (by omega) (by omega) (by omega) (by omega) (by omega)
  have hb := qI_int2.bears r (by omega) (by omega)
  have hd := lvlR_bd (x := x) (r := r) (k := k) (by omega) (by omega) (by omega) (by omega) k0
  have hq := qI_bd (x := x) (r := r) (by omega) (by omega) (by omega)
  refine ⟨_, _, _, _, rfl, rfl, rfl, rfl, lev_left hb (by omega) h1 h2, lev_rate hb (fun y hy => qI_int2.rate y r (r + 1) hy r0 (by omega)) h1 h3, lev_longer h4 h1, h1.pos, by omega, h1.pays, fun hn => h1.least _ (by have := h1.pos; omega) (by omega)⟩
end Go.Proofs.Ytgnhnffmojjncaa.Mn.schedLeast
