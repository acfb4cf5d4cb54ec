/- The reference's Mul. -/
import Derived.Test.YtaknjpddjofgeaaRSum2
import Derived.Test.YtaknjpddjofgeaaDivs
namespace Go.Proofs.Ytaknjpddjofgeaa
open Go.RowKit
set_option linter.unusedSimpArgs false
theorem times_sgn {a b : Int} {l : Bool} {f : Nat → Nat} (h : Times a b l f) : sgn l (val f 260) = a * b := by
  obtain ⟨-, hl, hv⟩ := h
  rw [hv, ← Int.natAbs_mul]
  by_cases h0 : a * b = 0
  · rw [h0]; cases l <;> rfl
  · rw [sign_mul h0] at hl
    rw [hl]
    by_cases hn : a * b < 0
    · rw [decide_eq_true hn, sgn_t]; omega
    · rw [decide_eq_false hn, sgn_f]; omega
theorem results28_1 {fn : Func} {p : Tmp} (h : fn.results = #[.cell p 28]) (tmps : Array Value) {w : World} {b : Nat} {x y : Int} (hp : tmps.getD p undef = .pointer (some ⟨b, 0, none⟩)) (hr : R28 w b x y) :
    (results fn tmps).run Try.prog w = .ok (.agg #[.int .i64 x, .int .u64 y]) w := by
  have e1 : tmps[p]?.getD undef = .pointer (some ⟨b, 0, none⟩) := by simpa using hp
  have c0 := hr.c0
  have c1 := hr.c1
  simp [results, h, e1, go_sem, c0, c1]
set_option maxRecDepth 20000 in
set_option maxHeartbeats 4000000 in
theorem rmul_go (a b p q : Int) (c : Bool) (ht : Hid (∀ w, Calls Try.prog 35 #[.int .i64 a, .int .i64 b] w fun e w' => (∃ l f, (Times a b l f ∧ BackP l f p q c) ∧ e = .returned (.agg (gv l f))) ∧ Below w.heap.size w w')) (w : World) : Calls Try.prog 17 #[.int .i64 a, .int .i64 b] w fun e w' => e = .returned (.agg #[.int .i64 p, .int .u64 q]) ∧ Below w.heap.size w w' := by
  have ro := R28.new w 0 0
  have B := (Below.refl w.heap.size w).alloc (Nat.le_refl _) (.cells #[.int .i64 0, .int .u64 0] 28)
  replace ro := hide ro
  replace B := hide B
  go_enter Try.func17, Try.ntmps17
  go_wp2_with fail
  refine (unhide ht _).mono ?_
  rintro e w1 ⟨⟨l, f, ⟨hT, hB⟩, rfl⟩, hb1⟩
  replace ro := hide ((unhide ro).keep hb1 (unhide ro).lt)
  replace B := hide (below_via (unhide B) hb1)
  replace hT := hide hT
  replace hB := hide hB
  clear hb1 ht hT
  go_wp2_with fail
  refine (unhide hB _).mono ?_
  rintro e w2 ⟨rfl, hb2⟩
  replace ro := (unhide ro).keep hb2 (unhide ro).lt
  replace B := hide (below_via (unhide B) hb2)
  clear hb2 hB
  have rn := (ro.alloc (.cells #[.int .i64 p, .int .u64 q] 28))
  have x0 := rn.c0
  have x1 := rn.c1
  have f0 := rn.fr 0
  have f1 := rn.fr 1
  have R := hide ((rn.s0 p).s1 q)
  have BB := hide (((below_via (unhide B) ((Below.refl w2.heap.size w2).alloc (Nat.le_refl _) (.cells #[.int .i64 p, .int .u64 q] 28))).setCell (p := ⟨w.heap.size, 0, none⟩) (Nat.le_refl _) (.int .i64 p)).setCell (p := ⟨w.heap.size, 1, none⟩) (Nat.le_refl _) (.int .u64 q))
  replace rn := hide rn
  replace ro := hide ro
  go_wp2_with fail
  exact bodyPost_ret (results28_1 rfl _ rfl (unhide R)) rfl ⟨rfl, unhide BB⟩
theorem rmul_any (a b : Int) (ha : In64 a) (hb : In64 b) (w : World) : Calls Try.prog 17 #[.int .i64 a, .int .i64 b] w fun e w' => e = .returned (.agg #[.int .i64 (hi (a * b)), .int .u64 (lo (a * b))]) ∧ Below w.heap.size w w' := by
  refine rmul_go a b _ _ true (hide fun w => (times_any a b ha hb w).mono ?_) w
  rintro e w' ⟨⟨l, f, hT, rfl⟩, hbl⟩
  have h := back_any l f hT.1
  rw [times_sgn hT, okW_in (mul128 ha hb), okWE_in (mul128 ha hb)] at h
  exact ⟨⟨l, f, ⟨hT, h⟩, rfl⟩, hbl⟩
end Go.Proofs.Ytaknjpddjofgeaa
