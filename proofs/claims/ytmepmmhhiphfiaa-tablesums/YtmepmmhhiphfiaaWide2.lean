/- What wide's sums and negatives answer. -/
import Derived.Test.YtmepmmhhiphfiaaWide
namespace Go.Proofs.Ytmepmmhhiphfiaa
open Go.RowKit
theorem bor_0 (q : Int) (h : 0 ≤ q) : (q = 0 ∧ bor 0 q = 0) ∨ (0 < q ∧ bor 0 q = 1) := by unfold bor; split <;> omega
theorem turn_parts (X p q : Int) (hX : X = p * 18446744073709551616 + q) (h0 : 0 ≤ q) (h1 : q ≤ 18446744073709551615) : hi (-X) = wrap64 (wrap64 (-p) - bor 0 q) ∧ lo (-X) = -q % 18446744073709551616 := by
  subst hX
  constructor
  · unfold hi wrap64
    rcases bor_0 q h0 with ⟨h, e⟩ | ⟨h, e⟩ <;> rw [e] <;> omega
  · unfold lo
    omega
/-- 0 less an Int; of -2^127 that itself. -/
theorem turn_any (X : Int) (h : In128 X) (w : World) : Calls Try.prog 51 #[.agg #[.int .i64 (hi X), .int .u64 (lo X)]] w fun e w' => e = .returned (.agg #[.int .i64 (hi (-X)), .int .u64 (lo (-X))]) ∧ Below w.heap.size w w' := by
  have hX := hide (hilo h)
  obtain ⟨a1, a2⟩ := hi_bd X
  obtain ⟨b1, b2⟩ := lo_bd X
  generalize hi X = p at *
  generalize lo X = q at *
  have HT := hide (turn_parts X p q (unhide hX) b1 b2)
  have b3 : q < 18446744073709551616 := by omega
  have k0 : 0 ≤ bor 0 q := by unfold bor; split <;> omega
  have k1 : bor 0 q ≤ 1 := by unfold bor; split <;> omega
  go_enter Try.func51, Try.ntmps51
  go_wp2_with (simp only [sub64_0 q b1 b3])
  refine bodyPost_ret (v := .agg #[.int .i64 (hi (-X)), .int .u64 (lo (-X))]) (by rw [(unhide HT).1, (unhide HT).2]; simp [results, Try.results51, go_sem]) rfl ⟨rfl, ((Below.refl _ _).alloc (Nat.le_refl _) _).alloc (by simp) _⟩
theorem sum_parts (X Y p q r s P R : Int) (hX : X = p * 18446744073709551616 + q) (hY : Y = r * 18446744073709551616 + s) (hP : P = p - 18446744073709551616 * sg p) (hR : R = r - 18446744073709551616 * sg r) : hi (X + Y) = wrap64 ((P + R + (q + s) / 18446744073709551616) % 18446744073709551616) ∧ lo (X + Y) = (q + s) % 18446744073709551616 := by
  subst hX hY hP hR
  generalize sg p = i
  generalize sg r = j
  constructor
  · unfold hi wrap64
    omega
  · unfold lo
    omega
/-- The numbers whose sign is that of their upper half. -/
theorem sg_hi {X : Int} (h : In128 X) : sg (hi X) = if X < 0 then -1 else 0 := by
  have := hilo h
  have h1 := lo_bd X
  have h2 := hi_bd X
  unfold sg
  split <;> omega
theorem sg_in (n : Int) (h : In64 n) : sg n = if n < 0 then -1 else 0 := by
  have h1 := h.lo; have h2 := h.hi
  unfold sg
  split <;> omega
theorem sum_out {X Y z : Int} (hX : In128 X) (hY : In128 Y) (hz : z = hi (X + Y)) : (In128 (X + Y) → sg (hi X) = sg (hi Y) → sg z = sg (hi X)) ∧ (¬ In128 (X + Y) → sg (hi X) = sg (hi Y) ∧ sg z ≠ sg (hi X)) := by
  have e1 := sg_in z (by rw [hz]; exact ⟨(hi_bd _).1, (hi_bd _).2⟩)
  have eX := sg_hi hX
  have eY := sg_hi hY
  rw [e1, eX, eY, hz]
  have x1 := hX.lo; have x2 := hX.hi
  have y1 := hY.lo; have y2 := hY.hi
  constructor
  · intro hS h
    have s1 := hS.lo; have s2 := hS.hi
    have := hilo hS
    have h1 := lo_bd (X + Y)
    split at h <;> split at h <;> split <;> first | rfl | omega
  · intro hS
    have hS' : X + Y < -170141183460469231731687303715884105728 ∨ 170141183460469231731687303715884105727 < X + Y := by
      apply Classical.byContradiction
      intro hc
      exact hS ⟨by omega, by omega⟩
    have hh : hi (X + Y) = wrap64 ((X + Y) / 18446744073709551616) := rfl
    unfold wrap64 at hh
    obtain ⟨S, eS⟩ : ∃ S, S = X + Y := ⟨_, rfl⟩
    rw [← eS] at hS' hh ⊢
    generalize hi S = H at *
    rcases hS' with h | h
    · have : 0 ≤ H := by omega
      refine ⟨by split <;> split <;> omega, by split <;> split <;> omega⟩
    · have : H < 0 := by omega
      refine ⟨by split <;> split <;> omega, by split <;> split <;> omega⟩
theorem ne_beq {a b : Int} (h : a ≠ b) : (a == b) = false := by rw [beq_eq_false_iff_ne]; exact h
theorem eq_beq {a b : Int} (h : a = b) : (a == b) = true := by rw [h]; exact beq_self_eq_true b
theorem below_drewN {B : Nat} {a w : World} (h : Below B a w) (n : Nat) : Below B a (w.drewN n) := h.trans ⟨rfl, rfl, rfl, Nat.le_refl _, fun _ _ => rfl⟩
theorem Calls.quiet_eq {P : Program} {f : FuncId} {args : Array Value} {w : World} {n : Nat} {v : Value} (h : Calls P f args (w.drewN n) fun e w' => e = .returned v ∧ w.drewN n = w') : Calls P f args (w.drewN n) fun e w'' => e = .returned v ∧ ∃ m, w'' = w.drewN m :=
  h.mono fun _ _ ⟨he, hm⟩ => ⟨he, n, hm.symm⟩
theorem set_third (w : World) (A B D : Obj) (c : Array Value) (t : TypeId) (n : Nat) (v v' : Value) :
    (((((((w.alloc A).alloc B).alloc (.cells c t)).alloc D).drewN n).setCell ⟨w.heap.size + 1 + 1, 0, none⟩ v).setCell ⟨w.heap.size + 1 + 1, 1, none⟩ v') = ((((w.alloc A).alloc B).alloc (.cells ((c.setIfInBounds 0 v).setIfInBounds 1 v') t)).alloc D).drewN n := by
  have e : ∀ (X : World) (a : Addr) (u : Value), (X.drewN n).setCell a u = (X.setCell a u).drewN n := fun _ _ _ => rfl
  rw [e, e, World.setCell_alloc_past _ _ _ _ (by simp), World.setCell_alloc_at _ _ _ _ _ (by simp), World.setCell_alloc_past _ _ _ _ (by simp), World.setCell_alloc_at _ _ _ _ _ (by simp)]
theorem below_four {w w' : World} (h : ∃ o1 o2 o3 o4 n, w' = ((((w.alloc o1).alloc o2).alloc o3).alloc o4).drewN n) : Below w.heap.size w w' := by
  obtain ⟨o1, o2, o3, o4, n, rfl⟩ := h
  exact below_drewN (((((Below.refl _ _).alloc (Nat.le_refl _) _).alloc (by simp) _).alloc (by simp <;> omega) _).alloc (by simp <;> omega) _) n
set_option maxHeartbeats 400000 in
theorem add_ex (X Y : Int) (hX : In128 X) (hY : In128 Y) (hS : In128 (X + Y)) (w : World) : Calls Try.prog 44 #[.agg #[.int .i64 (hi X), .int .u64 (lo X)], .agg #[.int .i64 (hi Y), .int .u64 (lo Y)]] w fun e w' => e = .returned (.tuple #[.agg #[.int .i64 (hi (X + Y)), .int .u64 (lo (X + Y))], .int .i64 0]) ∧ ∃ o1 o2 o3 o4 n, w' = ((((w.alloc o1).alloc o2).alloc o3).alloc o4).drewN n := by
  have HX := hide (hilo hX)
  have HY := hide (hilo hY)
  have HO := hide (sum_out hX hY rfl)
  obtain ⟨a1, a2⟩ := hi_bd X
  obtain ⟨b1, b2⟩ := lo_bd X
  obtain ⟨c1, c2⟩ := hi_bd Y
  obtain ⟨d1, d2⟩ := lo_bd Y
  obtain ⟨z1, z2⟩ := hi_bd (X + Y)
  generalize hi X = p at *
  generalize lo X = q at *
  generalize hi Y = r at *
  generalize lo Y = s at *
  have k0 : 0 ≤ (q + s) / 18446744073709551616 := by omega
  have k1 : (q + s) / 18446744073709551616 ≤ 1 := by omega
  obtain ⟨P, eP, hP, hPp⟩ := u64_of p ⟨a1, a2⟩
  obtain ⟨R, eR, hR, hRr⟩ := u64_of r ⟨c1, c2⟩
  have HT := sum_parts X Y p q r s P R (unhide HX) (unhide HY) hPp hRr
  clear hPp hRr HX HY
  have m0 : (0 : Int) ≤ P := by omega
  have m1 : (0 : Int) ≤ R := by omega
  obtain ⟨ez, el⟩ := HT
  replace ez := ez.symm
  generalize hi (X + Y) = z at *
  generalize lo (X + Y) = l at *
  subst el
  by_cases h1 : sg p = sg r
  · have t1 := eq_beq h1
    have t2 := eq_beq ((unhide HO).1 hS h1)
    replace h1 := hide h1
    go_enter Try.func44, Try.ntmps44
    go_wp2_with (first | simp only [add64_0 q s b1 d1] | simp only [add64 _ _ _ m0 m1 k0 k1])
    go_quiet ((go_at_call 48; first | exact Calls.quiet_eq (sign_any p ⟨a1, a2⟩ _) | exact Calls.quiet_eq (sign_any r ⟨c1, c2⟩ _) | exact Calls.quiet_eq (sign_any z ⟨z1, z2⟩ _)))
    go_wp2_with fail
    refine bodyPost_ret (v := .tuple #[.agg #[.int .i64 z, .int .u64 ((q + s) % 18446744073709551616)], .int .i64 0]) (by simp [results, Try.results44, go_sem]) rfl ⟨rfl, ?_⟩
    exact ⟨_, _, _, _, _, set_third w _ _ _ _ _ _ _ _⟩
  · have t1 := ne_beq h1
    replace h1 := hide h1
    go_enter Try.func44, Try.ntmps44
    go_wp2_with (first | simp only [add64_0 q s b1 d1] | simp only [add64 _ _ _ m0 m1 k0 k1])
    go_quiet ((go_at_call 48; first | exact Calls.quiet_eq (sign_any p ⟨a1, a2⟩ _) | exact Calls.quiet_eq (sign_any r ⟨c1, c2⟩ _) | exact Calls.quiet_eq (sign_any z ⟨z1, z2⟩ _)))
    go_wp2_with fail
    refine bodyPost_ret (v := .tuple #[.agg #[.int .i64 z, .int .u64 ((q + s) % 18446744073709551616)], .int .i64 0]) (by simp [results, Try.results44, go_sem]) rfl ⟨rfl, ?_⟩
    exact ⟨_, _, _, _, _, set_third w _ _ _ _ _ _ _ _⟩
theorem add_in (X Y : Int) (hX : In128 X) (hY : In128 Y) (hS : In128 (X + Y)) (w : World) : Calls Try.prog 44 #[.agg #[.int .i64 (hi X), .int .u64 (lo X)], .agg #[.int .i64 (hi Y), .int .u64 (lo Y)]] w fun e w' => e = .returned (.tuple #[.agg #[.int .i64 (hi (X + Y)), .int .u64 (lo (X + Y))], .int .i64 0]) ∧ Below w.heap.size w w' := (add_ex X Y hX hY hS w).mono fun _ _ h => ⟨h.1, below_four h.2⟩
set_option maxHeartbeats 400000 in
theorem add_out (X Y : Int) (hX : In128 X) (hY : In128 Y) (hS : ¬ In128 (X + Y)) (w : World) : Calls Try.prog 44 #[.agg #[.int .i64 (hi X), .int .u64 (lo X)], .agg #[.int .i64 (hi Y), .int .u64 (lo Y)]] w fun e w' => e = .returned (.tuple #[.agg #[.int .i64 0, .int .u64 0], .int .i64 3]) ∧ Below w.heap.size w w' := by
  have HX := hide (hilo hX)
  have HY := hide (hilo hY)
  have HO := hide (sum_out hX hY rfl)
  obtain ⟨a1, a2⟩ := hi_bd X
  obtain ⟨b1, b2⟩ := lo_bd X
  obtain ⟨c1, c2⟩ := hi_bd Y
  obtain ⟨d1, d2⟩ := lo_bd Y
  obtain ⟨z1, z2⟩ := hi_bd (X + Y)
  generalize hi X = p at *
  generalize lo X = q at *
  generalize hi Y = r at *
  generalize lo Y = s at *
  have k0 : 0 ≤ (q + s) / 18446744073709551616 := by omega
  have k1 : (q + s) / 18446744073709551616 ≤ 1 := by omega
  obtain ⟨P, eP, hP, hPp⟩ := u64_of p ⟨a1, a2⟩
  obtain ⟨R, eR, hR, hRr⟩ := u64_of r ⟨c1, c2⟩
  have HT := sum_parts X Y p q r s P R (unhide HX) (unhide HY) hPp hRr
  clear hPp hRr HX HY
  have m0 : (0 : Int) ≤ P := by omega
  have m1 : (0 : Int) ≤ R := by omega
  obtain ⟨ez, el⟩ := HT
  replace ez := ez.symm
  generalize hi (X + Y) = z at *
  generalize lo (X + Y) = l at *
  subst el
  have t1 := eq_beq ((unhide HO).2 hS).1
  have t2 := ne_beq ((unhide HO).2 hS).2
  go_enter Try.func44, Try.ntmps44
  go_wp2_with (first | simp only [add64_0 q s b1 d1] | simp only [add64 _ _ _ m0 m1 k0 k1])
  go_quiet ((go_at_call 48; first | exact Calls.quiet_eq (sign_any p ⟨a1, a2⟩ _) | exact Calls.quiet_eq (sign_any r ⟨c1, c2⟩ _) | exact Calls.quiet_eq (sign_any z ⟨z1, z2⟩ _)))
  go_wp2_with fail
  refine bodyPost_ret (v := .tuple #[.agg #[.int .i64 0, .int .u64 0], .int .i64 3]) (by simp [results, Try.results44, go_sem]) rfl ⟨rfl, ?_⟩
  exact ((below_drewN (((((Below.refl _ _).alloc (Nat.le_refl _) _).alloc (by simp) _).alloc (by simp <;> omega) _).alloc (by simp <;> omega) _) _).setCell (by simp <;> omega) _).setCell (by simp <;> omega) _
theorem hi_zero : hi 0 = 0 := by unfold hi wrap64; omega
theorem lo_zero : lo 0 = 0 := by unfold lo; omega
theorem bcell {W w1 : World} (hb : Below W.heap.size W w1) : (∀ b o, b < W.heap.size → w1.cell? ⟨b, o, none⟩ = W.cell? ⟨b, o, none⟩) ∧ (∀ b o, b < W.heap.size → w1.frozen? ⟨b, o, none⟩ = W.frozen? ⟨b, o, none⟩) :=
  ⟨fun b o h => hb.cell (p := ⟨b, o, none⟩) h, fun b o h => hb.frozen (p := ⟨b, o, none⟩) h⟩
/-- What is handed back: the number, if 128 bits hold it, else 0; and the error. -/
def okW (Z : Int) : Int := if -170141183460469231731687303715884105728 ≤ Z ∧ Z ≤ 170141183460469231731687303715884105727 then Z else 0
def okWE (Z : Int) : Int := if -170141183460469231731687303715884105728 ≤ Z ∧ Z ≤ 170141183460469231731687303715884105727 then 0 else 3
theorem okW_in {Z : Int} (h : In128 Z) : okW Z = Z := if_pos ⟨h.lo, h.hi⟩
theorem okWE_in {Z : Int} (h : In128 Z) : okWE Z = 0 := if_pos ⟨h.lo, h.hi⟩
theorem okW_out {Z : Int} (h : ¬ In128 Z) : okW Z = 0 := if_neg fun g => h ⟨g.1, g.2⟩
theorem okWE_out {Z : Int} (h : ¬ In128 Z) : okWE Z = 3 := if_neg fun g => h ⟨g.1, g.2⟩
theorem okW_128 (Z : Int) : In128 (okW Z) := by
  by_cases h : In128 Z
  · rw [okW_in h]; exact h
  · rw [okW_out h]; exact ⟨by omega, by omega⟩
theorem add_any (X Y : Int) (hX : In128 X) (hY : In128 Y) (w : World) : Calls Try.prog 44 #[.agg #[.int .i64 (hi X), .int .u64 (lo X)], .agg #[.int .i64 (hi Y), .int .u64 (lo Y)]] w fun e w' => e = .returned (.tuple #[.agg #[.int .i64 (hi (okW (X + Y))), .int .u64 (lo (okW (X + Y)))], .int .i64 (okWE (X + Y))]) ∧ Below w.heap.size w w' := by
  by_cases h : In128 (X + Y)
  · rw [okW_in h, okWE_in h]; exact add_in X Y hX hY h w
  · rw [okW_out h, okWE_out h, hi_zero, lo_zero]; exact add_out X Y hX hY h w
theorem hilo_inj {X Y : Int} (hX : In128 X) (hY : In128 Y) (h1 : hi X = hi Y) (h2 : lo X = lo Y) : X = Y := by rw [hilo hX, hilo hY, h1, h2]
end Go.Proofs.Ytmepmmhhiphfiaa
