/- What wide's Div and MulDiv answer, whole. -/
import Derived.Test.YtmepmmhhiphfiaaWide6
namespace Go.Proofs.Ytmepmmhhiphfiaa
open Go.RowKit
set_option linter.unusedSimpArgs false
theorem nB_pos {b : Int} (h : b ≠ 0) : 0 < nB b := by unfold nB; split <;> omega
theorem nX_abs (X b : Int) : (nX X b).natAbs = X.natAbs := by unfold nX; split <;> omega
theorem nB_abs (b : Int) : nB b = (b.natAbs : Int) := by unfold nB; split <;> omega
theorem over_quot {X b : Int} (h0 : b ≠ 0) (h : Over X b) : 18446744073709551616 ≤ nX X b / nB b ∨ nX X b / nB b ≤ -18446744073709551616 := by
  have hp := nB_pos h0
  have h1 : b.natAbs * 18446744073709551616 ≤ X.natAbs := by unfold Over at h; omega
  rw [← nX_abs X b] at h1
  have h2 : nB b * 18446744073709551616 ≤ ((nX X b).natAbs : Int) := by rw [nB_abs]; omega
  generalize nX X b = x at *
  generalize nB b = B at *
  by_cases hx : 0 ≤ x
  · left
    rw [Int.le_ediv_iff_mul_le hp]
    omega
  · right
    have : x ≤ -18446744073709551616 * B := by omega
    have h3 := Int.ediv_le_ediv hp this
    rw [Int.mul_ediv_cancel _ (by omega)] at h3
    exact h3
theorem not_over {X b : Int} (h0 : b ≠ 0) (h : ¬ Over X b) : -18446744073709551616 ≤ nX X b / nB b ∧ nX X b / nB b ≤ 18446744073709551615 := by
  have hp := nB_pos h0
  have h1 : X.natAbs < b.natAbs * 18446744073709551616 := by
    unfold Over at h
    exact (Nat.div_lt_iff_lt_mul (by decide)).1 (by omega)
  rw [← nX_abs X b] at h1
  have h2 : ((nX X b).natAbs : Int) < nB b * 18446744073709551616 := by rw [nB_abs]; omega
  generalize nX X b = x at *
  generalize nB b = B at *
  constructor
  · rw [Int.le_ediv_iff_mul_le hp]
    omega
  · have : x / B < 18446744073709551616 := by
      rw [Int.ediv_lt_iff_lt_mul hp]
      omega
    omega
theorem up_01 (q r B : Int) : up q r B = 0 ∨ up q r B = 1 := by unfold up; split <;> simp
theorem turn_out {n : Int} (h : 9223372036854775808 ≤ n ∨ n < -9223372036854775808) : ¬ turn n = 0 := by
  intro hc
  have h1 := (in_of_turn hc).lo
  have h2 := (in_of_turn hc).hi
  omega
theorem keep6 {W wn : World} {b c f : Nat} {v0 v1 v2 v3 vf : Value} (hcb : c < b) (hb : Below W.heap.size W wn)
    (hs : W.cell? ⟨b, 0, none⟩ = some v0 ∧ W.cell? ⟨b, 1, none⟩ = some v1 ∧ W.cell? ⟨b, 2, none⟩ = some v2 ∧ W.cell? ⟨b, 3, none⟩ = some v3 ∧ W.cell? ⟨c, f, none⟩ = some vf ∧ b < W.heap.size) :
    wn.cell? ⟨b, 0, none⟩ = some v0 ∧ wn.cell? ⟨b, 1, none⟩ = some v1 ∧ wn.cell? ⟨b, 2, none⟩ = some v2 ∧ wn.cell? ⟨b, 3, none⟩ = some v3 ∧ wn.cell? ⟨c, f, none⟩ = some vf ∧ b < wn.heap.size :=
  ⟨kept hb hs.2.2.2.2.2 hs.1, kept hb hs.2.2.2.2.2 hs.2.1, kept hb hs.2.2.2.2.2 hs.2.2.1, kept hb hs.2.2.2.2.2 hs.2.2.2.1, kept hb (by omega) hs.2.2.2.2.1, by have := hb.size; omega⟩
theorem keep6' {W wn : World} {B b c f : Nat} {v0 v1 v2 v3 vf : Value} (hcb : c < b) (hbB : b < B) (hb : Below B W wn)
    (hs : W.cell? ⟨b, 0, none⟩ = some v0 ∧ W.cell? ⟨b, 1, none⟩ = some v1 ∧ W.cell? ⟨b, 2, none⟩ = some v2 ∧ W.cell? ⟨b, 3, none⟩ = some v3 ∧ W.cell? ⟨c, f, none⟩ = some vf ∧ b < W.heap.size) :
    wn.cell? ⟨b, 0, none⟩ = some v0 ∧ wn.cell? ⟨b, 1, none⟩ = some v1 ∧ wn.cell? ⟨b, 2, none⟩ = some v2 ∧ wn.cell? ⟨b, 3, none⟩ = some v3 ∧ wn.cell? ⟨c, f, none⟩ = some vf ∧ b < wn.heap.size :=
  ⟨(hb.cell (p := ⟨b, 0, none⟩) hbB).trans hs.1, (hb.cell (p := ⟨b, 1, none⟩) hbB).trans hs.2.1, (hb.cell (p := ⟨b, 2, none⟩) hbB).trans hs.2.2.1, (hb.cell (p := ⟨b, 3, none⟩) hbB).trans hs.2.2.2.1, (hb.cell (p := ⟨c, f, none⟩) (Nat.lt_trans hcb hbB)).trans hs.2.2.2.2.1, by have := hb.size; omega⟩
set_option maxHeartbeats 1000000 in
theorem div_go0 (X b k : Int) (hX : In128 X) (hb : In64 b) (h0 : b ≠ 0) (hk01 : k = 0 ∨ k = 1)
    (hw : ∀ w : World, Calls Try.prog 41 #[cutOf (nX X b / nB b) (nX X b % nB b) (nB b)] w fun e w' => e = .returned (.int .i64 k) ∧ ∃ o, w' = w.alloc o) (w : World) :
    Calls Try.prog 37 #[.agg #[.int .i64 (hi X), .int .u64 (lo X)], .int .i64 b, .int .i64 0] w fun e w' => e = .returned (.tuple #[.int .i64 (okN (nX X b / nB b + k)), .int .i64 (okE (nX X b / nB b + k))]) ∧ Below w.heap.size w w' := by
  have hd := hide (divide_any X b hX hb h0)
  have HO := hide (over_quot (X := X) h0)
  have HN := hide (not_over (X := X) h0)
  have HW := hide hw
  clear hw
  have Hk := hide hk01
  clear hk01
  generalize nX X b / nB b = Q at *
  generalize nX X b % nB b = r at *
  generalize nB b = B at *
  go_enter Try.func37, Try.ntmps37
  go_wp2_with fail
  refine (unhide hd _).mono ?_
  rintro e w1 ⟨hcase, hbw⟩
  have HB : Hid (Below w.heap.size w w1) := hide (below_via (((Below.refl _ _).alloc (Nat.le_refl _) _).alloc (by simp) _) hbw)
  obtain ⟨hc, hf⟩ := bcell hbw
  have hz : w.heap.size + 1 < w1.heap.size := by have := hbw.size; simp at this; omega
  have hza : w.heap.size < w1.heap.size := by omega
  clear hbw hd
  rcases hcase with ⟨hov, rfl⟩ | ⟨hov, rfl⟩
  · have hT : ¬ turn (Q + k) = 0 := turn_out (by rcases unhide HO hov with h | h <;> rcases unhide Hk with g | g <;> omega)
    unfold cutNone
    go_wp2_with fail
    go_ret2
    exact ⟨by rw [okN_out hT, okE_out hT]; rfl, (unhide HB).alloc (by omega) _⟩
  · obtain ⟨q1, q2⟩ := unhide HN hov
    obtain ⟨k1, k2⟩ : 0 ≤ k ∧ k ≤ 1 := by rcases unhide Hk with g | g <;> omega
    have hQ : In128 Q := ⟨by omega, by omega⟩
    have hk64 : In64 k := ⟨by omega, by omega⟩
    have hk128 : In128 k := ⟨by omega, by omega⟩
    have hS : In128 (Q + k) := ⟨by omega, by omega⟩
    have h18 := hide (of_ex k hk64)
    have h10 := hide (add_ex Q k hQ hk128 hS)
    have h39 := hide (narrow_any (Q + k) hS)
    unfold cutOf at HW
    unfold cutOf
    generalize hi Q = p at *
    generalize lo Q = l at *
    clear hQ hk64 hk128 hS hov HO HN Hk
    go_wp2_with fail
    have hy1 : w.heap.size < w1.heap.size + 1 := by omega
    have hy2 : w.heap.size < w1.heap.size + 1 + 1 := by omega
    have hy3 : w.heap.size < w1.heap.size + 1 + 1 + 1 := by omega
    have hy4 : w.heap.size < w1.heap.size + 1 + 1 + 1 + 1 := by omega
    have hy5 : w.heap.size < w1.heap.size + 1 + 1 + 1 + 1 + 1 := by omega
    have hy6 : w.heap.size < w1.heap.size + 1 + 1 + 1 + 1 + 1 + 1 := by omega
    have hy7 : w.heap.size < w1.heap.size + 1 + 1 + 1 + 1 + 1 + 1 + 1 := by omega
    have hy8 : w.heap.size < w1.heap.size + 1 + 1 + 1 + 1 + 1 + 1 + 1 + 1 := by omega
    go_region_held3 (fun w' => w'.cell? ⟨w1.heap.size, 0, none⟩ = some (.int .i64 p) ∧ w'.cell? ⟨w1.heap.size, 1, none⟩ = some (.int .u64 l) ∧ w'.cell? ⟨w1.heap.size, 2, none⟩ = some (.int .u64 r) ∧ w'.cell? ⟨w1.heap.size, 3, none⟩ = some (.int .u64 B) ∧ w'.cell? ⟨w.heap.size + 1, 0, none⟩ = some (.func (Fn.func 41) #[] #[]))
      (simp [go_sem, World.cell?_alloc_past, hc, hf, hz, hza, hy1, hy2, hy3, hy4, hy5, hy6, hy7, hy8])
      (first
        | (go_at_call 41; refine (unhide HW _).mono ?_; rintro e wa ⟨rfl, oa, rfl⟩)
        | (go_at_call 45; refine (unhide h18 _).mono ?_; rintro e wb ⟨rfl, ob, rfl⟩)
        | (go_at_call 44; refine (unhide h10 _).mono ?_; rintro e wc ⟨rfl, o1, o2, o3, o4, m, rfl⟩))
    all_goals go_wp2_with (go_at_call 46; refine (unhide h39 _).mono ?_; rintro e w5 ⟨rfl, hb5⟩)
    all_goals go_ret2
    all_goals refine ⟨rfl, below_via ?_ hb5⟩
    all_goals repeat (first | exact unhide HB | refine below_drewN ?_ _ | refine below_drew ?_ | refine Below.setCell ?_ (by first | omega | (simp; done) | (simp; omega)) _ | refine Below.alloc ?_ (by first | omega | (simp; done) | (simp; omega)) _)
set_option maxHeartbeats 1000000 in
theorem div_go1 (X b k : Int) (hX : In128 X) (hb : In64 b) (h0 : b ≠ 0) (hk01 : k = 0 ∨ k = 1)
    (hw : ∀ w : World, Calls Try.prog 42 #[cutOf (nX X b / nB b) (nX X b % nB b) (nB b)] w fun e w' => e = .returned (.int .i64 k) ∧ ∃ o, w' = w.alloc o) (w : World) :
    Calls Try.prog 37 #[.agg #[.int .i64 (hi X), .int .u64 (lo X)], .int .i64 b, .int .i64 1] w fun e w' => e = .returned (.tuple #[.int .i64 (okN (nX X b / nB b + k)), .int .i64 (okE (nX X b / nB b + k))]) ∧ Below w.heap.size w w' := by
  have hd := hide (divide_any X b hX hb h0)
  have HO := hide (over_quot (X := X) h0)
  have HN := hide (not_over (X := X) h0)
  have HW := hide hw
  clear hw
  have Hk := hide hk01
  clear hk01
  generalize nX X b / nB b = Q at *
  generalize nX X b % nB b = r at *
  generalize nB b = B at *
  go_enter Try.func37, Try.ntmps37
  go_wp2_with fail
  refine (unhide hd _).mono ?_
  rintro e w1 ⟨hcase, hbw⟩
  have HB : Hid (Below w.heap.size w w1) := hide (below_via (((Below.refl _ _).alloc (Nat.le_refl _) _).alloc (by simp) _) hbw)
  obtain ⟨hc, hf⟩ := bcell hbw
  have hz : w.heap.size + 1 < w1.heap.size := by have := hbw.size; simp at this; omega
  have hza : w.heap.size < w1.heap.size := by omega
  clear hbw hd
  rcases hcase with ⟨hov, rfl⟩ | ⟨hov, rfl⟩
  · have hT : ¬ turn (Q + k) = 0 := turn_out (by rcases unhide HO hov with h | h <;> rcases unhide Hk with g | g <;> omega)
    unfold cutNone
    go_wp2_with fail
    go_ret2
    exact ⟨by rw [okN_out hT, okE_out hT]; rfl, (unhide HB).alloc (by omega) _⟩
  · obtain ⟨q1, q2⟩ := unhide HN hov
    obtain ⟨k1, k2⟩ : 0 ≤ k ∧ k ≤ 1 := by rcases unhide Hk with g | g <;> omega
    have hQ : In128 Q := ⟨by omega, by omega⟩
    have hk64 : In64 k := ⟨by omega, by omega⟩
    have hk128 : In128 k := ⟨by omega, by omega⟩
    have hS : In128 (Q + k) := ⟨by omega, by omega⟩
    have h18 := hide (of_ex k hk64)
    have h10 := hide (add_ex Q k hQ hk128 hS)
    have h39 := hide (narrow_any (Q + k) hS)
    unfold cutOf at HW
    unfold cutOf
    generalize hi Q = p at *
    generalize lo Q = l at *
    clear hQ hk64 hk128 hS hov HO HN Hk
    go_wp2_with fail
    have hy1 : w.heap.size < w1.heap.size + 1 := by omega
    have hy2 : w.heap.size < w1.heap.size + 1 + 1 := by omega
    have hy3 : w.heap.size < w1.heap.size + 1 + 1 + 1 := by omega
    have hy4 : w.heap.size < w1.heap.size + 1 + 1 + 1 + 1 := by omega
    have hy5 : w.heap.size < w1.heap.size + 1 + 1 + 1 + 1 + 1 := by omega
    have hy6 : w.heap.size < w1.heap.size + 1 + 1 + 1 + 1 + 1 + 1 := by omega
    have hy7 : w.heap.size < w1.heap.size + 1 + 1 + 1 + 1 + 1 + 1 + 1 := by omega
    have hy8 : w.heap.size < w1.heap.size + 1 + 1 + 1 + 1 + 1 + 1 + 1 + 1 := by omega
    go_region_held3 (fun w' => w'.cell? ⟨w1.heap.size, 0, none⟩ = some (.int .i64 p) ∧ w'.cell? ⟨w1.heap.size, 1, none⟩ = some (.int .u64 l) ∧ w'.cell? ⟨w1.heap.size, 2, none⟩ = some (.int .u64 r) ∧ w'.cell? ⟨w1.heap.size, 3, none⟩ = some (.int .u64 B) ∧ w'.cell? ⟨w.heap.size + 1, 1, none⟩ = some (.func (Fn.func 42) #[] #[]))
      (simp [go_sem, World.cell?_alloc_past, hc, hf, hz, hza, hy1, hy2, hy3, hy4, hy5, hy6, hy7, hy8])
      (first
        | (go_at_call 42; refine (unhide HW _).mono ?_; rintro e wa ⟨rfl, oa, rfl⟩)
        | (go_at_call 45; refine (unhide h18 _).mono ?_; rintro e wb ⟨rfl, ob, rfl⟩)
        | (go_at_call 44; refine (unhide h10 _).mono ?_; rintro e wc ⟨rfl, o1, o2, o3, o4, m, rfl⟩))
    all_goals go_wp2_with (go_at_call 46; refine (unhide h39 _).mono ?_; rintro e w5 ⟨rfl, hb5⟩)
    all_goals go_ret2
    all_goals refine ⟨rfl, below_via ?_ hb5⟩
    all_goals repeat (first | exact unhide HB | refine below_drewN ?_ _ | refine below_drew ?_ | refine Below.setCell ?_ (by first | omega | (simp; done) | (simp; omega)) _ | refine Below.alloc ?_ (by first | omega | (simp; done) | (simp; omega)) _)
/-- Div, downwards and to the nearer one. -/
theorem div_floor (X b : Int) (hX : In128 X) (hb : In64 b) (h0 : b ≠ 0) (w : World) : Calls Try.prog 37 #[.agg #[.int .i64 (hi X), .int .u64 (lo X)], .int .i64 b, .int .i64 0] w fun e w' => e = .returned (.tuple #[.int .i64 (okN (quot 0 X b)), .int .i64 (okE (quot 0 X b))]) ∧ Below w.heap.size w w' := by
  have h := div_go0 X b 0 hX hb h0 (Or.inl rfl) (down_any _ _ _) w
  rw [Int.add_zero] at h
  exact h
theorem div_near (X b : Int) (hX : In128 X) (hb : In64 b) (h0 : b ≠ 0) (w : World) : Calls Try.prog 37 #[.agg #[.int .i64 (hi X), .int .u64 (lo X)], .int .i64 b, .int .i64 1] w fun e w' => e = .returned (.tuple #[.int .i64 (okN (quot 1 X b)), .int .i64 (okE (quot 1 X b))]) ∧ Below w.heap.size w w' := by
  refine div_go1 X b _ hX hb h0 (up_01 _ _ _) (near_any _ _ _ (Int.emod_nonneg _ (by have := nB_pos h0; omega)) (Int.emod_lt_of_pos _ (nB_pos h0)) ?_) w
  have h1 := hb.lo
  have h2 := hb.hi
  unfold nB
  split <;> omega
theorem mul128 {a b : Int} (ha : In64 a) (hb : In64 b) : In128 (a * b) := by
  have a1 := ha.lo; have a2 := ha.hi; have b1 := hb.lo; have b2 := hb.hi
  have h : (a * b).natAbs ≤ 9223372036854775808 * 9223372036854775808 := by
    rw [Int.natAbs_mul]
    exact Nat.mul_le_mul (by omega) (by omega)
  constructor <;> omega
theorem muldiv_floor (a b c : Int) (ha : In64 a) (hb : In64 b) (hc : In64 c) (h0 : c ≠ 0) (w : World) : Calls Try.prog 31 #[.int .i64 a, .int .i64 b, .int .i64 c, .int .i64 0] w fun e w' => e = .returned (.tuple #[.int .i64 (okN (quot 0 (a * b) c)), .int .i64 (okE (quot 0 (a * b) c))]) ∧ Below w.heap.size w w' := by
  have hm := hide (mul_any a b ha hb)
  have hd := hide (div_floor (a * b) c (mul128 ha hb) hc h0)
  generalize a * b = X at *
  go_enter Try.func31, Try.ntmps31
  go_wp2_with fail
  refine (unhide hm _).mono ?_
  rintro e w1 ⟨rfl, hb1⟩
  have HB := hide hb1
  clear hb1
  go_wp2_with fail
  refine (unhide hd _).mono ?_
  rintro e w2 ⟨rfl, hb2⟩
  go_wp2_with fail
  go_ret2
  exact ⟨rfl, below_via (unhide HB) hb2⟩
theorem muldiv_near (a b c : Int) (ha : In64 a) (hb : In64 b) (hc : In64 c) (h0 : c ≠ 0) (w : World) : Calls Try.prog 31 #[.int .i64 a, .int .i64 b, .int .i64 c, .int .i64 1] w fun e w' => e = .returned (.tuple #[.int .i64 (okN (quot 1 (a * b) c)), .int .i64 (okE (quot 1 (a * b) c))]) ∧ Below w.heap.size w w' := by
  have hm := hide (mul_any a b ha hb)
  have hd := hide (div_near (a * b) c (mul128 ha hb) hc h0)
  generalize a * b = X at *
  go_enter Try.func31, Try.ntmps31
  go_wp2_with fail
  refine (unhide hm _).mono ?_
  rintro e w1 ⟨rfl, hb1⟩
  have HB := hide hb1
  clear hb1
  go_wp2_with fail
  refine (unhide hd _).mono ?_
  rintro e w2 ⟨rfl, hb2⟩
  go_wp2_with fail
  go_ret2
  exact ⟨rfl, below_via (unhide HB) hb2⟩
theorem muldiv_by0 (a b way : Int) (ha : In64 a) (hb : In64 b) (h1 : ¬ way < 0) (h2 : ¬ 2 ≤ way) (w : World) : Calls Try.prog 31 #[.int .i64 a, .int .i64 b, .int .i64 0, .int .i64 way] w fun e w' => e = .returned (.tuple #[.int .i64 0, .int .i64 4]) ∧ Below w.heap.size w w' := by
  have hm := hide (mul_any a b ha hb)
  have hd := hide (div_by0 (a * b) way h1 h2)
  clear h1 h2
  generalize a * b = X at *
  go_enter Try.func31, Try.ntmps31
  go_wp2_with fail
  refine (unhide hm _).mono ?_
  rintro e w1 ⟨rfl, hb1⟩
  have HB := hide hb1
  clear hb1
  go_wp2_with fail
  refine (unhide hd _).mono ?_
  rintro e w2 ⟨rfl, hb2⟩
  go_wp2_with fail
  go_ret2
  exact ⟨rfl, below_via (unhide HB) hb2⟩
end Go.Proofs.Ytmepmmhhiphfiaa
