/- What wide's Compare answers. -/
import Derived.Test.YtaknjpddjofgeaaWide3
namespace Go.Proofs.Ytaknjpddjofgeaa
open Go.RowKit
/-- -1, 0 or 1: below, the same, above. -/
def ord (x y : Int) : Int := if x < y then -1 else if y < x then 1 else 0
theorem ord_lt {x y : Int} (h : x < y) : ord x y = -1 := if_pos h
theorem ord_gt {x y : Int} (h : y < x) : ord x y = 1 := by unfold ord; rw [if_neg (by omega), if_pos h]
theorem ord_same (x : Int) : ord x x = 0 := by unfold ord; rw [if_neg (by omega), if_neg (by omega)]
theorem ord_bd (x y : Int) : -1 ≤ ord x y ∧ ord x y ≤ 1 := by unfold ord; split <;> (try split) <;> omega
def orV (u v : Int) : Int := if u = 0 then v else u
theorem ord_hilo {X Y : Int} (hX : In128 X) (hY : In128 Y) : ord X Y = orV (ord (hi X) (hi Y)) (ord (lo X) (lo Y)) := by
  unfold orV
  have e1 := hilo hX; have e2 := hilo hY
  have h1 := lo_bd X; have h2 := lo_bd Y
  generalize hi X = p at *
  generalize lo X = q at *
  generalize hi Y = r at *
  generalize lo Y = s at *
  subst e1 e2
  unfold ord
  repeat (first | split | omega)
theorem nan_i (x : Int) (w : World) : Calls Try.prog 45 #[.int .i64 x] w fun e w' => e = .returned (.bool false) ∧ w = w' := by
  go_enter Try.func45, Try.ntmps45
  go_wp2
  go_ret
  exact ⟨rfl, rfl⟩
theorem nan_u (x : Int) (w : World) : Calls Try.prog 46 #[.int .u64 x] w fun e w' => e = .returned (.bool false) ∧ w = w' := by
  go_enter Try.func46, Try.ntmps46
  go_wp2
  go_ret
  exact ⟨rfl, rfl⟩
theorem cmp_i (x y : Int) (w : World) : Calls Try.prog 32 #[.int .i64 x, .int .i64 y] w fun e w' => e = .returned (.int .i64 (ord x y)) ∧ w = w' := by
  by_cases h : x < y
  · rw [ord_lt h]
    go_enter Try.func32, Try.ntmps32
    go_wp2_with (go_at_call 45; refine (nan_i _ _).mono ?_; rintro e w' ⟨rfl, rfl⟩)
    go_ret
    exact ⟨rfl, rfl⟩
  · by_cases h2 : y < x
    · rw [ord_gt h2]
      go_enter Try.func32, Try.ntmps32
      go_wp2_with (go_at_call 45; refine (nan_i _ _).mono ?_; rintro e w' ⟨rfl, rfl⟩)
      go_ret
      exact ⟨rfl, rfl⟩
    · obtain rfl : x = y := by omega
      rw [ord_same]
      go_enter Try.func32, Try.ntmps32
      go_wp2_with (go_at_call 45; refine (nan_i _ _).mono ?_; rintro e w' ⟨rfl, rfl⟩)
      go_ret
      exact ⟨rfl, rfl⟩
theorem cmp_u (x y : Int) (w : World) : Calls Try.prog 33 #[.int .u64 x, .int .u64 y] w fun e w' => e = .returned (.int .i64 (ord x y)) ∧ w = w' := by
  by_cases h : x < y
  · rw [ord_lt h]
    go_enter Try.func33, Try.ntmps33
    go_wp2_with (go_at_call 46; refine (nan_u _ _).mono ?_; rintro e w' ⟨rfl, rfl⟩)
    go_ret
    exact ⟨rfl, rfl⟩
  · by_cases h2 : y < x
    · rw [ord_gt h2]
      go_enter Try.func33, Try.ntmps33
      go_wp2_with (go_at_call 46; refine (nan_u _ _).mono ?_; rintro e w' ⟨rfl, rfl⟩)
      go_ret
      exact ⟨rfl, rfl⟩
    · obtain rfl : x = y := by omega
      rw [ord_same]
      go_enter Try.func33, Try.ntmps33
      go_wp2_with (go_at_call 46; refine (nan_u _ _).mono ?_; rintro e w' ⟨rfl, rfl⟩)
      go_ret
      exact ⟨rfl, rfl⟩
theorem or_any (u v : Int) (b : Nat) (w : World) (h0 : w.cell? ⟨b, 0, none⟩ = some (.int .i64 u)) (h1 : w.cell? ⟨b, 1, none⟩ = some (.int .i64 v)) :
    Calls Try.prog 31 #[.slice (some ⟨b, 0, none⟩) 2 2] w fun e w' => e = .returned (.int .i64 (orV u v)) ∧ w = w' := by
  by_cases hu : u = 0
  · rw [show orV u v = v from if_pos hu]
    subst hu
    by_cases hv : v = 0
    · subst hv
      go_enter Try.func31, Try.ntmps31
      go_wp2_with fail
      refine wp_loop_rounds 3 ?_
      rw [rounds_succ]
      go_wp2_with fail
      rw [rounds_succ]
      go_wp2_with fail
      rw [rounds_succ]
      go_wp2_with fail
      go_ret
      exact ⟨rfl, rfl⟩
    · go_enter Try.func31, Try.ntmps31
      go_wp2_with fail
      refine wp_loop_rounds 2 ?_
      rw [rounds_succ]
      go_wp2_with fail
      rw [rounds_succ]
      go_wp2_with fail
      go_ret
      exact ⟨rfl, rfl⟩
  · rw [show orV u v = u from if_neg hu]
    go_enter Try.func31, Try.ntmps31
    go_wp2_with fail
    refine wp_loop_rounds 1 ?_
    rw [rounds_succ]
    go_wp2_with fail
    go_ret
    exact ⟨rfl, rfl⟩
set_option maxHeartbeats 400000 in
theorem compare_any (X Y : Int) (hX : In128 X) (hY : In128 Y) (w : World) : Calls Try.prog 14 #[.agg #[.int .i64 (hi X), .int .u64 (lo X)], .agg #[.int .i64 (hi Y), .int .u64 (lo Y)]] w fun e w' => e = .returned (.int .i64 (ord X Y)) ∧ Below w.heap.size w w' := by
  rw [ord_hilo hX hY]
  have o1 := ord_bd (hi X) (hi Y)
  have o2 := ord_bd (lo X) (lo Y)
  obtain ⟨u, hu⟩ : ∃ u, u = ord (hi X) (hi Y) := ⟨_, rfl⟩
  obtain ⟨v, hv⟩ : ∃ v, v = ord (lo X) (lo Y) := ⟨_, rfl⟩
  rw [← hu, ← hv]
  rw [← hu] at o1
  rw [← hv] at o2
  have c1 := hide (cmp_i (hi X) (hi Y))
  have c2 := hide (cmp_u (lo X) (lo Y))
  rw [← hu] at c1
  rw [← hv] at c2
  generalize hi X = p at *
  generalize lo X = q at *
  generalize hi Y = r at *
  generalize lo Y = s at *
  clear hu hv
  go_enter Try.func14, Try.ntmps14
  go_wp2_with fail
  go_region_held3 (fun w' => w'.cell? ⟨w.heap.size, 0, none⟩ = some (.int .i64 p) ∧ w'.cell? ⟨w.heap.size, 1, none⟩ = some (.int .u64 q) ∧ w'.cell? ⟨w.heap.size + 1, 0, none⟩ = some (.int .i64 r) ∧ w'.cell? ⟨w.heap.size + 1, 1, none⟩ = some (.int .u64 s))
    (simp [go_sem, World.cell?_alloc_past])
    (first
      | (go_at_call 32; refine (unhide c1 _).mono ?_; rintro e w' ⟨rfl, rfl⟩)
      | (go_at_call 33; refine (unhide c2 _).mono ?_; rintro e w' ⟨rfl, rfl⟩)
      | (go_at_call 31; refine (or_any u v _ _ ?_ ?_).mono ?_; (simp [go_sem]); (simp [go_sem]); rintro e w' ⟨rfl, rfl⟩))
  go_wp2_with fail
  go_ret
  exact ⟨rfl, below_drew ((((Below.refl _ _).alloc (Nat.le_refl _) _).alloc (by simp) _).alloc (by simp <;> omega) _)⟩
end Go.Proofs.Ytaknjpddjofgeaa
