/- What wide's negatives, orders and narrow answer. -/
import Derived.Test.YtaknjpddjofgeaaWide2
import Derived.Deep.RegionHeld3
namespace Go.Proofs.Ytaknjpddjofgeaa
open Go.RowKit
set_option linter.unusedSimpArgs false
set_option maxHeartbeats 400000 in
theorem neg_any (X : Int) (hX : In128 X) (w : World) : Calls Try.prog 12 #[.agg #[.int .i64 (hi X), .int .u64 (lo X)]] w fun e w' => e = .returned (.tuple #[.agg #[.int .i64 (hi (okW (-X))), .int .u64 (lo (okW (-X)))], .int .i64 (okWE (-X))]) ∧ Below w.heap.size w w' := by
  have HT := hide (turn_any X hX)
  by_cases h : In128 (-X)
  · rw [okW_in h, okWE_in h]
    have hne : ¬ (hi X = -9223372036854775808 ∧ lo X = 0) := by
      rintro ⟨h1, h2⟩
      have := hilo hX
      have := h.hi
      omega
    generalize hi X = p at *
    generalize lo X = q at *
    generalize hi (-X) = p' at *
    generalize lo (-X) = q' at *
    by_cases hp : p = -9223372036854775808
    · have hq : ¬ q = 0 := fun hc => hne ⟨hp, hc⟩
      subst hp
      clear hne
      go_enter Try.func12, Try.ntmps12
      go_wp2_with fail
      refine (unhide HT _).mono ?_
      rintro e w1 ⟨rfl, hb⟩
      have HB := hide hb
      obtain ⟨hc, hf⟩ := bcell hb
      have hz : w.heap.size + 1 < w1.heap.size := by have := hb.size; simp at this; omega
      clear hb HT
      go_wp2_with fail
      refine bodyPost_ret (v := .tuple #[.agg #[.int .i64 p', .int .u64 q'], .int .i64 0]) (by simp [results, Try.results12, go_sem, hc, hf, hz]) rfl ⟨rfl, ?_⟩
      exact ((((((Below.refl w.heap.size w).alloc (Nat.le_refl _) _).alloc (by simp) _).trans ((unhide HB).mono (by simp <;> omega)))).setCell (by simp) _).setCell (by simp) _
    · clear hne
      go_enter Try.func12, Try.ntmps12
      go_wp2_with fail
      refine (unhide HT _).mono ?_
      rintro e w1 ⟨rfl, hb⟩
      have HB := hide hb
      obtain ⟨hc, hf⟩ := bcell hb
      have hz : w.heap.size + 1 < w1.heap.size := by have := hb.size; simp at this; omega
      clear hb HT
      go_wp2_with fail
      refine bodyPost_ret (v := .tuple #[.agg #[.int .i64 p', .int .u64 q'], .int .i64 0]) (by simp [results, Try.results12, go_sem, hc, hf, hz]) rfl ⟨rfl, ?_⟩
      exact ((((((Below.refl w.heap.size w).alloc (Nat.le_refl _) _).alloc (by simp) _).trans ((unhide HB).mono (by simp <;> omega)))).setCell (by simp) _).setCell (by simp) _
  · have hx : X = -170141183460469231731687303715884105728 := by
      have := hX.lo; have := hX.hi
      apply Classical.byContradiction
      intro hc
      exact h ⟨by omega, by omega⟩
    subst hx
    rw [okW_out h, okWE_out h, hi_zero, lo_zero, show hi (-170141183460469231731687303715884105728) = -9223372036854775808 from by unfold hi wrap64; omega, show lo (-170141183460469231731687303715884105728) = 0 from by unfold lo; omega]
    go_enter Try.func12, Try.ntmps12
    go_wp2_with fail
    refine bodyPost_ret (v := .tuple #[.agg #[.int .i64 0, .int .u64 0], .int .i64 3]) (by simp [results, Try.results12, go_sem]) rfl ⟨rfl, ((Below.refl _ _).alloc (Nat.le_refl _) _).alloc (by simp) _⟩
theorem narrow_eq {X : Int} (hX : In128 X) : (hi X = hi (wrap64 (lo X)) ∧ lo X = lo (wrap64 (lo X))) ↔ turn X = 0 := by
  have e := hilo hX
  have h1 := lo_bd X
  have h2 := hi_bd X
  constructor
  · rintro ⟨a, _⟩
    refine turn_in ?_
    generalize hi X = p at *
    generalize lo X = q at *
    unfold hi wrap64 at a
    constructor <;> omega
  · intro h
    have := in_of_turn h
    have b1 := this.lo; have b2 := this.hi
    have e2 : wrap64 (lo X) = X := by
      unfold lo wrap64
      omega
    rw [e2]
    exact ⟨rfl, rfl⟩
theorem kept {W w1 : World} (hb : Below W.heap.size W w1) {b o : Nat} {v : Value} (hlt : b < W.heap.size) (h : W.cell? ⟨b, o, none⟩ = some v) : w1.cell? ⟨b, o, none⟩ = some v := (hb.cell (p := ⟨b, o, none⟩) hlt).trans h
theorem below_drew {B : Nat} {a w : World} (h : Below B a w) : Below B a w.drew := h.trans ⟨rfl, rfl, rfl, Nat.le_refl _, fun _ _ => rfl⟩
theorem below_via {w W w1 : World} (h1 : Below w.heap.size w W) (h2 : Below W.heap.size W w1) : Below w.heap.size w w1 := h1.trans (h2.mono h1.size)
theorem narrow_any (X : Int) (hX : In128 X) (w : World) : Calls Try.prog 39 #[.agg #[.int .i64 (hi X), .int .u64 (lo X)]] w fun e w' => e = .returned (.tuple #[.int .i64 (okN X), .int .i64 (okE X)]) ∧ Below w.heap.size w w' := by
  have HN := hide (narrow_eq hX)
  obtain ⟨a1, a2⟩ := hi_bd X
  obtain ⟨b1, b2⟩ := lo_bd X
  have hof := hide (of_any (wrap64 (lo X)) (in64_wrap _))
  by_cases h : turn X = 0
  · rw [okN_in h, okE_in h]
    have e2 : wrap64 (lo X) = X := by
      have := in_of_turn h
      have b1 := this.lo; have b2 := this.hi
      unfold lo wrap64
      omega
    rw [e2] at hof
    go_enter Try.func39, Try.ntmps39
    go_wp2_with fail
    go_region_held3 (fun w' => w'.cell? ⟨w.heap.size, 0, none⟩ = some (.int .i64 (hi X)) ∧ w'.cell? ⟨w.heap.size, 1, none⟩ = some (.int .u64 (lo X)))
      (first
        | exact ⟨kept hb (by simp) (by simp [go_sem]), kept hb (by simp) (by simp [go_sem])⟩
        | (simp [go_sem, World.cell?_alloc_past]))
      ((go_at_call 18; refine (unhide hof _).mono ?_; rintro e w1 ⟨rfl, hb⟩))
    go_wp2_with fail
    go_ret2
    exact ⟨rfl, below_via (below_drew ((Below.refl _ _).alloc (Nat.le_refl _) _)) hb⟩
  · rw [okN_out h, okE_out h]
    have hne : ¬ (hi X = hi (wrap64 (lo X)) ∧ lo X = lo (wrap64 (lo X))) := fun hc => h ((unhide HN).1 hc)
    clear HN
    generalize hi (wrap64 (lo X)) = p' at *
    generalize lo (wrap64 (lo X)) = q' at *
    generalize hi X = p at *
    by_cases hp : p = p'
    · have hq : ¬ lo X = q' := fun hc => hne ⟨hp, hc⟩
      subst hp
      clear hne
      go_enter Try.func39, Try.ntmps39
      go_wp2_with fail
      go_region_held3 (fun w' => w'.cell? ⟨w.heap.size, 0, none⟩ = some (.int .i64 p) ∧ w'.cell? ⟨w.heap.size, 1, none⟩ = some (.int .u64 (lo X)))
        (first
          | exact ⟨kept hb (by simp) (by simp [go_sem]), kept hb (by simp) (by simp [go_sem])⟩
          | (simp [go_sem, World.cell?_alloc_past]))
        ((go_at_call 18; refine (unhide hof _).mono ?_; rintro e w1 ⟨rfl, hb⟩))
      go_wp2_with fail
      go_ret2
      exact ⟨rfl, below_via (below_drew ((Below.refl _ _).alloc (Nat.le_refl _) _)) hb⟩
    · clear hne
      go_enter Try.func39, Try.ntmps39
      go_wp2_with fail
      go_region_held3 (fun w' => w'.cell? ⟨w.heap.size, 0, none⟩ = some (.int .i64 p) ∧ w'.cell? ⟨w.heap.size, 1, none⟩ = some (.int .u64 (lo X)))
        (first
          | exact ⟨kept hb (by simp) (by simp [go_sem]), kept hb (by simp) (by simp [go_sem])⟩
          | (simp [go_sem, World.cell?_alloc_past]))
        ((go_at_call 18; refine (unhide hof _).mono ?_; rintro e w1 ⟨rfl, hb⟩))
      go_wp2_with fail
      go_ret2
      exact ⟨rfl, below_via (below_drew ((Below.refl _ _).alloc (Nat.le_refl _) _)) hb⟩
end Go.Proofs.Ytaknjpddjofgeaa
