/- What wide's negatives, orders and narrow answer. -/
import Derived.Test.YtmepmmhhiphfiaaWide2
import Derived.Deep.RegionHeld3
namespace Go.Proofs.Ytmepmmhhiphfiaa
open Go.RowKit
set_option linter.unusedSimpArgs false
set_option maxHeartbeats 400000 in
theorem narrow_eq {X : Int} (hX : In128 X) : (hi X = hi (wrap64 (lo X)) ∧ lo X = lo (wrap64 (lo X))) ↔ turn X = 0 := by
  have e := hilo hX
  have h1 := lo_bd X
  have h2 := hi_bd X
  constructor
  · rintro ⟨a, _⟩
    refine turn_in ?_
    generalize hi X = p at *
    generalize lo X = q at *
    unfold hi wrap64 at a
    constructor <;> omega
  · intro h
    have := in_of_turn h
    have b1 := this.lo; have b2 := this.hi
    have e2 : wrap64 (lo X) = X := by
      unfold lo wrap64
      omega
    rw [e2]
    exact ⟨rfl, rfl⟩
theorem kept {W w1 : World} (hb : Below W.heap.size W w1) {b o : Nat} {v : Value} (hlt : b < W.heap.size) (h : W.cell? ⟨b, o, none⟩ = some v) : w1.cell? ⟨b, o, none⟩ = some v := (hb.cell (p := ⟨b, o, none⟩) hlt).trans h
theorem below_drew {B : Nat} {a w : World} (h : Below B a w) : Below B a w.drew := h.trans ⟨rfl, rfl, rfl, Nat.le_refl _, fun _ _ => rfl⟩
theorem below_via {w W w1 : World} (h1 : Below w.heap.size w W) (h2 : Below W.heap.size W w1) : Below w.heap.size w w1 := h1.trans (h2.mono h1.size)
theorem narrow_any (X : Int) (hX : In128 X) (w : World) : Calls Try.prog 46 #[.agg #[.int .i64 (hi X), .int .u64 (lo X)]] w fun e w' => e = .returned (.tuple #[.int .i64 (okN X), .int .i64 (okE X)]) ∧ Below w.heap.size w w' := by
  have HN := hide (narrow_eq hX)
  obtain ⟨a1, a2⟩ := hi_bd X
  obtain ⟨b1, b2⟩ := lo_bd X
  have hof := hide (of_any (wrap64 (lo X)) (in64_wrap _))
  by_cases h : turn X = 0
  · rw [okN_in h, okE_in h]
    have e2 : wrap64 (lo X) = X := by
      have := in_of_turn h
      have b1 := this.lo; have b2 := this.hi
      unfold lo wrap64
      omega
    rw [e2] at hof
    go_enter Try.func46, Try.ntmps46
    go_wp2_with fail
    go_region_held3 (fun w' => w'.cell? ⟨w.heap.size, 0, none⟩ = some (.int .i64 (hi X)) ∧ w'.cell? ⟨w.heap.size, 1, none⟩ = some (.int .u64 (lo X)))
      (first
        | exact ⟨kept hb (by simp) (by simp [go_sem]), kept hb (by simp) (by simp [go_sem])⟩
        | (simp [go_sem, World.cell?_alloc_past]))
      ((go_at_call 45; refine (unhide hof _).mono ?_; rintro e w1 ⟨rfl, hb⟩))
    go_wp2_with fail
    go_ret2
    exact ⟨rfl, below_via (below_drew ((Below.refl _ _).alloc (Nat.le_refl _) _)) hb⟩
  · rw [okN_out h, okE_out h]
    have hne : ¬ (hi X = hi (wrap64 (lo X)) ∧ lo X = lo (wrap64 (lo X))) := fun hc => h ((unhide HN).1 hc)
    clear HN
    generalize hi (wrap64 (lo X)) = p' at *
    generalize lo (wrap64 (lo X)) = q' at *
    generalize hi X = p at *
    by_cases hp : p = p'
    · have hq : ¬ lo X = q' := fun hc => hne ⟨hp, hc⟩
      subst hp
      clear hne
      go_enter Try.func46, Try.ntmps46
      go_wp2_with fail
      go_region_held3 (fun w' => w'.cell? ⟨w.heap.size, 0, none⟩ = some (.int .i64 p) ∧ w'.cell? ⟨w.heap.size, 1, none⟩ = some (.int .u64 (lo X)))
        (first
          | exact ⟨kept hb (by simp) (by simp [go_sem]), kept hb (by simp) (by simp [go_sem])⟩
          | (simp [go_sem, World.cell?_alloc_past]))
        ((go_at_call 45; refine (unhide hof _).mono ?_; rintro e w1 ⟨rfl, hb⟩))
      go_wp2_with fail
      go_ret2
      exact ⟨rfl, below_via (below_drew ((Below.refl _ _).alloc (Nat.le_refl _) _)) hb⟩
    · clear hne
      go_enter Try.func46, Try.ntmps46
      go_wp2_with fail
      go_region_held3 (fun w' => w'.cell? ⟨w.heap.size, 0, none⟩ = some (.int .i64 p) ∧ w'.cell? ⟨w.heap.size, 1, none⟩ = some (.int .u64 (lo X)))
        (first
          | exact ⟨kept hb (by simp) (by simp [go_sem]), kept hb (by simp) (by simp [go_sem])⟩
          | (simp [go_sem, World.cell?_alloc_past]))
        ((go_at_call 45; refine (unhide hof _).mono ?_; rintro e w1 ⟨rfl, hb⟩))
      go_wp2_with fail
      go_ret2
      exact ⟨rfl, below_via (below_drew ((Below.refl _ _).alloc (Nat.le_refl _) _)) hb⟩
end Go.Proofs.Ytmepmmhhiphfiaa
