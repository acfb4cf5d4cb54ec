/- The document's example of layer 11 comes out as the chapter says. -/
import Derived.Test.YtpeoabopeihadaaWTPlug
set_option linter.unusedVariables false
set_option linter.unusedSimpArgs false
set_option linter.unusedSectionVars false
namespace Go.Proofs.Ytpeoabopeihadaa.Mn
open Go.RowKit
attribute [local simp] Tri.typeInfo Tri.sizeOf Tri.underlying Tri.runUnderlying Tri.isAgg Tri.zeroValue Tri.depth Tri.stoodInHeld Tri.eqGuardType Tri.call15 Tri.call22 Tri.call23 Tri.call24 Tri.call25 Tri.call46 Tri.call49 Tri.call52 Tri.call54 Tri.call58 Tri.call59 Tri.call60 Tri.call61 Tri.call62 Tri.call63 Tri.call64 Tri.call65 Tri.call66 Tri.call67 Tri.call95 Tri.call106 Tri.call115 Tri.call116 Tri.call117 Tri.call118 Tri.call119 Tri.call120 Tri.call121 Tri.call122 Tri.call142 Tri.call143 Tri.call144 Tri.call145 Tri.call146 Tri.call147 Tri.call156 Tri.call157 Tri.call159 Tri.call160 Tri.call161 Tri.call162 Tri.call163 Tri.call164 Tri.call165 Tri.call175 Tri.call176 Tri.call186 Tri.call188 Tri.call205
theorem al_ok : RollOk 1000 [500, 605] 100000000000 := ⟨by decide, by decide, ⟨by decide, by decide⟩, by decide, by decide, by intro p hp; simp at hp; rcases hp with rfl | rfl <;> decide⟩
theorem al_rows : rowsUp 1000 100000000000 [500, 605] 2 = [[1000, 100, 500, 600], [600, 5, 605, 0]] := by decide +kernel
theorem al_over : ∀ j, j < 2 → ¬ over 1000 100000000000 [500, 605] j := by
  intro j hj
  have h : [rowAt 1000 100000000000 [500, 605] 0, rowAt 1000 100000000000 [500, 605] 1] = [[1000, 100, 500, 600], [600, 5, 605, 0]] := al_rows
  unfold rowAt at h
  simp only [List.cons.injEq, and_true] at h
  obtain ⟨⟨_, h1, _, h2⟩, _, h3, _, h4⟩ := h
  match j, hj with
  | 0, _ =>
    rintro (c | c)
    · rw [h1] at c; exact c ⟨by omega, by omega⟩
    · rw [h2] at c; unfold far at c; omega
  | 1, _ =>
    rintro (c | c)
    · rw [h3] at c; exact c ⟨by omega, by omega⟩
    · rw [h4] at c; unfold far at c; omega
theorem al_res : Res 1000 [500, 605] 100000000000 [[1000, 100, 500, 600], [600, 5, 605, 0]] 0 := Or.inr ⟨al_ok, Or.inl ⟨rfl, al_rows.symm, al_over⟩⟩
theorem al_plug : plugN [[1000, 100, 500, 600], [600, 5, 605, 0]] 100000000000 = -55 ∧ plugE [[1000, 100, 500, 600], [600, 5, 605, 0]] 100000000000 = 0 := by decide +kernel
theorem lit2 (w : World) : Row (w.alloc (.cells #[.int .i64 500, .int .i64 605] 2)) (.slice (some ⟨w.heap.size, 0, none⟩) 2 2) [500, 605] := by
  refine Or.inr ⟨w.heap.size, 0, 2, rfl, by decide, by unfold maxLen; decide, fun j hj => ?_, fun z hz => ?_⟩
  · rw [World.cell?_alloc_at _ _ _ _ rfl]
    match j, hj with
    | 0, _ => rfl
    | 1, _ => rfl
  · simp at hz
    rcases hz with rfl | rfl <;> exact ⟨by omega, by omega⟩
theorem lit8 (w : World) : RowN 4 (w.alloc (.cells #[.int .i64 1000, .int .i64 100, .int .i64 500, .int .i64 600, .int .i64 600, .int .i64 5, .int .i64 605, .int .i64 0] 100)) (.slice (some ⟨w.heap.size, 0, none⟩) 2 2) [[1000, 100, 500, 600], [600, 5, 605, 0]] := by
  refine Or.inr ⟨w.heap.size, 0, 2, rfl, by decide, by decide, by unfold maxLen; decide, fun j hj t ht => ?_, fun f hf => ?_⟩
  · rw [World.cell?_alloc_at _ _ _ _ rfl]
    match j, hj with
    | 0, _ =>
      match t, ht with
      | 0, _ => rfl
      | 1, _ => rfl
      | 2, _ => rfl
      | 3, _ => rfl
    | 1, _ =>
      match t, ht with
      | 0, _ => rfl
      | 1, _ => rfl
      | 2, _ => rfl
      | 3, _ => rfl
  · simp at hf
    rcases hf with rfl | rfl
    · refine ⟨rfl, fun y hy => ?_⟩
      simp at hy
      rcases hy with rfl | rfl | rfl | rfl <;> exact ⟨by omega, by omega⟩
    · refine ⟨rfl, fun y hy => ?_⟩
      simp at hy
      rcases hy with rfl | rfl | rfl | rfl <;> exact ⟨by omega, by omega⟩
def Alive : Prop := ∀ w : World, Calls (Tri Try.prog) 22 #[] w fun e w' => e = .returned (.bool true) ∧ Below w.heap.size w w'
set_option maxHeartbeats 1000000 in
theorem talive_any : Alive := by
  intro w
  have H1 := hide (roll_any (lit2 w) al_res)
  unfold RollA at H1
  have HB := hide (below1 w (.cells #[.int .i64 500, .int .i64 605] 2))
  go_enter (Tri.at (by decide) Try.func22), Try.ntmps22
  go_wp2_with fail
  refine (unhide H1).mono ?_
  rintro e w1 ⟨u, rfl, hu, hb⟩
  replace HB := hide (below_via (unhide HB) hb)
  have HU := hide hu
  have HP := hide (plug_any 100000000000 hu (by decide))
  rw [al_plug.1, al_plug.2] at HP
  unfold PlugA at HP
  clear hb hu
  go_wp2_with fail
  refine (unhide HP).mono ?_
  rintro e w2 ⟨rfl, hb⟩
  replace HB := hide (below_via (unhide HB) hb)
  replace HU := hide ((unhide HU).keep hb)
  have HF := hide (tfrom_any u _ _ (unhide HU) (by decide))
  have t0 : ((0 : Int) == 0) = true := rfl
  have t1 : ((-55 : Int) == -55) = true := rfl
  clear hb
  go_wp2_with fail
  refine (unhide HF).mono ?_
  rintro e w3 ⟨u3, rfl, hg⟩
  replace HB := hide (below_via (unhide HB) hg.below)
  have HG := hide (hg.row.alloc (.cells #[.int .i64 1000, .int .i64 100, .int .i64 500, .int .i64 600, .int .i64 600, .int .i64 5, .int .i64 605, .int .i64 0] 100))
  have HS := hide (tsame_any u3 _ _ _ (by decide) (unhide HG) (lit8 w3))
  replace HB := hide (below_via (unhide HB) (below1 w3 (.cells #[.int .i64 1000, .int .i64 100, .int .i64 500, .int .i64 600, .int .i64 600, .int .i64 5, .int .i64 605, .int .i64 0] 100)))
  clear hg
  go_wp2_with fail
  refine (unhide HS).mono ?_
  rintro e w4 ⟨rfl, m, rfl⟩
  replace HB := hide (below_drewN (unhide HB) m)
  go_wp2_with fail
  go_ret
  exact ⟨rfl, unhide HB⟩
end Go.Proofs.Ytpeoabopeihadaa.Mn
