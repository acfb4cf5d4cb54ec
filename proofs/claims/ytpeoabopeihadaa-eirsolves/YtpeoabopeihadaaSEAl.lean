/- The document's examples of layer 10 come out as the chapter says, lone. -/
import Derived.Test.YtpeoabopeihadaaSQK
set_option linter.unusedVariables false
set_option linter.unusedSimpArgs false
set_option linter.unusedSectionVars false
namespace Go.Proofs.Ytpeoabopeihadaa.Mn
open Go.RowKit
attribute [local simp] Tri.typeInfo Tri.sizeOf Tri.underlying Tri.runUnderlying Tri.isAgg Tri.zeroValue Tri.depth Tri.stoodInHeld Tri.eqGuardType Tri.call15 Tri.call14 Tri.call16 Tri.call17 Tri.call18 Tri.call19 Tri.call20 Tri.call46 Tri.call49 Tri.call50 Tri.call51 Tri.call52 Tri.call53 Tri.call54 Tri.call55 Tri.call65 Tri.call95 Tri.call106 Tri.call107 Tri.call108 Tri.call109 Tri.call116 Tri.call117 Tri.call118 Tri.call119 Tri.call120 Tri.call122 Tri.call135 Tri.call136 Tri.call137 Tri.call143 Tri.call144 Tri.call145 Tri.call146 Tri.call147 Tri.call149 Tri.call150 Tri.call151 Tri.call152 Tri.call156 Tri.call157 Tri.call159 Tri.call160 Tri.call161 Tri.call162 Tri.call163 Tri.call164 Tri.call165 Tri.call166 Tri.call167 Tri.call175 Tri.call176 Tri.call178 Tri.call179 Tri.call180 Tri.call181 Tri.call182 Tri.call183 Tri.call186 Tri.call187 Tri.call188 Tri.call204 Tri.call205
theorem row_one (w : World) (z : Int) (hz : In64 z) : Row (w.alloc (.cells #[.int .i64 z] 2)) (.slice (some ⟨w.heap.size, 0, none⟩) 1 1) [z] := by
  refine Or.inr ⟨w.heap.size, 0, 1, rfl, by simp, by unfold maxLen; simp, fun j hj => ?_, fun y hy => by simp at hy; subst hy; exact hz⟩
  have : j = 0 := by simp at hj; omega
  subst this
  rw [World.cell?_alloc_at _ _ _ _ rfl]
  simp
theorem below1 (w : World) (o : Obj) : Below w.heap.size w (w.alloc o) := (Below.refl _ _).alloc (Nat.le_refl _) _
theorem so1 : maySo 100 [105] = true := by decide +kernel
theorem so2 : maySo 1000 [1] = true := by decide +kernel
theorem cv1 : cov 100 [105] (-990000000000) = true ∧ cov 100 [105] 40000000001 = true ∧ cov 100 [105] 60000000000 = false ∧ cov 100 [105] 10000000000000 = false := by decide +kernel
theorem cv2 : cov 1000 [1] (-990000000000) = false := by decide +kernel
theorem pos1 : ∀ x ∈ ([105] : List Int), 0 ≤ x := by decide
theorem eg1 {r e : Int} (h : Eir 100 [105] r e) : e = 0 ∧ 40000000000 < r ∧ r < 60000000000 ∧ IsEir 100 [105] r := by
  rcases h with ⟨h, _⟩ | ⟨_, ⟨h, _⟩ | ⟨h, rfl⟩⟩
  · rw [so1] at h; cases h
  · rcases h with h | h
    · rw [cv1.1] at h; cases h
    · rw [cv1.2.2.2] at h; cases h
  · refine ⟨rfl, ?_, ?_, h⟩
    · refine Classical.byContradiction fun hn => ?_
      have a := h.lo
      have := cov_rate (r := r + 1) (s := 40000000001) ⟨by omega, by omega⟩ ⟨by omega, by omega⟩ (by omega) pos1 cv1.2.1
      rw [h.no] at this
      cases this
    · refine Classical.byContradiction fun hn => ?_
      have a := h.hi
      have := cov_rate (r := 60000000000) (s := r) ⟨by omega, by omega⟩ ⟨by omega, by omega⟩ (by omega) pos1 h.yes
      rw [cv1.2.2.1] at this
      cases this
theorem eg2 {r e : Int} (h : Eir 1000 [1] r e) : r = 0 ∧ e = 13 := by
  rcases h with ⟨h, _⟩ | ⟨_, ⟨_, h⟩ | ⟨h, _⟩⟩
  · rw [so2] at h; cases h
  · exact h
  · have := (eir_none (by decide) h).1
    rw [cv2] at this
    cases this
theorem eirB_of {out : Int} {l : List Int} {r : Int} (hm : maySo out l = true) (h : IsEir out l r) : eirB out l r = true := by
  have a := h.lo
  have b := h.hi
  have hs := maySo_yes hm
  unfold eirB
  rw [hm, mayB_yes ⟨by omega, by omega⟩, decide_eq_true (show r ≠ 10000000000000 by omega), covB_cov hs ⟨by omega, by omega⟩, covB_cov hs ⟨by omega, by omega⟩, h.yes, h.no]
  rfl
def Alive : Prop := ∀ w : World, Calls (Tri Try.prog) 14 #[] w fun e w' => e = .returned (.bool true) ∧ Below w.heap.size w w'
theorem sol_one (w : World) (out z : Int) (ho : In64 out) (hz : In64 z) : Calls (Tri Try.prog) 15 #[.int .i64 out, .slice (some ⟨w.heap.size, 0, none⟩) 1 1] (w.alloc (.cells #[.int .i64 z] 2)) fun v w' => ∃ r e, Eir out [z] r e ∧ v = .returned (.tuple #[.int .i64 r, .int .i64 e]) ∧ Below w.heap.size w w' := by
  have h := s9_any ho (row_one w z hz)
  unfold SolA9 at h
  exact h.mono fun e w' ⟨r, f, h1, h2, h3⟩ => ⟨r, f, h1, h2, below_via (below1 w _) h3⟩
theorem fit_one (w : World) (r : Int) (hr : In64 r) (h : IsEir 100 [105] r) : Calls (Tri Try.prog) 17 #[.int .i64 100, .slice (some ⟨w.heap.size, 0, none⟩) 1 1, .int .i64 r] (w.alloc (.cells #[.int .i64 105] 2)) fun v w' => v = .returned (.bool true) ∧ Below w.heap.size w w' := by
  have k := eirfits_any (out := 100) r hr (row_one w 105 ⟨by omega, by omega⟩)
  rw [eirB_of so1 h] at k
  unfold CovA at k
  exact k.mono fun e w' ⟨h1, h2⟩ => ⟨h1, below_via (below1 w _) h2⟩
theorem alive_any : Alive := by
  intro w
  have H1 := hide (fun w => sol_one w 100 105 ⟨by omega, by omega⟩ ⟨by omega, by omega⟩)
  have H2 := hide (fun w => sol_one w 1000 1 ⟨by omega, by omega⟩ ⟨by omega, by omega⟩)
  go_enter (Tri.at (by decide) Try.func14), Try.ntmps14
  go_wp2_with fail
  refine (unhide H1 _).mono ?_
  rintro e w1 ⟨r, f, he, rfl, hb⟩
  obtain ⟨rfl, r1, r2, hr⟩ := eg1 he
  have HB := hide hb
  have HF := hide (fun w => fit_one w r ⟨by omega, by omega⟩ hr)
  clear hb he hr H1
  have b1 : decide (40000000000 < r) = true := decide_eq_true r1
  have b2 : decide (r < 60000000000) = true := decide_eq_true r2
  go_wp2_with fail
  refine (unhide H2 _).mono ?_
  rintro e w2 ⟨s, f, he, rfl, hb⟩
  obtain ⟨rfl, rfl⟩ := eg2 he
  replace HB := hide (below_via (unhide HB) hb)
  clear hb he H2
  go_wp2_with fail
  refine (unhide HF _).mono ?_
  rintro e w3 ⟨rfl, hb⟩
  replace HB := hide (below_via (unhide HB) hb)
  clear hb
  go_wp2_with fail
  go_ret
  exact ⟨rfl, unhide HB⟩
end Go.Proofs.Ytpeoabopeihadaa.Mn
