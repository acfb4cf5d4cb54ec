/- The document's examples of layer 9 come out as the chapter says. -/
import Derived.Test.YtpncdjejngkpgaaVWor
namespace Go.Proofs.Ytpncdjejngkpgaa.Mn
open Go.RowKit
set_option linter.unusedSimpArgs false
theorem row_lit (w : World) (zs : List Int) (hm : zs.length ≤ 1000) (h0 : 0 < zs.length) (hin : ∀ z ∈ zs, In64 z) : Row (w.alloc (.cells (zs.map (Value.int .i64)).toArray 2)) (.slice (some ⟨w.heap.size, 0, none⟩) zs.length zs.length) zs := by
  refine Or.inr ⟨w.heap.size, 0, zs.length, rfl, by omega, by unfold maxLen; omega, fun j hj => ?_, hin⟩
  rw [World.cell?_alloc_at _ _ _ _ rfl]
  simp [List.getD, hj]
theorem lit1 (w : World) : Row (w.alloc (.cells #[.int .i64 105] 2)) (.slice (some ⟨w.heap.size, 0, none⟩) 1 1) [105] := row_lit w [105] (by decide) (by decide) (by intro z hz; simp at hz; subst hz; exact ⟨by omega, by omega⟩)
theorem lit2 (w : World) : Row (w.alloc (.cells #[.int .i64 10, .int .i64 110] 2)) (.slice (some ⟨w.heap.size, 0, none⟩) 2 2) [10, 110] := row_lit w [10, 110] (by decide) (by decide) (by intro z hz; simp at hz; rcases hz with rfl | rfl <;> exact ⟨by omega, by omega⟩)
theorem lit3 (w : World) : Row (w.alloc (.cells #[.int .i64 100, .int .i64 100, .int .i64 0] 2)) (.slice (some ⟨w.heap.size, 0, none⟩) 3 3) [100, 100, 0] := row_lit w [100, 100, 0] (by decide) (by decide) (by intro z hz; simp at hz; rcases hz with rfl | rfl <;> exact ⟨by omega, by omega⟩)
theorem below1 (w : World) (o : Obj) : Below w.heap.size w (w.alloc o) := (Below.refl _ _).alloc (Nat.le_refl _) _
theorem below_drewN {B : Nat} {a w : World} (h : Below B a w) (n : Nat) : Below B a (w.drewN n) := h.trans ⟨rfl, rfl, rfl, Nat.le_refl _, fun _ _ => rfl⟩
theorem al_of : valE 1 [105] 50000000000 = 0 ∧ valN 1 [105] 50000000000 = 100 := by decide +kernel
theorem al_all : valE 1 [10, 110] 100000000000 = 0 ∧ valL 1 [10, 110] 100000000000 = [100, 100, 0] := by decide +kernel
theorem of_eg (w : World) : Calls Try.prog 11 #[.slice (some ⟨w.heap.size, 0, none⟩) 1 1, .int .i64 50000000000] (w.alloc (.cells #[.int .i64 105] 2)) fun z w' => z = .returned (.tuple #[.int .i64 100, .int .i64 0]) ∧ Below w.heap.size w w' := by
  have h := of_any 50000000000 (lit1 w)
  rw [al_of.1, al_of.2] at h
  exact h.mono fun e w' h => ⟨h.1, below_via (below1 w _) h.2⟩
theorem all_eg (w : World) : Calls Try.prog 9 #[.slice (some ⟨w.heap.size, 0, none⟩) 2 2, .int .i64 100000000000] (w.alloc (.cells #[.int .i64 10, .int .i64 110] 2)) fun z w' => ∃ v, z = .returned (.tuple #[v, .int .i64 0]) ∧ Row w' v [100, 100, 0] ∧ Below w.heap.size w w' := by
  have h := all_any 100000000000 (lit2 w)
  unfold WorPost at h
  rw [al_all.1, al_all.2] at h
  exact h.mono fun e w' ⟨v, h1, h2, h3⟩ => ⟨v, h1, h2, below_via (below1 w _) h3⟩
theorem same_eg {w : World} {v : Value} (h : Row w v [100, 100, 0]) : Calls Try.prog 13 #[v, .slice (some ⟨w.heap.size, 0, none⟩) 3 3] (w.alloc (.cells #[.int .i64 100, .int .i64 100, .int .i64 0] 2)) fun z w' => z = .returned (.bool true) ∧ Below w.heap.size w w' := by
  have h1 := same_any _ _ _ _ _ (h.alloc (.cells #[.int .i64 100, .int .i64 100, .int .i64 0] 2)) (lit3 w)
  rw [sameB_refl] at h1
  refine h1.mono fun e w' ⟨h1, n, h2⟩ => ⟨h1, ?_⟩
  subst h2
  exact below_drewN (below1 w _) n
def Alive : Prop := ∀ w : World, Calls Try.prog 8 #[] w fun e w' => e = .returned (.bool true) ∧ Below w.heap.size w w'
theorem alive_any : Alive := by
  intro w
  have H1 := hide of_eg
  have H2 := hide all_eg
  have H3 : Hid (∀ (w : World) (v : Value), Row w v [100, 100, 0] → _) := hide (fun w v h => same_eg (w := w) (v := v) h)
  go_enter Try.func8, Try.ntmps8
  go_wp2_with fail
  refine (unhide H1 _).mono ?_
  rintro e w1 ⟨rfl, hb⟩
  have HB := hide hb
  clear hb
  go_wp2_with fail
  refine (unhide H2 _).mono ?_
  rintro e w2 ⟨v, rfl, hr, hb⟩
  replace HB := hide (below_via (unhide HB) hb)
  have HR := hide hr
  clear hb hr
  go_wp2_with fail
  refine (unhide H3 _ _ (unhide HR)).mono ?_
  rintro e w3 ⟨rfl, hb⟩
  replace HB := hide (below_via (unhide HB) hb)
  clear hb
  go_wp2_with fail
  go_ret
  exact ⟨rfl, unhide HB⟩
end Go.Proofs.Ytpncdjejngkpgaa.Mn
