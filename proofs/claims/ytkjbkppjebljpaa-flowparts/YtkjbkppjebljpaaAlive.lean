/- The document's examples of layer 7 come out as the chapter says. -/
import Derived.Test.YtkjbkppjebljpaaMer
import Derived.Test.YtkjbkppjebljpaaSpr
import Derived.Test.YtkjbkppjebljpaaFSame
namespace Go.Proofs.Ytkjbkppjebljpaa
open Go.RowKit
set_option linter.unusedSimpArgs false
theorem rowF_len {w : World} {a : Option Addr} {n c : Nat} {l : List (Int × Int)} (h : RowF w (.slice a n c) l) : n = l.length := by
  obtain ⟨a', c', e⟩ := rowF_slice h
  cases e
  rfl
theorem rowF_lit (w : World) (E : TypeId) (l : List (Int × Int)) (cs : Array Value) (hcs : cs.toList = flat l) (h0 : 0 < l.length) (hm : l.length ≤ 1000) (hs : ∀ f ∈ l, In64 f.1 ∧ In64 f.2) : RowF (w.alloc (.cells cs E)) (.slice (some ⟨w.heap.size, 0, none⟩) l.length l.length) l := by
  refine Or.inr ⟨w.heap.size, 0, l.length, rfl, h0, Nat.le_refl _, by unfold maxLen; omega, fun j hj => ?_, hs⟩
  have e := flat_at l j hj
  rw [← hcs] at e
  rw [Nat.zero_add, World.cell?_alloc_at _ _ _ _ rfl, World.cell?_alloc_at _ _ _ _ rfl]
  simp only [Array.getElem?_toList] at e
  exact e
theorem row_lit (w : World) (E : TypeId) (zs : List Int) (hm : zs.length ≤ 1000) (h0 : 0 < zs.length) (hin : ∀ z ∈ zs, In64 z) : Row (w.alloc (.cells (zs.map (Value.int .i64)).toArray E)) (.slice (some ⟨w.heap.size, 0, none⟩) zs.length zs.length) zs := by
  refine Or.inr ⟨w.heap.size, 0, zs.length, rfl, by omega, by unfold maxLen; omega, fun j hj => ?_, hin⟩
  rw [World.cell?_alloc_at _ _ _ _ rfl]
  simp [List.getD, hj]
def Alive : Prop := ∀ w : World, Calls Try.prog 8 #[] w fun e w' => e = .returned (.bool true) ∧ Below w.heap.size w w'
def al1 : List (Int × Int) := [(3, 5)]
def al2 : List (Int × Int) := [(3, 2), (4, 1)]
def al3 : List (Int × Int) := [(3, 7), (4, 1)]
theorem al_m : mE al1 al2 = 0 ∧ mL al1 al2 = al3 := by decide +kernel
theorem al_s : sE al3 [3, 10] = 0 ∧ sL al3 [3, 10] = [7, 1] := by decide +kernel
set_option maxHeartbeats 1000000 in
theorem alive_any : Alive := by
  intro w
  have i64 : ∀ z : Int, 0 ≤ z → z ≤ 100 → In64 z := fun z h1 h2 => ⟨by omega, by omega⟩
  have H1 : Hid (RowF (w.alloc (.cells #[.int .i64 3, .int .i64 5] 39)) (.slice (some ⟨w.heap.size, 0, none⟩) 1 1) al1) := hide (rowF_lit w 39 al1 _ rfl (by decide) (by decide) (by intro f hf; simp [al1] at hf; subst hf; exact ⟨i64 _ (by decide) (by decide), i64 _ (by decide) (by decide)⟩))
  have H2 : Hid (∀ w : World, RowF (w.alloc (.cells #[.int .i64 3, .int .i64 2, .int .i64 4, .int .i64 1] 39)) (.slice (some ⟨w.heap.size, 0, none⟩) 2 2) al2) := hide (fun w => rowF_lit w 39 al2 _ rfl (by decide) (by decide) (by intro f hf; simp [al2] at hf; rcases hf with rfl | rfl <;> exact ⟨i64 _ (by decide) (by decide), i64 _ (by decide) (by decide)⟩))
  have H3 : Hid (∀ w : World, RowF (w.alloc (.cells #[.int .i64 3, .int .i64 7, .int .i64 4, .int .i64 1] 40)) (.slice (some ⟨w.heap.size, 0, none⟩) 2 2) al3) := hide (fun w => rowF_lit w 40 al3 _ rfl (by decide) (by decide) (by intro f hf; simp [al3] at hf; rcases hf with rfl | rfl <;> exact ⟨i64 _ (by decide) (by decide), i64 _ (by decide) (by decide)⟩))
  have H4 : Hid (∀ w : World, Row (w.alloc (.cells #[.int .i64 3, .int .i64 10] 3)) (.slice (some ⟨w.heap.size, 0, none⟩) 2 2) [3, 10]) := hide (fun w => row_lit w 3 [3, 10] (by decide) (by decide) (by intro f hf; simp at hf; rcases hf with rfl | rfl <;> exact i64 _ (by decide) (by decide)))
  have H5 : Hid (∀ w : World, Row (w.alloc (.cells #[.int .i64 7, .int .i64 1] 2)) (.slice (some ⟨w.heap.size, 0, none⟩) 2 2) [7, 1]) := hide (fun w => row_lit w 2 [7, 1] (by decide) (by decide) (by intro f hf; simp at hf; rcases hf with rfl | rfl <;> exact i64 _ (by decide) (by decide)))
  clear i64
  have HB := hide (((Below.refl w.heap.size w).alloc (Nat.le_refl _) (.cells #[.int .i64 3, .int .i64 5] 39)).alloc (by simp) (.cells #[.int .i64 3, .int .i64 2, .int .i64 4, .int .i64 1] 39))
  have HM : Hid (MergeA 10 (.slice (some ⟨w.heap.size, 0, none⟩) 1 1) (.slice (some ⟨w.heap.size + 1, 0, none⟩) 2 2) al1 al2 ((w.alloc (.cells #[.int .i64 3, .int .i64 5] 39)).alloc (.cells #[.int .i64 3, .int .i64 2, .int .i64 4, .int .i64 1] 39))) := hide (merge_all _ _ _ _ _ ((unhide H1).alloc _) (by have := unhide H2 (w.alloc (.cells #[.int .i64 3, .int .i64 5] 39)); simpa using this))
  unfold MergeA at HM
  rw [al_m.1, al_m.2] at HM
  go_enter Try.func8, Try.ntmps8
  go_wp2_with (simp only [build39])
  refine (unhide HM).mono ?_
  rintro e w1 ⟨x, rfl, r1, b1⟩
  obtain ⟨xa, xc, rfl⟩ := rowF_slice r1
  replace HB := hide ((unhide HB).trans (b1.mono (by simp; omega)))
  have HR := hide r1
  clear r1 b1 H1 H2 HM
  have HSp : Hid (SpreadA 20 (.slice xa al3.length xc) (.slice (some ⟨w1.heap.size, 0, none⟩) 2 2) al3 [3, 10] (w1.alloc (.cells #[.int .i64 3, .int .i64 10] 3))) := hide (spread_all _ _ _ _ _ ((unhide HR).alloc _) (unhide H4 w1))
  unfold SpreadA at HSp
  rw [al_s.1, al_s.2] at HSp
  replace HR := hide ((unhide HR).alloc (.cells #[.int .i64 3, .int .i64 10] 3))
  replace HB := hide ((unhide HB).alloc (unhide HB).size (.cells #[.int .i64 3, .int .i64 10] 3))
  change Hid (RowF _ (.slice xa 2 xc) al3) at HR
  go_wp2_with fail
  refine (unhide HSp).mono ?_
  rintro e w2 ⟨y, rfl, r2, b2⟩
  obtain ⟨ya, yc, rfl⟩ := row_slice r2
  replace HR := hide ((unhide HR).keep b2)
  replace HB := hide (below_via (unhide HB) b2)
  have HY := hide r2
  clear r2 b2 HSp H4
  change Hid (Row _ (.slice ya 2 yc) _) at HY
  go_wp2_with fail
  refine (from_any _ al3 w2 (unhide HR) (by decide)).mono ?_
  rintro e w3 ⟨z, rfl, g3⟩
  replace HY := hide ((unhide HY).below g3.below (Nat.le_refl _))
  replace HB := hide (below_via (unhide HB) g3.below)
  have HZ := hide g3.row
  clear g3 HR
  have HF := hide (fsame_any _ _ al3 al3 (w3.alloc (.cells #[.int .i64 3, .int .i64 7, .int .i64 4, .int .i64 1] 40)) ((unhide HZ).alloc _) (unhide H3 w3))
  rw [sameF_refl] at HF
  replace HY := hide ((unhide HY).alloc (.cells #[.int .i64 3, .int .i64 7, .int .i64 4, .int .i64 1] 40))
  replace HB := hide ((unhide HB).alloc (unhide HB).size (.cells #[.int .i64 3, .int .i64 7, .int .i64 4, .int .i64 1] 40))
  go_wp2_with (simp only [build40])
  refine (unhide HF).mono ?_
  rintro e w4 ⟨rfl, n4, rfl⟩
  replace HB := hide (below_drewN (unhide HB) n4)
  replace HY : Hid (Row ((w3.alloc (.cells #[.int .i64 3, .int .i64 7, .int .i64 4, .int .i64 1] 40)).drewN n4) _ [7, 1]) := hide ((unhide HY).later (fun a x h => h))
  generalize (w3.alloc (.cells #[.int .i64 3, .int .i64 7, .int .i64 4, .int .i64 1] 40)).drewN n4 = w5 at *
  have HG := hide (same_any _ _ [7, 1] [7, 1] (w5.alloc (.cells #[.int .i64 7, .int .i64 1] 2)) ((unhide HY).alloc _) (unhide H5 w5))
  rw [sameB_refl] at HG
  replace HB := hide ((unhide HB).alloc (unhide HB).size (.cells #[.int .i64 7, .int .i64 1] 2))
  go_wp2_with fail
  refine (unhide HG).mono ?_
  rintro e w6 ⟨rfl, n6, rfl⟩
  replace HB := hide (below_drewN (unhide HB) n6)
  go_wp2_with fail
  go_ret
  exact ⟨rfl, unhide HB⟩
end Go.Proofs.Ytkjbkppjebljpaa
