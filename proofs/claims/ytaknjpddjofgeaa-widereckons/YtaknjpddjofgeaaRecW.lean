/- The walk of WideReckons, up to its calls. -/
import Derived.Test.YtaknjpddjofgeaaRecT
namespace Go.Proofs.Ytaknjpddjofgeaa.wideReckons
open Go.RowKit
set_option linter.unusedSimpArgs false
set_option maxRecDepth 20000 in
set_option maxHeartbeats 20000000 in
theorem go (p q r s x y u1 u2 ue v1 v2 ve c m1 m2 o1 o2 : Int) (w : World) (h1 : Hid (∀ w, Calls Try.prog 10 #[.agg #[.int .i64 p, .int .u64 q], .agg #[.int .i64 r, .int .u64 s]] w fun z w' => z = .returned (.tuple #[.agg #[.int .i64 u1, .int .u64 u2], .int .i64 ue]) ∧ Below w.heap.size w w'))
    (h2 : Hid (∀ w, Calls Try.prog 11 #[.agg #[.int .i64 p, .int .u64 q], .agg #[.int .i64 r, .int .u64 s]] w fun z w' => z = .returned (.tuple #[.agg #[.int .i64 u1, .int .u64 u2], .int .i64 ue]) ∧ Below w.heap.size w w'))
    (h3 : Hid (∀ w, Calls Try.prog 12 #[.agg #[.int .i64 p, .int .u64 q]] w fun z w' => z = .returned (.tuple #[.agg #[.int .i64 v1, .int .u64 v2], .int .i64 ve]) ∧ Below w.heap.size w w'))
    (h4 : Hid (∀ w, Calls Try.prog 13 #[.agg #[.int .i64 p, .int .u64 q]] w fun z w' => z = .returned (.tuple #[.agg #[.int .i64 v1, .int .u64 v2], .int .i64 ve]) ∧ Below w.heap.size w w'))
    (h5 : Hid (∀ w, Calls Try.prog 14 #[.agg #[.int .i64 p, .int .u64 q], .agg #[.int .i64 r, .int .u64 s]] w fun z w' => z = .returned (.int .i64 c) ∧ Below w.heap.size w w'))
    (h6 : Hid (∀ w, Calls Try.prog 15 #[.agg #[.int .i64 p, .int .u64 q], .agg #[.int .i64 r, .int .u64 s]] w fun z w' => z = .returned (.int .i64 c) ∧ Below w.heap.size w w'))
    (h7 : Hid (∀ w, Calls Try.prog 16 #[.int .i64 x, .int .i64 y] w fun z w' => z = .returned (.agg #[.int .i64 m1, .int .u64 m2]) ∧ Below w.heap.size w w'))
    (h8 : Hid (∀ w, Calls Try.prog 17 #[.int .i64 x, .int .i64 y] w fun z w' => z = .returned (.agg #[.int .i64 m1, .int .u64 m2]) ∧ Below w.heap.size w w'))
    (h9 : Hid (∀ w, Calls Try.prog 18 #[.int .i64 x] w fun z w' => z = .returned (.agg #[.int .i64 o1, .int .u64 o2]) ∧ Below w.heap.size w w'))
    (h10 : Hid (∀ w, Calls Try.prog 19 #[.int .i64 x] w fun z w' => z = .returned (.agg #[.int .i64 o1, .int .u64 o2]) ∧ Below w.heap.size w w'))
    (q1 : ∀ w, (binOp .eql 28 (.agg #[.int .i64 u1, .int .u64 u2]) (.agg #[.int .i64 u1, .int .u64 u2])).run Try.prog w = .ok (.bool true) w)
    (q2 : ∀ w, (binOp .eql 28 (.agg #[.int .i64 v1, .int .u64 v2]) (.agg #[.int .i64 v1, .int .u64 v2])).run Try.prog w = .ok (.bool true) w)
    (q3 : ∀ w, (binOp .eql 28 (.agg #[.int .i64 m1, .int .u64 m2]) (.agg #[.int .i64 m1, .int .u64 m2])).run Try.prog w = .ok (.bool true) w)
    (q4 : ∀ w, (binOp .eql 28 (.agg #[.int .i64 o1, .int .u64 o2]) (.agg #[.int .i64 o1, .int .u64 o2])).run Try.prog w = .ok (.bool true) w) : Good p q r s x y w := by
  unfold Good
  have hal := hide alive_any
  go_enter Try.func3, Try.ntmps3
  go_wp2_with fail
  have A1 : (w.alloc (.cells #[.int .i64 p, .int .u64 q, .int .i64 r, .int .u64 s, .int .i64 x, .int .i64 y] 26)).heap[w.heap.size]? = some (.cells #[.int .i64 p, .int .u64 q, .int .i64 r, .int .u64 s, .int .i64 x, .int .i64 y] 26 (0, 0)) := heap_alloc_new w _
  have A3 := (Below.refl w.heap.size w).alloc (Nat.le_refl _) (.cells #[.int .i64 p, .int .u64 q, .int .i64 r, .int .u64 s, .int .i64 x, .int .i64 y] 26)
  generalize w.alloc (.cells #[.int .i64 p, .int .u64 q, .int .i64 r, .int .u64 s, .int .i64 x, .int .i64 y] 26) = W at A1 A3 ⊢
  refine (unhide hal _).mono ?_
  rintro e w1 ⟨rfl, hb1⟩
  replace A1 := (hb1.block _ (Array.getElem?_eq_some_iff.1 A1).1).trans A1
  replace A3 := hide (below_via A3 hb1)
  have l1 : w.heap.size < w1.heap.size := (Array.getElem?_eq_some_iff.1 A1).1
  clear hb1 hal
  have c0 : w1.cell? ⟨w.heap.size, 0, none⟩ = some (.int .i64 p) := by rw [cell_of_row w1 _ 0 _ _ _ A1]; rfl
  have c1 : w1.cell? ⟨w.heap.size, 1, none⟩ = some (.int .u64 q) := by rw [cell_of_row w1 _ 1 _ _ _ A1]; rfl
  have c2 : w1.cell? ⟨w.heap.size, 2, none⟩ = some (.int .i64 r) := by rw [cell_of_row w1 _ 2 _ _ _ A1]; rfl
  have c3 : w1.cell? ⟨w.heap.size, 3, none⟩ = some (.int .u64 s) := by rw [cell_of_row w1 _ 3 _ _ _ A1]; rfl
  have c4 : w1.cell? ⟨w.heap.size, 4, none⟩ = some (.int .i64 x) := by rw [cell_of_row w1 _ 4 _ _ _ A1]; rfl
  have c5 : w1.cell? ⟨w.heap.size, 5, none⟩ = some (.int .i64 y) := by rw [cell_of_row w1 _ 5 _ _ _ A1]; rfl
  replace A1 := hide A1
  go_wp2_with fail
  go_region
  · clear c0 c1 c2 c3 c4 c5
    obtain ⟨hA, hB, hb⟩ := two24 w1 p q r s
    replace hA : R24 (((w1.alloc (.cells #[.int .i64 p, .int .u64 q] 24)).alloc (.cells #[.int .i64 r, .int .u64 s] 24)).drew) _ _ _ := hA
    replace hB : R24 (((w1.alloc (.cells #[.int .i64 p, .int .u64 q] 24)).alloc (.cells #[.int .i64 r, .int .u64 s] 24)).drew) _ _ _ := hB
    replace hb := below_drew hb
    replace A3 := hide (below_via (unhide A3) hb)
    generalize ((w1.alloc (.cells #[.int .i64 p, .int .u64 q] 24)).alloc (.cells #[.int .i64 r, .int .u64 s] 24)).drew = W2 at hA hB A3 ⊢
    clear hb A1 l1
    obtain ⟨a4, he⟩ : ∃ a, a = w1.heap.size + 1 := ⟨_, rfl⟩
    rw [← he] at hB ⊢
    clear he
    obtain ⟨a3, he⟩ : ∃ a, a = w1.heap.size := ⟨_, rfl⟩
    rw [← he] at hA ⊢
    clear he
    have la := hA.lt
    have lb := hB.lt
    replace hA := hide hA
    replace hB := hide hB
    go_wp2_with fail
    refine wp_region_held_drew (S := fun W => LB w W a3 a4 p q r s) (by kernel_rfl) ((show LB w W2 a3 a4 p q r s from ⟨unhide hA, unhide hB, unhide A3⟩).keep (below_drew (Below.refl _ _))) (fun hS => ?_)
    clear hA hB A3 la lb
    generalize W2.drew = W5 at hS ⊢
    refine wpAnyH_take (i := 0) (v := .agg #[.int .i64 p, .int .u64 q]) rfl (by kernel_rfl) (by kernel_rfl) (by kernel_rfl) (fun _ _ _ h => h) (Or.inl ⟨by rfl, fun W hS => by have c0 := hS.ra.c0; have c1 := hS.ra.c1; go_simp⟩) hS ?_
    refine wpAnyH_take (i := 1) (v := .agg #[.int .i64 r, .int .u64 s]) rfl (by kernel_rfl) (by kernel_rfl) (by kernel_rfl) (fun _ _ _ h => h) (Or.inl ⟨by rfl, fun W hS => by have c0 := hS.rb.c0; have c1 := hS.rb.c1; go_simp⟩) hS ?_
    refine wpAnyH_all (rs := [2, 3]) (by kernel_rfl) (by simp) (AllReadyH.cons (i := 2) rfl (fun K hK => ?_) (AllReadyH.cons (i := 3) rfl (fun K hK => ?_) AllReadyH.nil))
    · rw [if_pos (by rfl)]
      have hP := hide (R28.new W5 0 0)
      have k3 : a3 < W5.heap.size := hS.ra.lt
      have k4 : a4 < W5.heap.size := hS.rb.lt
      have kw : w.heap.size ≤ W5.heap.size := hS.below.size
      have hSA := hide (hS.keep ((Below.refl _ _).alloc (Nat.le_refl _) (.cells #[.int .i64 0, .int .u64 0] 28)))
      clear hS
      go_wp2_with fail
      refine hK.out _ _ (unhide hSA) (fun hS => ?_)
      clear hK hSA
      generalize W5.alloc (.cells #[.int .i64 0, .int .u64 0] 28) = WN at hP hS ⊢
      obtain ⟨a7, ho⟩ : ∃ o, o = W5.heap.size := ⟨_, rfl⟩
      rw [← ho] at hP k3 k4 kw ⊢
      clear ho
      refine wpAnyH_all (rs := [3]) (by kernel_rfl) (by simp) (AllReadyH.cons (i := 3) rfl (fun K hK => ?_) AllReadyH.nil)
      rw [if_pos (by rfl)]
      have hQ := hide (R28.new WN 0 0)
      have k5 : a7 < WN.heap.size := (unhide hP).lt
      replace hP := hide ((unhide hP).alloc (.cells #[.int .i64 0, .int .u64 0] 28))
      have hSA := hide (hS.keep ((Below.refl _ _).alloc (Nat.le_refl _) (.cells #[.int .i64 0, .int .u64 0] 28)))
      clear hS
      go_wp2_with fail
      refine hK.out _ _ (unhide hSA) (fun hS => ?_)
      clear hK hSA
      generalize WN.alloc (.cells #[.int .i64 0, .int .u64 0] 28) = WM at hP hQ hS ⊢
      obtain ⟨a8, ho⟩ : ∃ o, o = WN.heap.size := ⟨_, rfl⟩
      rw [← ho] at hQ k5 ⊢
      clear ho
      have n3 : a3 ≠ a7 := by omega
      have n4 : a4 ≠ a7 := by omega
      have m3 : a3 ≠ a8 := by omega
      have m4 : a4 ≠ a8 := by omega
      have nm : a7 ≠ a8 := by omega
      have mn : a8 ≠ a7 := by omega
      have kw2 : w.heap.size ≤ a8 := by omega
      refine wpAnyH_all (rs := [4]) (by kernel_rfl) (by simp) (AllReadyH.cons (i := 4) rfl (fun K hK => ?_) AllReadyH.nil)
      rw [if_pos (by rfl)]
      have x0 := (unhide hP).c0
      have x1 := (unhide hP).c1
      have f0 := (unhide hP).fr 0
      have f1 := (unhide hP).fr 1
      replace hP := hide (((unhide hP).s0 p).s1 q)
      replace hQ := hide (((unhide hQ).other (a := ⟨a7, 0, none⟩) mn (.int .i64 p)).other (a := ⟨a7, 1, none⟩) mn (.int .u64 q))
      have hSA := hide ((hS.set (a := ⟨a7, 0, none⟩) n3 n4 kw (.int .i64 p)).set (a := ⟨a7, 1, none⟩) n3 n4 kw (.int .u64 q))
      clear hS
      go_wp2_with fail
      clear x0 x1 f0 f1
      refine hK.out _ _ (unhide hSA) (fun hS => ?_)
      clear hK hSA
      generalize (WM.setCell ⟨a7, 0, none⟩ (.int .i64 p)).setCell ⟨a7, 1, none⟩ (.int .u64 q) = WMs at hP hQ hS ⊢
      refine wpAnyH_all (rs := [5]) (by kernel_rfl) (by simp) (AllReadyH.cons (i := 5) rfl (fun K hK => ?_) AllReadyH.nil)
      rw [if_pos (by rfl)]
      have x0 := (unhide hQ).c0
      have x1 := (unhide hQ).c1
      have f0 := (unhide hQ).fr 0
      have f1 := (unhide hQ).fr 1
      replace hQ := hide (((unhide hQ).s0 r).s1 s)
      replace hP := hide (((unhide hP).other (a := ⟨a8, 0, none⟩) nm (.int .i64 r)).other (a := ⟨a8, 1, none⟩) nm (.int .u64 s))
      have hSA := hide ((hS.set (a := ⟨a8, 0, none⟩) m3 m4 kw2 (.int .i64 r)).set (a := ⟨a8, 1, none⟩) m3 m4 kw2 (.int .u64 s))
      clear hS
      go_wp2_with fail
      clear x0 x1 f0 f1
      refine hK.out _ _ (unhide hSA) (fun hS => ?_)
      clear hK hSA
      generalize (WMs.setCell ⟨a8, 0, none⟩ (.int .i64 r)).setCell ⟨a8, 1, none⟩ (.int .u64 s) = WMss at hP hQ hS ⊢
      refine wpAnyH_done (by kernel_rfl) ?_ _
      have HL := hide (show LS w WMss a3 a4 a7 a8 p q r s from ⟨hS.ra, hS.rb, unhide hP, unhide hQ, hS.below⟩)
      clear hS hP hQ k3 k4 kw k5 n3 n4 m3 m4 nm mn kw2
      refine ‹∀ (a : Act) (w : World), Code.wp Try.prog _ _ a w → _› _ _ ?_
      exact tail p q r s x y u1 u2 ue v1 v2 ve c m1 m2 o1 o2 w WMss a3 a4 a7 a8 HL h1 h2 h3 h4 h5 h6 h7 h8 h9 h10 q1 q2 q3 q4
    · rw [if_pos (by rfl)]
      have hQ := hide (R28.new W5 0 0)
      have k3 : a3 < W5.heap.size := hS.ra.lt
      have k4 : a4 < W5.heap.size := hS.rb.lt
      have kw : w.heap.size ≤ W5.heap.size := hS.below.size
      have hSA := hide (hS.keep ((Below.refl _ _).alloc (Nat.le_refl _) (.cells #[.int .i64 0, .int .u64 0] 28)))
      clear hS
      go_wp2_with fail
      refine hK.out _ _ (unhide hSA) (fun hS => ?_)
      clear hK hSA
      generalize W5.alloc (.cells #[.int .i64 0, .int .u64 0] 28) = WN at hQ hS ⊢
      obtain ⟨a8, ho⟩ : ∃ o, o = W5.heap.size := ⟨_, rfl⟩
      rw [← ho] at hQ k3 k4 kw ⊢
      clear ho
      refine wpAnyH_all (rs := [2]) (by kernel_rfl) (by simp) (AllReadyH.cons (i := 2) rfl (fun K hK => ?_) AllReadyH.nil)
      rw [if_pos (by rfl)]
      have hP := hide (R28.new WN 0 0)
      have k5 : a8 < WN.heap.size := (unhide hQ).lt
      replace hQ := hide ((unhide hQ).alloc (.cells #[.int .i64 0, .int .u64 0] 28))
      have hSA := hide (hS.keep ((Below.refl _ _).alloc (Nat.le_refl _) (.cells #[.int .i64 0, .int .u64 0] 28)))
      clear hS
      go_wp2_with fail
      refine hK.out _ _ (unhide hSA) (fun hS => ?_)
      clear hK hSA
      generalize WN.alloc (.cells #[.int .i64 0, .int .u64 0] 28) = WM at hP hQ hS ⊢
      obtain ⟨a7, ho⟩ : ∃ o, o = WN.heap.size := ⟨_, rfl⟩
      rw [← ho] at hP k5 ⊢
      clear ho
      have n3 : a3 ≠ a8 := by omega
      have n4 : a4 ≠ a8 := by omega
      have m3 : a3 ≠ a7 := by omega
      have m4 : a4 ≠ a7 := by omega
      have nm : a8 ≠ a7 := by omega
      have mn : a7 ≠ a8 := by omega
      have kw2 : w.heap.size ≤ a7 := by omega
      refine wpAnyH_all (rs := [4]) (by kernel_rfl) (by simp) (AllReadyH.cons (i := 4) rfl (fun K hK => ?_) AllReadyH.nil)
      rw [if_pos (by rfl)]
      have x0 := (unhide hP).c0
      have x1 := (unhide hP).c1
      have f0 := (unhide hP).fr 0
      have f1 := (unhide hP).fr 1
      replace hP := hide (((unhide hP).s0 p).s1 q)
      replace hQ := hide (((unhide hQ).other (a := ⟨a7, 0, none⟩) nm (.int .i64 p)).other (a := ⟨a7, 1, none⟩) nm (.int .u64 q))
      have hSA := hide ((hS.set (a := ⟨a7, 0, none⟩) m3 m4 kw2 (.int .i64 p)).set (a := ⟨a7, 1, none⟩) m3 m4 kw2 (.int .u64 q))
      clear hS
      go_wp2_with fail
      clear x0 x1 f0 f1
      refine hK.out _ _ (unhide hSA) (fun hS => ?_)
      clear hK hSA
      generalize (WM.setCell ⟨a7, 0, none⟩ (.int .i64 p)).setCell ⟨a7, 1, none⟩ (.int .u64 q) = WMs at hP hQ hS ⊢
      refine wpAnyH_all (rs := [5]) (by kernel_rfl) (by simp) (AllReadyH.cons (i := 5) rfl (fun K hK => ?_) AllReadyH.nil)
      rw [if_pos (by rfl)]
      have x0 := (unhide hQ).c0
      have x1 := (unhide hQ).c1
      have f0 := (unhide hQ).fr 0
      have f1 := (unhide hQ).fr 1
      replace hQ := hide (((unhide hQ).s0 r).s1 s)
      replace hP := hide (((unhide hP).other (a := ⟨a8, 0, none⟩) mn (.int .i64 r)).other (a := ⟨a8, 1, none⟩) mn (.int .u64 s))
      have hSA := hide ((hS.set (a := ⟨a8, 0, none⟩) n3 n4 kw (.int .i64 r)).set (a := ⟨a8, 1, none⟩) n3 n4 kw (.int .u64 s))
      clear hS
      go_wp2_with fail
      clear x0 x1 f0 f1
      refine hK.out _ _ (unhide hSA) (fun hS => ?_)
      clear hK hSA
      generalize (WMs.setCell ⟨a8, 0, none⟩ (.int .i64 r)).setCell ⟨a8, 1, none⟩ (.int .u64 s) = WMss at hP hQ hS ⊢
      refine wpAnyH_done (by kernel_rfl) ?_ _
      have HL := hide (show LS w WMss a3 a4 a7 a8 p q r s from ⟨hS.ra, hS.rb, unhide hP, unhide hQ, hS.below⟩)
      clear hS hP hQ k3 k4 kw k5 n3 n4 m3 m4 nm mn kw2
      refine ‹∀ (a : Act) (w : World), Code.wp Try.prog _ _ a w → _› _ _ ?_
      exact tail p q r s x y u1 u2 ue v1 v2 ve c m1 m2 o1 o2 w WMss a3 a4 a7 a8 HL h1 h2 h3 h4 h5 h6 h7 h8 h9 h10 q1 q2 q3 q4
  · clear c0 c1 c2 c3 c4 c5
    obtain ⟨hB, hA, hb⟩ := two24 w1 r s p q
    replace hB : R24 (((w1.alloc (.cells #[.int .i64 r, .int .u64 s] 24)).alloc (.cells #[.int .i64 p, .int .u64 q] 24)).drew) _ _ _ := hB
    replace hA : R24 (((w1.alloc (.cells #[.int .i64 r, .int .u64 s] 24)).alloc (.cells #[.int .i64 p, .int .u64 q] 24)).drew) _ _ _ := hA
    replace hb := below_drew hb
    replace A3 := hide (below_via (unhide A3) hb)
    generalize ((w1.alloc (.cells #[.int .i64 r, .int .u64 s] 24)).alloc (.cells #[.int .i64 p, .int .u64 q] 24)).drew = W2 at hA hB A3 ⊢
    clear hb A1 l1
    obtain ⟨a3, he⟩ : ∃ a, a = w1.heap.size + 1 := ⟨_, rfl⟩
    rw [← he] at hA ⊢
    clear he
    obtain ⟨a4, he⟩ : ∃ a, a = w1.heap.size := ⟨_, rfl⟩
    rw [← he] at hB ⊢
    clear he
    have la := hA.lt
    have lb := hB.lt
    replace hA := hide hA
    replace hB := hide hB
    go_wp2_with fail
    refine wp_region_held_drew (S := fun W => LB w W a3 a4 p q r s) (by kernel_rfl) ((show LB w W2 a3 a4 p q r s from ⟨unhide hA, unhide hB, unhide A3⟩).keep (below_drew (Below.refl _ _))) (fun hS => ?_)
    clear hA hB A3 la lb
    generalize W2.drew = W5 at hS ⊢
    refine wpAnyH_take (i := 0) (v := .agg #[.int .i64 p, .int .u64 q]) rfl (by kernel_rfl) (by kernel_rfl) (by kernel_rfl) (fun _ _ _ h => h) (Or.inl ⟨by rfl, fun W hS => by have c0 := hS.ra.c0; have c1 := hS.ra.c1; go_simp⟩) hS ?_
    refine wpAnyH_take (i := 1) (v := .agg #[.int .i64 r, .int .u64 s]) rfl (by kernel_rfl) (by kernel_rfl) (by kernel_rfl) (fun _ _ _ h => h) (Or.inl ⟨by rfl, fun W hS => by have c0 := hS.rb.c0; have c1 := hS.rb.c1; go_simp⟩) hS ?_
    refine wpAnyH_all (rs := [2, 3]) (by kernel_rfl) (by simp) (AllReadyH.cons (i := 2) rfl (fun K hK => ?_) (AllReadyH.cons (i := 3) rfl (fun K hK => ?_) AllReadyH.nil))
    · rw [if_pos (by rfl)]
      have hP := hide (R28.new W5 0 0)
      have k3 : a3 < W5.heap.size := hS.ra.lt
      have k4 : a4 < W5.heap.size := hS.rb.lt
      have kw : w.heap.size ≤ W5.heap.size := hS.below.size
      have hSA := hide (hS.keep ((Below.refl _ _).alloc (Nat.le_refl _) (.cells #[.int .i64 0, .int .u64 0] 28)))
      clear hS
      go_wp2_with fail
      refine hK.out _ _ (unhide hSA) (fun hS => ?_)
      clear hK hSA
      generalize W5.alloc (.cells #[.int .i64 0, .int .u64 0] 28) = WN at hP hS ⊢
      obtain ⟨a7, ho⟩ : ∃ o, o = W5.heap.size := ⟨_, rfl⟩
      rw [← ho] at hP k3 k4 kw ⊢
      clear ho
      refine wpAnyH_all (rs := [3]) (by kernel_rfl) (by simp) (AllReadyH.cons (i := 3) rfl (fun K hK => ?_) AllReadyH.nil)
      rw [if_pos (by rfl)]
      have hQ := hide (R28.new WN 0 0)
      have k5 : a7 < WN.heap.size := (unhide hP).lt
      replace hP := hide ((unhide hP).alloc (.cells #[.int .i64 0, .int .u64 0] 28))
      have hSA := hide (hS.keep ((Below.refl _ _).alloc (Nat.le_refl _) (.cells #[.int .i64 0, .int .u64 0] 28)))
      clear hS
      go_wp2_with fail
      refine hK.out _ _ (unhide hSA) (fun hS => ?_)
      clear hK hSA
      generalize WN.alloc (.cells #[.int .i64 0, .int .u64 0] 28) = WM at hP hQ hS ⊢
      obtain ⟨a8, ho⟩ : ∃ o, o = WN.heap.size := ⟨_, rfl⟩
      rw [← ho] at hQ k5 ⊢
      clear ho
      have n3 : a3 ≠ a7 := by omega
      have n4 : a4 ≠ a7 := by omega
      have m3 : a3 ≠ a8 := by omega
      have m4 : a4 ≠ a8 := by omega
      have nm : a7 ≠ a8 := by omega
      have mn : a8 ≠ a7 := by omega
      have kw2 : w.heap.size ≤ a8 := by omega
      refine wpAnyH_all (rs := [4]) (by kernel_rfl) (by simp) (AllReadyH.cons (i := 4) rfl (fun K hK => ?_) AllReadyH.nil)
      rw [if_pos (by rfl)]
      have x0 := (unhide hP).c0
      have x1 := (unhide hP).c1
      have f0 := (unhide hP).fr 0
      have f1 := (unhide hP).fr 1
      replace hP := hide (((unhide hP).s0 p).s1 q)
      replace hQ := hide (((unhide hQ).other (a := ⟨a7, 0, none⟩) mn (.int .i64 p)).other (a := ⟨a7, 1, none⟩) mn (.int .u64 q))
      have hSA := hide ((hS.set (a := ⟨a7, 0, none⟩) n3 n4 kw (.int .i64 p)).set (a := ⟨a7, 1, none⟩) n3 n4 kw (.int .u64 q))
      clear hS
      go_wp2_with fail
      clear x0 x1 f0 f1
      refine hK.out _ _ (unhide hSA) (fun hS => ?_)
      clear hK hSA
      generalize (WM.setCell ⟨a7, 0, none⟩ (.int .i64 p)).setCell ⟨a7, 1, none⟩ (.int .u64 q) = WMs at hP hQ hS ⊢
      refine wpAnyH_all (rs := [5]) (by kernel_rfl) (by simp) (AllReadyH.cons (i := 5) rfl (fun K hK => ?_) AllReadyH.nil)
      rw [if_pos (by rfl)]
      have x0 := (unhide hQ).c0
      have x1 := (unhide hQ).c1
      have f0 := (unhide hQ).fr 0
      have f1 := (unhide hQ).fr 1
      replace hQ := hide (((unhide hQ).s0 r).s1 s)
      replace hP := hide (((unhide hP).other (a := ⟨a8, 0, none⟩) nm (.int .i64 r)).other (a := ⟨a8, 1, none⟩) nm (.int .u64 s))
      have hSA := hide ((hS.set (a := ⟨a8, 0, none⟩) m3 m4 kw2 (.int .i64 r)).set (a := ⟨a8, 1, none⟩) m3 m4 kw2 (.int .u64 s))
      clear hS
      go_wp2_with fail
      clear x0 x1 f0 f1
      refine hK.out _ _ (unhide hSA) (fun hS => ?_)
      clear hK hSA
      generalize (WMs.setCell ⟨a8, 0, none⟩ (.int .i64 r)).setCell ⟨a8, 1, none⟩ (.int .u64 s) = WMss at hP hQ hS ⊢
      refine wpAnyH_done (by kernel_rfl) ?_ _
      have HL := hide (show LS w WMss a3 a4 a7 a8 p q r s from ⟨hS.ra, hS.rb, unhide hP, unhide hQ, hS.below⟩)
      clear hS hP hQ k3 k4 kw k5 n3 n4 m3 m4 nm mn kw2
      refine ‹∀ (a : Act) (w : World), Code.wp Try.prog _ _ a w → _› _ _ ?_
      exact tail p q r s x y u1 u2 ue v1 v2 ve c m1 m2 o1 o2 w WMss a3 a4 a7 a8 HL h1 h2 h3 h4 h5 h6 h7 h8 h9 h10 q1 q2 q3 q4
    · rw [if_pos (by rfl)]
      have hQ := hide (R28.new W5 0 0)
      have k3 : a3 < W5.heap.size := hS.ra.lt
      have k4 : a4 < W5.heap.size := hS.rb.lt
      have kw : w.heap.size ≤ W5.heap.size := hS.below.size
      have hSA := hide (hS.keep ((Below.refl _ _).alloc (Nat.le_refl _) (.cells #[.int .i64 0, .int .u64 0] 28)))
      clear hS
      go_wp2_with fail
      refine hK.out _ _ (unhide hSA) (fun hS => ?_)
      clear hK hSA
      generalize W5.alloc (.cells #[.int .i64 0, .int .u64 0] 28) = WN at hQ hS ⊢
      obtain ⟨a8, ho⟩ : ∃ o, o = W5.heap.size := ⟨_, rfl⟩
      rw [← ho] at hQ k3 k4 kw ⊢
      clear ho
      refine wpAnyH_all (rs := [2]) (by kernel_rfl) (by simp) (AllReadyH.cons (i := 2) rfl (fun K hK => ?_) AllReadyH.nil)
      rw [if_pos (by rfl)]
      have hP := hide (R28.new WN 0 0)
      have k5 : a8 < WN.heap.size := (unhide hQ).lt
      replace hQ := hide ((unhide hQ).alloc (.cells #[.int .i64 0, .int .u64 0] 28))
      have hSA := hide (hS.keep ((Below.refl _ _).alloc (Nat.le_refl _) (.cells #[.int .i64 0, .int .u64 0] 28)))
      clear hS
      go_wp2_with fail
      refine hK.out _ _ (unhide hSA) (fun hS => ?_)
      clear hK hSA
      generalize WN.alloc (.cells #[.int .i64 0, .int .u64 0] 28) = WM at hP hQ hS ⊢
      obtain ⟨a7, ho⟩ : ∃ o, o = WN.heap.size := ⟨_, rfl⟩
      rw [← ho] at hP k5 ⊢
      clear ho
      have n3 : a3 ≠ a8 := by omega
      have n4 : a4 ≠ a8 := by omega
      have m3 : a3 ≠ a7 := by omega
      have m4 : a4 ≠ a7 := by omega
      have nm : a8 ≠ a7 := by omega
      have mn : a7 ≠ a8 := by omega
      have kw2 : w.heap.size ≤ a7 := by omega
      refine wpAnyH_all (rs := [4]) (by kernel_rfl) (by simp) (AllReadyH.cons (i := 4) rfl (fun K hK => ?_) AllReadyH.nil)
      rw [if_pos (by rfl)]
      have x0 := (unhide hP).c0
      have x1 := (unhide hP).c1
      have f0 := (unhide hP).fr 0
      have f1 := (unhide hP).fr 1
      replace hP := hide (((unhide hP).s0 p).s1 q)
      replace hQ := hide (((unhide hQ).other (a := ⟨a7, 0, none⟩) nm (.int .i64 p)).other (a := ⟨a7, 1, none⟩) nm (.int .u64 q))
      have hSA := hide ((hS.set (a := ⟨a7, 0, none⟩) m3 m4 kw2 (.int .i64 p)).set (a := ⟨a7, 1, none⟩) m3 m4 kw2 (.int .u64 q))
      clear hS
      go_wp2_with fail
      clear x0 x1 f0 f1
      refine hK.out _ _ (unhide hSA) (fun hS => ?_)
      clear hK hSA
      generalize (WM.setCell ⟨a7, 0, none⟩ (.int .i64 p)).setCell ⟨a7, 1, none⟩ (.int .u64 q) = WMs at hP hQ hS ⊢
      refine wpAnyH_all (rs := [5]) (by kernel_rfl) (by simp) (AllReadyH.cons (i := 5) rfl (fun K hK => ?_) AllReadyH.nil)
      rw [if_pos (by rfl)]
      have x0 := (unhide hQ).c0
      have x1 := (unhide hQ).c1
      have f0 := (unhide hQ).fr 0
      have f1 := (unhide hQ).fr 1
      replace hQ := hide (((unhide hQ).s0 r).s1 s)
      replace hP := hide (((unhide hP).other (a := ⟨a8, 0, none⟩) mn (.int .i64 r)).other (a := ⟨a8, 1, none⟩) mn (.int .u64 s))
      have hSA := hide ((hS.set (a := ⟨a8, 0, none⟩) n3 n4 kw (.int .i64 r)).set (a := ⟨a8, 1, none⟩) n3 n4 kw (.int .u64 s))
      clear hS
      go_wp2_with fail
      clear x0 x1 f0 f1
      refine hK.out _ _ (unhide hSA) (fun hS => ?_)
      clear hK hSA
      generalize (WMs.setCell ⟨a8, 0, none⟩ (.int .i64 r)).setCell ⟨a8, 1, none⟩ (.int .u64 s) = WMss at hP hQ hS ⊢
      refine wpAnyH_done (by kernel_rfl) ?_ _
      have HL := hide (show LS w WMss a3 a4 a7 a8 p q r s from ⟨hS.ra, hS.rb, unhide hP, unhide hQ, hS.below⟩)
      clear hS hP hQ k3 k4 kw k5 n3 n4 m3 m4 nm mn kw2
      refine ‹∀ (a : Act) (w : World), Code.wp Try.prog _ _ a w → _› _ _ ?_
      exact tail p q r s x y u1 u2 ue v1 v2 ve c m1 m2 o1 o2 w WMss a3 a4 a7 a8 HL h1 h2 h3 h4 h5 h6 h7 h8 h9 h10 q1 q2 q3 q4
end Go.Proofs.Ytaknjpddjofgeaa.wideReckons
