/- Proved here: FlowBoth: Merge goes both ways; its total is both totals; none of 0 is left; with nothing it is the flows themselves. No condition. -/
import Derived.Test.YtkjbkppjebljpaaLaws
namespace Go.Proofs.Ytkjbkppjebljpaa.flowBoth
open Go.ChangeShapes Go.WideShapes Go.ChangeAt Go.RowKit
set_option linter.unusedSimpArgs false
theorem mE_comm {a b : List (Int × Int)} (h : mE a b = 0) : mE b a = 0 := by
  obtain ⟨ca, cb, _, h3, h4⟩ := mE_zero h
  rw [both_comm] at h3 h4
  exact (mE_ok cb ca h3 h4).1
theorem mL_comm (a b : List (Int × Int)) : mL b a = mL a b := by
  by_cases h : mE a b = 0
  · obtain ⟨_, _, e, _, _⟩ := mE_zero h
    obtain ⟨_, _, e2, _, _⟩ := mE_zero (mE_comm h)
    rw [e, e2, both_comm]
  · rw [show mL a b = [] from if_neg h, show mL b a = [] from if_neg (fun c => h (mE_comm c))]
theorem chk_both {a b : List (Int × Int)} (h : mE a b = 0) : chkE (both a b) = 0 := by
  obtain ⟨ca, cb, _, h3, h4⟩ := mE_zero h
  have T := two_of ca cb
  refine chkE_of h4 (chk_of (both_rises T.ra T.rb) (fun f hf => ⟨?_, ?_⟩))
  · have hm := (nz_mem f hf).1
    rcases mrg_days a b f hm with ⟨g, g1, g2⟩ | ⟨g, g1, g2⟩
    · have := (T.ma g g1).1; omega
    · have := (T.mb g g1).1; omega
  · unfold noOver at h3
    rw [List.all_eq_true] at h3
    exact h3 f hf
theorem tot_ok {l : List (Int × Int)} (h : chkE l = 0) : okN (tot l) = tot l ∧ okE (tot l) = 0 ∧ -6000000000000000 ≤ tot l ∧ tot l ≤ 6000000000000000 := by
  obtain ⟨h1, h2⟩ := chkE_ok h
  obtain ⟨_, h3⟩ := chk_ok h2
  have := mem_len (fun f hf => (h3 f hf).2)
  have ht : turn (tot l) = 0 := turn_in ⟨by omega, by omega⟩
  exact ⟨okN_in ht, okE_in ht, by omega, by omega⟩
theorem total_ok (v : Value) (l : List (Int × Int)) (w : World) (h : RowF w v l) (hm : l.length ≤ 1000) (hc : chkE l = 0) : Calls Try.prog 14 #[v] w fun e w' => e = .returned (.tuple #[.int .i64 (tot l), .int .i64 0]) ∧ Below w.heap.size w w' := by
  have := total_any v l w h hm
  rwa [(tot_ok hc).1, (tot_ok hc).2.1] at this
theorem mE_again {a b : List (Int × Int)} (h : mE a b = 0) : mE (both a b) [] = 0 ∧ mL (both a b) [] = both a b := by
  obtain ⟨_, _, _, h3, h4⟩ := mE_zero h
  have e : both (both a b) [] = both a b := by rw [both_nil]; exact nz_nz _
  have := mE_ok (b := []) (chk_both h) (show chkE [] = 0 from rfl) (by rw [e]; exact h3) (by rw [e]; exact h4)
  rw [e] at this
  exact this
theorem l_1 (a0 : Option Addr) (l0 c0 : Nat) (a1 : Option Addr) (l1 c1 : Nat) (d0 : decide ((200 : Int) < (l0 : Int)) = true) (hal : Hid Alive) (w : World) : Calls Try.prog 5 #[.slice a0 l0 c0, .slice a1 l1 c1] w fun e w' => e = .returned (.bool true) ∧ Below w.heap.size w w' := by
  go_enter Try.func5, Try.ntmps5
  go_wp2_with fail
  refine (unhide hal w).mono ?_
  rintro e w1 ⟨rfl, b⟩
  have HB := hide b
  clear b
  go_wp2_with fail
  go_ret
  exact ⟨rfl, unhide HB⟩
theorem l_2 (a0 : Option Addr) (l0 c0 : Nat) (a1 : Option Addr) (l1 c1 : Nat) (d0 : decide ((200 : Int) < (l0 : Int)) = false) (d1 : decide ((200 : Int) < (l1 : Int)) = true) (hal : Hid Alive) (w : World) : Calls Try.prog 5 #[.slice a0 l0 c0, .slice a1 l1 c1] w fun e w' => e = .returned (.bool true) ∧ Below w.heap.size w w' := by
  go_enter Try.func5, Try.ntmps5
  go_wp2_with fail
  refine (unhide hal w).mono ?_
  rintro e w1 ⟨rfl, b⟩
  have HB := hide b
  clear b
  go_wp2_with fail
  go_ret
  exact ⟨rfl, unhide HB⟩
set_option maxRecDepth 20000 in
set_option maxHeartbeats 2000000 in
theorem main_no (a0 : Option Addr) (l0 c0 : Nat) (z0 : List (Int × Int)) (a1 : Option Addr) (l1 c1 : Nat) (z1 : List (Int × Int)) (d0 : decide ((200 : Int) < (l0 : Int)) = false) (d1 : decide ((200 : Int) < (l1 : Int)) = false) (hal : Hid Alive) (w : World) (A : Hid (RowF w (.slice a0 l0 c0) z0)) (B : Hid (RowF w (.slice a1 l1 c1) z1)) (LA : Hid (z0.length ≤ 1000)) (LB : Hid (z1.length ≤ 1000)) (hn : Hid (mE z0 z1 ≠ 0)) (hn2 : Hid (mE z1 z0 ≠ 0)) : Calls Try.prog 5 #[.slice a0 l0 c0, .slice a1 l1 c1] w fun e w' => e = .returned (.bool true) ∧ Below w.heap.size w w' := by
  go_enter Try.func5, Try.ntmps5
  go_wp2_with fail
  refine (unhide hal w).mono ?_
  rintro e w1 ⟨rfl, b⟩
  replace A := hide ((unhide A).keep b)
  replace B := hide ((unhide B).keep b)
  have HB := hide b
  clear b
  go_wp2_with fail
  refine (to_any _ z0 w1 (unhide A) (unhide LA)).mono ?_
  rintro e w2 ⟨xa, rfl, g⟩
  replace A := hide ((unhide A).keep g.below)
  replace B := hide ((unhide B).keep g.below)
  replace HB := hide (below_via (unhide HB) g.below)
  have Rxa := hide g.row
  clear g
  go_wp2_with fail
  refine (to_any _ z1 w2 (unhide B) (unhide LB)).mono ?_
  rintro e w3 ⟨xb, rfl, g⟩
  replace A := hide ((unhide A).keep g.below)
  replace B := hide ((unhide B).keep g.below)
  replace Rxa := hide ((unhide Rxa).keep g.below)
  replace HB := hide (below_via (unhide HB) g.below)
  have Rxb := hide g.row
  clear g
  go_wp2_with fail
  refine (merge_all _ _ z0 z1 w3 (unhide Rxa) (unhide Rxb)).mono ?_
  rintro e w4 ⟨x, rfl, r, b⟩
  replace A := hide ((unhide A).keep b)
  replace B := hide ((unhide B).keep b)
  replace Rxa := hide ((unhide Rxa).keep b)
  replace Rxb := hide ((unhide Rxb).keep b)
  replace HB := hide (below_via (unhide HB) b)
  have Rx := hide r
  clear r b
  clear Rxa Rxb
  go_wp2_with fail
  refine (to_any _ z1 w4 (unhide B) (unhide LB)).mono ?_
  rintro e w5 ⟨xb, rfl, g⟩
  replace A := hide ((unhide A).keep g.below)
  replace B := hide ((unhide B).keep g.below)
  replace Rx := hide ((unhide Rx).keep g.below)
  replace HB := hide (below_via (unhide HB) g.below)
  have Rxb := hide g.row
  clear g
  go_wp2_with fail
  refine (to_any _ z0 w5 (unhide A) (unhide LA)).mono ?_
  rintro e w6 ⟨xa, rfl, g⟩
  replace A := hide ((unhide A).keep g.below)
  replace B := hide ((unhide B).keep g.below)
  replace Rx := hide ((unhide Rx).keep g.below)
  replace Rxb := hide ((unhide Rxb).keep g.below)
  replace HB := hide (below_via (unhide HB) g.below)
  have Rxa := hide g.row
  clear g
  go_wp2_with fail
  refine (merge_all _ _ z1 z0 w6 (unhide Rxb) (unhide Rxa)).mono ?_
  rintro e w7 ⟨y, rfl, r, b⟩
  replace A := hide ((unhide A).keep b)
  replace B := hide ((unhide B).keep b)
  replace Rx := hide ((unhide Rx).keep b)
  replace Rxb := hide ((unhide Rxb).keep b)
  replace Rxa := hide ((unhide Rxa).keep b)
  replace HB := hide (below_via (unhide HB) b)
  have Ry := hide r
  clear r b
  clear Rxa Rxb
  rw [mL_comm z0 z1] at Ry
  rw [show mL z0 z1 = [] from if_neg (unhide hn)] at Rx Ry
  have b1 : (mE z0 z1 == 0) = false := by simp [unhide hn]
  have b2 : (mE z1 z0 == 0) = false := by simp [unhide hn2]
  have b3 : (mE z0 z1 != 0) = true := by simp [unhide hn]
  clear hn hn2 A B
  generalize mE z0 z1 = n1 at *
  generalize mE z1 z0 = n2 at *
  obtain ⟨xx, xc, ex⟩ := rowF_slice (unhide Rx)
  subst ex
  go_wp2_with fail
  refine (from_any _ [] w7 (unhide Rx) (by decide)).mono ?_
  rintro e w8 ⟨u1, rfl, g⟩
  replace Rx := hide ((unhide Rx).keep g.below)
  replace Ry := hide ((unhide Ry).keep g.below)
  replace HB := hide (below_via (unhide HB) g.below)
  have Ru1 := hide g.row
  clear g
  go_wp2_with fail
  refine (from_any _ [] w8 (unhide Ry) (by decide)).mono ?_
  rintro e w9 ⟨u2, rfl, g⟩
  replace Rx := hide ((unhide Rx).keep g.below)
  replace Ry := hide ((unhide Ry).keep g.below)
  replace Ru1 := hide ((unhide Ru1).keep g.below)
  replace HB := hide (below_via (unhide HB) g.below)
  have Ru2 := hide g.row
  clear g
  have hF := hide (fsame_any _ _ [] [] w9 (unhide Ru1) (unhide Ru2))
  rw [sameF_refl] at hF
  go_wp2_with fail
  refine (unhide hF).mono ?_
  rintro e w10 ⟨rfl, n10, rfl⟩
  replace Rx := hide ((unhide Rx).later (w' := w9.drewN n10) (fun _ _ h => h))
  replace Ry := hide ((unhide Ry).later (w' := w9.drewN n10) (fun _ _ h => h))
  replace Ru1 := hide ((unhide Ru1).later (w' := w9.drewN n10) (fun _ _ h => h))
  replace Ru2 := hide ((unhide Ru2).later (w' := w9.drewN n10) (fun _ _ h => h))
  replace HB := hide (below_drewN (unhide HB) n10)
  clear hF
  generalize w9.drewN n10 = v10 at *
  go_wp2_with fail
  go_ret
  exact ⟨rfl, unhide HB⟩
set_option maxRecDepth 20000 in
set_option maxHeartbeats 2000000 in
theorem main_ok (a0 : Option Addr) (l0 c0 : Nat) (z0 : List (Int × Int)) (a1 : Option Addr) (l1 c1 : Nat) (z1 : List (Int × Int)) (d0 : decide ((200 : Int) < (l0 : Int)) = false) (d1 : decide ((200 : Int) < (l1 : Int)) = false) (hal : Hid Alive) (w : World) (A : Hid (RowF w (.slice a0 l0 c0) z0)) (B : Hid (RowF w (.slice a1 l1 c1) z1)) (LA : Hid (z0.length ≤ 1000)) (LB : Hid (z1.length ≤ 1000)) (hn : Hid (mE z0 z1 = 0)) (hn2 : Hid (mE z1 z0 = 0)) (hc0 : Hid (chkE z0 = 0)) (hc1 : Hid (chkE z1 = 0)) (hm : Hid (chkE (both z0 z1) = 0)) (ht : Hid (tot (both z0 z1) = tot z0 + tot z1)) (hnz : Hid (∀ f ∈ both z0 z1, f.2 ≠ 0)) (hl : Hid ((both z0 z1).length ≤ 600)) (hag : Hid (mE (both z0 z1) [] = 0 ∧ mL (both z0 z1) [] = both z0 z1)) : Calls Try.prog 5 #[.slice a0 l0 c0, .slice a1 l1 c1] w fun e w' => e = .returned (.bool true) ∧ Below w.heap.size w w' := by
  go_enter Try.func5, Try.ntmps5
  go_wp2_with fail
  refine (unhide hal w).mono ?_
  rintro e w1 ⟨rfl, b⟩
  replace A := hide ((unhide A).keep b)
  replace B := hide ((unhide B).keep b)
  have HB := hide b
  clear b
  go_wp2_with fail
  refine (to_any _ z0 w1 (unhide A) (unhide LA)).mono ?_
  rintro e w2 ⟨xa, rfl, g⟩
  replace A := hide ((unhide A).keep g.below)
  replace B := hide ((unhide B).keep g.below)
  replace HB := hide (below_via (unhide HB) g.below)
  have Rxa := hide g.row
  clear g
  go_wp2_with fail
  refine (to_any _ z1 w2 (unhide B) (unhide LB)).mono ?_
  rintro e w3 ⟨xb, rfl, g⟩
  replace A := hide ((unhide A).keep g.below)
  replace B := hide ((unhide B).keep g.below)
  replace Rxa := hide ((unhide Rxa).keep g.below)
  replace HB := hide (below_via (unhide HB) g.below)
  have Rxb := hide g.row
  clear g
  go_wp2_with fail
  refine (merge_all _ _ z0 z1 w3 (unhide Rxa) (unhide Rxb)).mono ?_
  rintro e w4 ⟨x, rfl, r, b⟩
  replace A := hide ((unhide A).keep b)
  replace B := hide ((unhide B).keep b)
  replace Rxa := hide ((unhide Rxa).keep b)
  replace Rxb := hide ((unhide Rxb).keep b)
  replace HB := hide (below_via (unhide HB) b)
  have Rx := hide r
  clear r b
  clear Rxa Rxb
  go_wp2_with fail
  refine (to_any _ z1 w4 (unhide B) (unhide LB)).mono ?_
  rintro e w5 ⟨xb, rfl, g⟩
  replace A := hide ((unhide A).keep g.below)
  replace B := hide ((unhide B).keep g.below)
  replace Rx := hide ((unhide Rx).keep g.below)
  replace HB := hide (below_via (unhide HB) g.below)
  have Rxb := hide g.row
  clear g
  go_wp2_with fail
  refine (to_any _ z0 w5 (unhide A) (unhide LA)).mono ?_
  rintro e w6 ⟨xa, rfl, g⟩
  replace A := hide ((unhide A).keep g.below)
  replace B := hide ((unhide B).keep g.below)
  replace Rx := hide ((unhide Rx).keep g.below)
  replace Rxb := hide ((unhide Rxb).keep g.below)
  replace HB := hide (below_via (unhide HB) g.below)
  have Rxa := hide g.row
  clear g
  go_wp2_with fail
  refine (merge_all _ _ z1 z0 w6 (unhide Rxb) (unhide Rxa)).mono ?_
  rintro e w7 ⟨y, rfl, r, b⟩
  replace A := hide ((unhide A).keep b)
  replace B := hide ((unhide B).keep b)
  replace Rx := hide ((unhide Rx).keep b)
  replace Rxb := hide ((unhide Rxb).keep b)
  replace Rxa := hide ((unhide Rxa).keep b)
  replace HB := hide (below_via (unhide HB) b)
  have Ry := hide r
  clear r b
  clear Rxa Rxb
  rw [mL_comm z0 z1] at Ry
  rw [show mL z0 z1 = both z0 z1 from if_pos (unhide hn)] at Rx Ry
  rw [unhide hn, unhide hn2]
  clear hn hn2
  generalize both z0 z1 = m at *
  obtain ⟨xx, xc, ex⟩ := rowF_slice (unhide Rx)
  subst ex
  have Lm : Hid (m.length ≤ 1000) := hide (by have := unhide hl; omega)
  go_wp2_with fail
  refine (from_any _ m w7 (unhide Rx) (unhide Lm)).mono ?_
  rintro e w8 ⟨u1, rfl, g⟩
  replace A := hide ((unhide A).keep g.below)
  replace B := hide ((unhide B).keep g.below)
  replace Rx := hide ((unhide Rx).keep g.below)
  replace Ry := hide ((unhide Ry).keep g.below)
  replace HB := hide (below_via (unhide HB) g.below)
  have Ru1 := hide g.row
  clear g
  go_wp2_with fail
  refine (from_any _ m w8 (unhide Ry) (unhide Lm)).mono ?_
  rintro e w9 ⟨u2, rfl, g⟩
  replace A := hide ((unhide A).keep g.below)
  replace B := hide ((unhide B).keep g.below)
  replace Rx := hide ((unhide Rx).keep g.below)
  replace Ry := hide ((unhide Ry).keep g.below)
  replace Ru1 := hide ((unhide Ru1).keep g.below)
  replace HB := hide (below_via (unhide HB) g.below)
  have Ru2 := hide g.row
  clear g
  have hF := hide (fsame_any _ _ m m w9 (unhide Ru1) (unhide Ru2))
  rw [sameF_refl] at hF
  go_wp2_with fail
  refine (unhide hF).mono ?_
  rintro e w10 ⟨rfl, n10, rfl⟩
  replace A := hide ((unhide A).later (w' := w9.drewN n10) (fun _ _ h => h))
  replace B := hide ((unhide B).later (w' := w9.drewN n10) (fun _ _ h => h))
  replace Rx := hide ((unhide Rx).later (w' := w9.drewN n10) (fun _ _ h => h))
  replace Ry := hide ((unhide Ry).later (w' := w9.drewN n10) (fun _ _ h => h))
  replace Ru1 := hide ((unhide Ru1).later (w' := w9.drewN n10) (fun _ _ h => h))
  replace Ru2 := hide ((unhide Ru2).later (w' := w9.drewN n10) (fun _ _ h => h))
  replace HB := hide (below_drewN (unhide HB) n10)
  clear hF
  generalize w9.drewN n10 = v10 at *
  clear Ru1 Ru2 Ry
  go_wp2_with fail
  refine (to_any _ z0 v10 (unhide A) (unhide LA)).mono ?_
  rintro e w11 ⟨ya, rfl, g⟩
  replace A := hide ((unhide A).keep g.below)
  replace B := hide ((unhide B).keep g.below)
  replace Rx := hide ((unhide Rx).keep g.below)
  replace HB := hide (below_via (unhide HB) g.below)
  have Rya := hide g.row
  clear g
  go_wp2_with fail
  refine (total_ok _ z0 w11 (unhide Rya) (unhide LA) (unhide hc0)).mono ?_
  rintro e w12 ⟨rfl, b⟩
  replace A := hide ((unhide A).keep b)
  replace B := hide ((unhide B).keep b)
  replace Rx := hide ((unhide Rx).keep b)
  replace Rya := hide ((unhide Rya).keep b)
  replace HB := hide (below_via (unhide HB) b)
  clear b
  clear Rya
  go_wp2_with fail
  refine (to_any _ z1 w12 (unhide B) (unhide LB)).mono ?_
  rintro e w13 ⟨yb, rfl, g⟩
  replace A := hide ((unhide A).keep g.below)
  replace B := hide ((unhide B).keep g.below)
  replace Rx := hide ((unhide Rx).keep g.below)
  replace HB := hide (below_via (unhide HB) g.below)
  have Ryb := hide g.row
  clear g
  go_wp2_with fail
  refine (total_ok _ z1 w13 (unhide Ryb) (unhide LB) (unhide hc1)).mono ?_
  rintro e w14 ⟨rfl, b⟩
  replace A := hide ((unhide A).keep b)
  replace B := hide ((unhide B).keep b)
  replace Rx := hide ((unhide Rx).keep b)
  replace Ryb := hide ((unhide Ryb).keep b)
  replace HB := hide (below_via (unhide HB) b)
  clear b
  clear Ryb
  go_wp2_with fail
  refine (total_ok _ m w14 (unhide Rx) (unhide Lm) (unhide hm)).mono ?_
  rintro e w15 ⟨rfl, b⟩
  replace A := hide ((unhide A).keep b)
  replace B := hide ((unhide B).keep b)
  replace Rx := hide ((unhide Rx).keep b)
  replace HB := hide (below_via (unhide HB) b)
  clear b
  have t0 := (tot_ok (unhide hc0)).2.2
  have t1 := (tot_ok (unhide hc1)).2.2
  rw [unhide ht]
  clear ht hc0 hc1 A B
  generalize tot z0 = S at *
  generalize tot z1 = T at *
  obtain ⟨t01, t02⟩ := t0
  obtain ⟨t11, t12⟩ := t1
  have hlm := unhide hl
  go_wp2_with fail
  go_loopw [82] (fun i wr => ∃ k : Nat, k ≤ m.length ∧ i = .int .i64 k ∧ Hid (Below w15.heap.size w15 wr)) (fun i _ => m.length - (intOf i).toNat)
  case atStart => exact ⟨0, Nat.zero_le _, rfl, hide (Below.refl _ _)⟩
  case round =>
    obtain ⟨k, hk, rfl, HW⟩ := hrel
    by_cases hlt : k < m.length
    · rcases unhide Rx with ⟨_, _, _, h, _⟩ | ⟨bb, oo, cc, h1, _, h3, h4, h5, h6⟩
      · rw [h] at hlt; cases hlt
      cases h1
      obtain ⟨c0, c1⟩ := (show CellsF w15 bb oo m from h5).keep (unhide HW) k hlt
      have hz := unhide hnz _ (getF_mem hlt)
      clear h3 h4 h5 h6
      generalize getF m k = f at *
      obtain ⟨d, x⟩ := f
      replace c0 : wr.cell? ⟨bb, oo + k * 2, none⟩ = some (.int .i64 d) := c0
      replace c1 : wr.cell? ⟨bb, oo + k * 2 + 1, none⟩ = some (.int .i64 x) := c1
      have hz1 : (x == 0) = false := by simpa using hz
      replace HW := hide (below_new2 (unhide HW) (.cells #[.int .i64 d, .int .i64 x] 39))
      clear hz
      go_wp2_with fail
      go_roundw
      case rel => exact ⟨k + 1, by omega, by go_num, HW⟩
      case measure => simp [intOf]; omega
    · have hkl : k = m.length := by omega
      subst hkl
      replace Rx := hide ((unhide Rx).keep (unhide HW))
      replace HB := hide (below_via (unhide HB) (unhide HW))
      clear HW
      go_wp2_with fail
      refine (merge_all _ _ m [] wr (unhide Rx) (rowF_nil _)).mono ?_
      rintro e w16 ⟨z, rfl, r, b⟩
      replace Rx := hide ((unhide Rx).keep b)
      replace HB := hide (below_via (unhide HB) b)
      have Rz := hide r
      clear r b
      rw [(unhide hag).2] at Rz
      rw [(unhide hag).1]
      have g1 : (S + T == S + T) = true := by simp
      go_wp2_with fail
      refine (check_any _ m w16 (unhide Rx)).mono ?_
      rintro e w17 ⟨rfl, b⟩
      replace Rx := hide ((unhide Rx).keep b)
      replace Rz := hide ((unhide Rz).keep b)
      replace HB := hide (below_via (unhide HB) b)
      clear b
      rw [unhide hm]
      go_wp2_with fail
      refine (from_any _ m w17 (unhide Rz) (unhide Lm)).mono ?_
      rintro e w18 ⟨u3, rfl, g⟩
      replace Rx := hide ((unhide Rx).keep g.below)
      replace Rz := hide ((unhide Rz).keep g.below)
      replace HB := hide (below_via (unhide HB) g.below)
      have Ru3 := hide g.row
      clear g
      go_wp2_with fail
      refine (from_any _ m w18 (unhide Rx) (unhide Lm)).mono ?_
      rintro e w19 ⟨u4, rfl, g⟩
      replace Rx := hide ((unhide Rx).keep g.below)
      replace Rz := hide ((unhide Rz).keep g.below)
      replace Ru3 := hide ((unhide Ru3).keep g.below)
      replace HB := hide (below_via (unhide HB) g.below)
      have Ru4 := hide g.row
      clear g
      have hF := hide (fsame_any _ _ m m w19 (unhide Ru3) (unhide Ru4))
      rw [sameF_refl] at hF
      go_wp2_with fail
      refine (unhide hF).mono ?_
      rintro e w20 ⟨rfl, n20, rfl⟩
      replace Rx := hide ((unhide Rx).later (w' := w19.drewN n20) (fun _ _ h => h))
      replace Rz := hide ((unhide Rz).later (w' := w19.drewN n20) (fun _ _ h => h))
      replace Ru3 := hide ((unhide Ru3).later (w' := w19.drewN n20) (fun _ _ h => h))
      replace Ru4 := hide ((unhide Ru4).later (w' := w19.drewN n20) (fun _ _ h => h))
      replace HB := hide (below_drewN (unhide HB) n20)
      clear hF
      generalize w19.drewN n20 = v20 at *
      go_wp2_with fail
      go_ret
      exact ⟨rfl, unhide HB⟩
theorem walk (a0 : Option Addr) (l0 c0 : Nat) (z0 : List (Int × Int)) (a1 : Option Addr) (l1 c1 : Nat) (z1 : List (Int × Int)) (w : World) (h0 : RowF w (.slice a0 l0 c0) z0) (h1 : RowF w (.slice a1 l1 c1) z1) : Calls Try.prog 5 #[.slice a0 l0 c0, .slice a1 l1 c1] w fun e w' => e = .returned (.bool true) ∧ Below w.heap.size w w' := by
  have hal := hide alive_any
  have e0 := rowF_len h0
  have e1 := rowF_len h1
  by_cases q0 : (200 : Int) < (l0 : Int)
  · exact l_1 a0 l0 c0 a1 l1 c1 (decide_eq_true q0) hal w
  · by_cases q1 : (200 : Int) < (l1 : Int)
    · exact l_2 a0 l0 c0 a1 l1 c1 (decide_eq_false q0) (decide_eq_true q1) hal w
    · by_cases h : mE z0 z1 = 0
      · obtain ⟨ca, cb, _, _, hl⟩ := mE_zero h
        exact main_ok a0 l0 c0 z0 a1 l1 c1 z1 (decide_eq_false q0) (decide_eq_false q1) hal w (hide h0) (hide h1) (hide (by omega)) (hide (by omega)) (hide h) (hide (mE_comm h)) (hide ca) (hide cb) (hide (chk_both h)) (hide (both_tot _ _)) (hide both_nz) (hide hl) (hide (mE_again h))
      · exact main_no a0 l0 c0 z0 a1 l1 c1 z1 (decide_eq_false q0) (decide_eq_false q1) hal w (hide h0) (hide h1) (hide (by omega)) (hide (by omega)) (hide h) (hide (fun c => h (mE_comm c)))
theorem own : ownKnob Try.prog.godebug = none := by kernel_rfl
theorem laidOut : laidOutB Try.prog = true := by kernel_rfl
set_option linter.unusedVariables false in
set_option maxRecDepth 100000 in
theorem lifted (os : Os) (started : os.Started) (H : Type) (enc : TypeId × Value → H) :
    ReturnsInHanded {} Try.checked os 5 .any (Rows.flowBothSpec.pre6 enc Try.prog Try.f5 Rows.flowBothRow.domain false) (Rows.flowBothSpec.post enc Try.prog Try.f5 false true false false) := by
  refine returnsInHanded_of_change (C := Try.checked) own started (by kernel_rfl) Try.func5
    (ChangeSpec.witness6 (enc := enc) (C := Try.checked) false ⟨#[], #[.slice none 0 0, .slice none 0 0], []⟩ 8 (by kernel_rfl) (by kernel_rfl) (by kernel_rfl) (by kernel_rfl)) ?_
  intro W base args ds gs before hval0 hW hcnd _
  have hval : ∀ (j : Nat) t v, Try.f5.params[j]? = some t → args[j]? = some v → Value.okWide Try.prog W .any base t v := hval0
  have hW' := hW
  obtain ⟨p, q, hA0, hV, rfl, hfz, hnd⟩ := hW
  have hA : DataW.TrodAll enc Try.prog W 0 (fun _ => true) true Try.f5.params.toList args.toList ds p := hA0
  rw [Try.params5] at hA hval
  obtain ⟨v0, vs0, d0, ds0, p0, q0, hargs, rfl, rfl, h0, r0⟩ := trodAll_cons hA
  obtain ⟨v1, vs1, d1, ds1, p1, q1, rfl, rfl, rfl, h1, r1⟩ := trodAll_cons r0
  obtain ⟨rfl, rfl, rfl⟩ := trodAll_nil r1
  obtain rfl : args = #[v0, v1] := by cases args; simp_all
  obtain ⟨rfl, rfl⟩ := trodVars_none hV
  obtain ⟨a0, len0, cap0, rfl⟩ := okWide_slice Try.underlying22 (hval 0 22 v0 rfl rfl)
  have k0 := h0
  have lt0 : ∀ x ∈ p0, x.block < W.heap.size := by obtain ⟨m, hm⟩ := k0; exact DataW.trod_lt m _ _ _ hm
  obtain ⟨z0, w0⟩ : ∃ l : List (Int × Int), RowF W (.slice a0 len0 cap0) l := by
    obtain ⟨fuel, hf⟩ := h0
    exact rowF_open Try.underlying22 Try.underlying40 (by kernel_rfl) rfl rfl (by kernel_rfl) (by kernel_rfl) Try.underlying3 Try.underlying2 hf
  obtain ⟨a1, len1, cap1, rfl⟩ := okWide_slice Try.underlying22 (hval 1 22 v1 rfl rfl)
  have k1 := h1
  have lt1 : ∀ x ∈ p1, x.block < W.heap.size := by obtain ⟨m, hm⟩ := k1; exact DataW.trod_lt m _ _ _ hm
  obtain ⟨z1, w1⟩ : ∃ l : List (Int × Int), RowF W (.slice a1 len1 cap1) l := by
    obtain ⟨fuel, hf⟩ := h1
    exact rowF_open Try.underlying22 Try.underlying40 (by kernel_rfl) rfl rfl (by kernel_rfl) (by kernel_rfl) Try.underlying3 Try.underlying2 hf
  clear hA0 hval0
  refine (walk a0 len0 cap0 z0 a1 len1 cap1 z1 W w0 w1).mono fun e W' ⟨he, bel⟩ => ?_
  subst he
  exact ⟨_, rfl, _, _, _, [], _, [], hW', trodAll_mk1 (shut_bool Try.underlying4 _), (trodAll_cons_mk (Below.trod laidOut (by kernel_rfl) (of_decide_eq_true (by kernel_rfl)) k0 bel lt0) (trodAll_cons_mk (Below.trod laidOut (by kernel_rfl) (of_decide_eq_true (by kernel_rfl)) k1 bel lt1) trodAll_mk0)), rfl, bel.frame _, fun h => by cases h⟩
theorem over : Rows.flowBothRow.holds Try.pinned (OpenSpec.ofChange Rows.flowBothSpec) :=
  OpenClaim.holds_of_wide 5 Try.f5 rfl rfl rfl rfl rfl rfl rfl ⟨rfl, rfl, rfl, rfl, rfl⟩ rfl rfl rfl rfl rfl (by kernel_rfl) Try.func5 (by kernel_rfl)
    (of_decide_eq_true (by kernel_rfl)) (by unfold Func.isWrapper; first | (rw [if_pos (by decide +kernel)]; kernel_rfl) | (rw [if_neg (by decide +kernel)]; exact ⟨rfl, rfl⟩))
    (fun os started H enc _ => lifted os started H enc)
/-- The statement. -/
theorem proved : Rows.FlowBothSaid := over
#print axioms proved
end Go.Proofs.Ytkjbkppjebljpaa.flowBoth
namespace Go.Proofs.Ytkjbkppjebljpaa
theorem flowBoth_holds : Rows.FlowBothSaid := flowBoth.proved
end Go.Proofs.Ytkjbkppjebljpaa
