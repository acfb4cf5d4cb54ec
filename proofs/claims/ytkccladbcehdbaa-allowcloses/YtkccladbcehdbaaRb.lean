/- The document's Roll, an open refused. -/
import Derived.Test.YtkccladbcehdbaaRa
namespace Go.Proofs.Ytkccladbcehdbaa
open Go.RowKit
set_option linter.unusedVariables false
set_option linter.unusedSimpArgs false
/-- A row of structs stays, where a block is written that is new since. -/
theorem rowG_past {m : Nat} {W W' : World} {x : Option Addr} {n c g : Nat} {l : List (List Value)} (h : RowG m W (.slice x n c) l) (k : Past W W' g) (hf : ∀ y, x = some y → 0 < n → y.block < g) : RowG m W' (.slice x n c) l := by
  rcases h with h | ⟨b, off, cap, h1, h2, h3, h4, h5, h6⟩
  · exact Or.inl h
  · refine Or.inr ⟨b, off, cap, h1, h2, h3, h4, fun j hj t ht => ?_, h6⟩
    injection h1 with e1 e2 e3
    have hb := hf _ e1 (by omega)
    have hB := k.bel (Nat.le_refl g) (Below.refl g W)
    exact (hB.cell (p := ⟨b, off + j * m + t, none⟩) hb).trans (h5 j hj t ht)
set_option maxRecDepth 20000 in
set_option maxHeartbeats 8000000 in
theorem rr_op0 (a b c : Int) (x : Option Addr) (n cap : Nat) (l : List Ch) (d1 : decide ((4096 : Int) < (n : Int)) = false) (w : World) (hR : RowG 5 w (.slice x n cap) (l.map chL)) (hl : Hid (l.length = n)) (hn : n ≤ 4096) (hok : AllOk l) (p0 : inB a 1152921504606846976 = false) : Calls Try.prog 12 #[.agg #[.int .i64 a, .int .i64 b, .int .i64 c], .slice x n cap] w fun q w' => q = .returned (.tuple #[.agg #[.int .i64 0, .int .i64 0, .int .i64 0, .int .i64 0, .int .i64 0, .int .i64 0, .int .i64 0, .int .i64 0, .int .i64 0, .int .i64 0, .int .i64 0, .int .i64 0, .int .i64 0, .int .i64 0, .int .i64 0, .int .i64 0, .int .i64 0, .int .i64 0], .int .i64 2]) ∧ Below w.heap.size w w' := by
  have HL : Hid (Below w.heap.size w ((w.alloc (.cells #[.int .i64 a, .int .i64 b, .int .i64 c] 22)).alloc (.cells #[.int .i64 0, .int .i64 0, .int .i64 0, .int .i64 0, .int .i64 0, .int .i64 0, .int .i64 0, .int .i64 0, .int .i64 0, .int .i64 0, .int .i64 0, .int .i64 0, .int .i64 0, .int .i64 0, .int .i64 0, .int .i64 0, .int .i64 0, .int .i64 0] 34))) := hide (below_via (below1 w _) (below1 _ _))
  have HO : Hid (Blk ((w.alloc (.cells #[.int .i64 a, .int .i64 b, .int .i64 c] 22)).alloc (.cells #[.int .i64 0, .int .i64 0, .int .i64 0, .int .i64 0, .int .i64 0, .int .i64 0, .int .i64 0, .int .i64 0, .int .i64 0, .int .i64 0, .int .i64 0, .int .i64 0, .int .i64 0, .int .i64 0, .int .i64 0, .int .i64 0, .int .i64 0, .int .i64 0] 34)) w.heap.size #[.int .i64 a, .int .i64 b, .int .i64 c] 22) := hide ((Blk.new w _ _).alloc _)
  have HR : Hid (Blk ((w.alloc (.cells #[.int .i64 a, .int .i64 b, .int .i64 c] 22)).alloc (.cells #[.int .i64 0, .int .i64 0, .int .i64 0, .int .i64 0, .int .i64 0, .int .i64 0, .int .i64 0, .int .i64 0, .int .i64 0, .int .i64 0, .int .i64 0, .int .i64 0, .int .i64 0, .int .i64 0, .int .i64 0, .int .i64 0, .int .i64 0, .int .i64 0] 34)) (w.heap.size + 1) #[.int .i64 0, .int .i64 0, .int .i64 0, .int .i64 0, .int .i64 0, .int .i64 0, .int .i64 0, .int .i64 0, .int .i64 0, .int .i64 0, .int .i64 0, .int .i64 0, .int .i64 0, .int .i64 0, .int .i64 0, .int .i64 0, .int .i64 0, .int .i64 0] 34) := hide (by have := Blk.new (w.alloc (.cells #[.int .i64 a, .int .i64 b, .int .i64 c] 22)) #[.int .i64 0, .int .i64 0, .int .i64 0, .int .i64 0, .int .i64 0, .int .i64 0, .int .i64 0, .int .i64 0, .int .i64 0, .int .i64 0, .int .i64 0, .int .i64 0, .int .i64 0, .int .i64 0, .int .i64 0, .int .i64 0, .int .i64 0, .int .i64 0] 34; simpa using this)
  have HU : Hid (RowG 5 ((w.alloc (.cells #[.int .i64 a, .int .i64 b, .int .i64 c] 22)).alloc (.cells #[.int .i64 0, .int .i64 0, .int .i64 0, .int .i64 0, .int .i64 0, .int .i64 0, .int .i64 0, .int .i64 0, .int .i64 0, .int .i64 0, .int .i64 0, .int .i64 0, .int .i64 0, .int .i64 0, .int .i64 0, .int .i64 0, .int .i64 0, .int .i64 0] 34)) (.slice x n cap) (l.map chL)) := hide ((hR.alloc _).alloc _)
  clear hR
  have HOK := hide hok
  clear hok
  go_enter Try.func12, Try.ntmps12
  go_wp2_with fail
  generalize (w.alloc (.cells #[.int .i64 a, .int .i64 b, .int .i64 c] 22)).alloc (.cells #[.int .i64 0, .int .i64 0, .int .i64 0, .int .i64 0, .int .i64 0, .int .i64 0, .int .i64 0, .int .i64 0, .int .i64 0, .int .i64 0, .int .i64 0, .int .i64 0, .int .i64 0, .int .i64 0, .int .i64 0, .int .i64 0, .int .i64 0, .int .i64 0] 34) = W0 at *
  go_loopw [20] (fun i wr => ∃ k : Nat, k ≤ n ∧ i = .int .i64 k ∧ Hid (Below W0.heap.size W0 wr)) (fun i _ => n - (intOf i).toNat)
  case atStart => exact ⟨0, by omega, rfl, hide (Below.refl _ _)⟩
  case round =>
    obtain ⟨k, hk, rfl, HB⟩ := hrel
    by_cases hlt : k < n
    · have hU2 := (show RowG _ _ _ _ from unhide HU).keep (unhide HB)
      obtain ⟨bb, off, cap', hx, _, _⟩ := hU2.open (by rw [List.length_map, unhide hl]; omega)
      injection hx with hx1 hx2 hx3
      subst hx1
      obtain ⟨m0, m1, m2, m3, m4⟩ := hU2.ch (k := k) (by rw [unhide hl]; exact hlt)
      have k1 : (k : Int) < (n : Int) := by omega
      have hb1 := hide (below_via (unhide HB) (below1 wr (.cells #[.int .i64 (chA l k).fr, .int .i64 (chA l k).to, .int .i64 (chA l k).was, .int .i64 (chA l k).now, .int .i64 (chA l k).wr] 47)))
      have hk1 := chA_ok (unhide HOK) (k := k) (by rw [unhide hl]; exact hlt)
      obtain ⟨⟨f1, f2⟩, ⟨f3, f4⟩, f5, f6, f7⟩ := hk1
      have q0 : decide ((chA l k).fr < 1) = false := decide_eq_false (by omega)
      have q1 : decide (3 < (chA l k).fr) = false := decide_eq_false (by omega)
      have q2 : decide ((chA l k).to < 1) = false := decide_eq_false (by omega)
      have q3 : decide (3 < (chA l k).to) = false := decide_eq_false (by omega)
      have q4 := inB_iff.2 f5
      have q5 := inB_iff.2 f6
      have q6 := inB_iff.2 f7
      clear f1 f2 f3 f4 f5 f6 f7
      generalize (chA l k).fr = f at *
      generalize (chA l k).to = t at *
      generalize (chA l k).was = x0 at *
      generalize (chA l k).now = x1 at *
      generalize (chA l k).wr = x2 at *
      clear hU2 hx2 hx3
      go_wp2_with fail
      refine (my_any x0 562949953421312 _).mono ?_
      rintro e w4 ⟨rfl, rfl⟩
      rw [q4]
      go_wp2_with fail
      refine (my_any x1 562949953421312 _).mono ?_
      rintro e w5 ⟨rfl, rfl⟩
      rw [q5]
      go_wp2_with fail
      refine (my_any x2 562949953421312 _).mono ?_
      rintro e w6 ⟨rfl, rfl⟩
      rw [q6]
      go_wp2_with fail
      go_roundw
      case rel => exact ⟨k + 1, by omega, by go_num, hb1⟩
      case measure => simp [intOf]; omega
    · obtain rfl : k = n := by omega
      replace HO := hide ((show Blk _ _ _ _ from unhide HO).keep (unhide HB))
      replace HR := hide ((show Blk _ _ _ _ from unhide HR).keep (unhide HB))
      replace HU := hide ((show RowG _ _ _ _ from unhide HU).keep (unhide HB))
      have hsz0 := (unhide HL).size
      have hlr := (show Blk _ _ _ _ from unhide HR).lt
      replace HL := hide (below_via (unhide HL) (unhide HB))
      clear HB
      have HX := hide (Blk.new wr #[.int .i64 0, .int .i64 0, .int .i64 0, .int .i64 0, .int .i64 0, .int .i64 0, .int .i64 0, .int .i64 0, .int .i64 0, .int .i64 0, .int .i64 0, .int .i64 0, .int .i64 0, .int .i64 0, .int .i64 0, .int .i64 0, .int .i64 0, .int .i64 0] 34)
      replace HO := hide ((show Blk _ _ _ _ from unhide HO).alloc (.cells #[.int .i64 0, .int .i64 0, .int .i64 0, .int .i64 0, .int .i64 0, .int .i64 0, .int .i64 0, .int .i64 0, .int .i64 0, .int .i64 0, .int .i64 0, .int .i64 0, .int .i64 0, .int .i64 0, .int .i64 0, .int .i64 0, .int .i64 0, .int .i64 0] 34))
      have o0 := (show Blk _ _ _ _ from unhide HO).at 0 (.int .i64 a) rfl
      have o1 := (show Blk _ _ _ _ from unhide HO).at 1 (.int .i64 b) rfl
      have o2 := (show Blk _ _ _ _ from unhide HO).at 2 (.int .i64 c) rfl
      replace HR := hide ((show Blk _ _ _ _ from unhide HR).alloc (.cells #[.int .i64 0, .int .i64 0, .int .i64 0, .int .i64 0, .int .i64 0, .int .i64 0, .int .i64 0, .int .i64 0, .int .i64 0, .int .i64 0, .int .i64 0, .int .i64 0, .int .i64 0, .int .i64 0, .int .i64 0, .int .i64 0, .int .i64 0, .int .i64 0] 34))
      replace HL := hide (below_via (unhide HL) (below1 wr (.cells #[.int .i64 0, .int .i64 0, .int .i64 0, .int .i64 0, .int .i64 0, .int .i64 0, .int .i64 0, .int .i64 0, .int .i64 0, .int .i64 0, .int .i64 0, .int .i64 0, .int .i64 0, .int .i64 0, .int .i64 0, .int .i64 0, .int .i64 0, .int .i64 0] 34)))
      replace HU := hide ((show RowG _ _ _ _ from unhide HU).alloc (.cells #[.int .i64 0, .int .i64 0, .int .i64 0, .int .i64 0, .int .i64 0, .int .i64 0, .int .i64 0, .int .i64 0, .int .i64 0, .int .i64 0, .int .i64 0, .int .i64 0, .int .i64 0, .int .i64 0, .int .i64 0, .int .i64 0, .int .i64 0, .int .i64 0] 34))
      go_wp2_with fail
      clear o0 o1 o2
      generalize wr.alloc (.cells #[.int .i64 0, .int .i64 0, .int .i64 0, .int .i64 0, .int .i64 0, .int .i64 0, .int .i64 0, .int .i64 0, .int .i64 0, .int .i64 0, .int .i64 0, .int .i64 0, .int .i64 0, .int .i64 0, .int .i64 0, .int .i64 0, .int .i64 0, .int .i64 0] 34) = V0 at *
      generalize hob : wr.heap.size = ob at *
      clear hob
      refine wp_loop_rounds 1 ?_
      rw [rounds_succ]
      go_wp2_with (simp only [ix22_0, ix22_1, ix22_2])
      refine (my_any a 1152921504606846976 _).mono ?_
      rintro e w0 ⟨rfl, rfl⟩
      rw [p0]
      go_wp2_with (refine store_blk rfl 34 _ _ rfl (show Blk _ _ _ _ from unhide HR) rfl rfl size34 rfl rfl rfl ?_)
      intro W1 k1 kp
      have k2 := kp.bel (by omega) (show Below _ _ _ from unhide HL)
      clear kp
      go_wp2_with fail
      exact bodyPost_ret (v := .tuple #[.agg #[.int .i64 0, .int .i64 0, .int .i64 0, .int .i64 0, .int .i64 0, .int .i64 0, .int .i64 0, .int .i64 0, .int .i64 0, .int .i64 0, .int .i64 0, .int .i64 0, .int .i64 0, .int .i64 0, .int .i64 0, .int .i64 0, .int .i64 0, .int .i64 0], .int .i64 2]) (res_ct (cs0 := #[.int .i64 0, .int .i64 0, .int .i64 0, .int .i64 0, .int .i64 0, .int .i64 0, .int .i64 0, .int .i64 0, .int .i64 0, .int .i64 0, .int .i64 0, .int .i64 0, .int .i64 0, .int .i64 0, .int .i64 0, .int .i64 0, .int .i64 0, .int .i64 0]) rfl k1 row34 size34 rfl rfl rfl) rfl ⟨rfl, k2⟩
set_option maxRecDepth 20000 in
set_option maxHeartbeats 8000000 in
theorem rr_op1 (a b c : Int) (x : Option Addr) (n cap : Nat) (l : List Ch) (d1 : decide ((4096 : Int) < (n : Int)) = false) (w : World) (hR : RowG 5 w (.slice x n cap) (l.map chL)) (hl : Hid (l.length = n)) (hn : n ≤ 4096) (hok : AllOk l) (p0 : inB a 1152921504606846976 = true) (p1 : inB b 1152921504606846976 = false) : Calls Try.prog 12 #[.agg #[.int .i64 a, .int .i64 b, .int .i64 c], .slice x n cap] w fun q w' => q = .returned (.tuple #[.agg #[.int .i64 0, .int .i64 0, .int .i64 0, .int .i64 0, .int .i64 0, .int .i64 0, .int .i64 0, .int .i64 0, .int .i64 0, .int .i64 0, .int .i64 0, .int .i64 0, .int .i64 0, .int .i64 0, .int .i64 0, .int .i64 0, .int .i64 0, .int .i64 0], .int .i64 2]) ∧ Below w.heap.size w w' := by
  have HL : Hid (Below w.heap.size w ((w.alloc (.cells #[.int .i64 a, .int .i64 b, .int .i64 c] 22)).alloc (.cells #[.int .i64 0, .int .i64 0, .int .i64 0, .int .i64 0, .int .i64 0, .int .i64 0, .int .i64 0, .int .i64 0, .int .i64 0, .int .i64 0, .int .i64 0, .int .i64 0, .int .i64 0, .int .i64 0, .int .i64 0, .int .i64 0, .int .i64 0, .int .i64 0] 34))) := hide (below_via (below1 w _) (below1 _ _))
  have HO : Hid (Blk ((w.alloc (.cells #[.int .i64 a, .int .i64 b, .int .i64 c] 22)).alloc (.cells #[.int .i64 0, .int .i64 0, .int .i64 0, .int .i64 0, .int .i64 0, .int .i64 0, .int .i64 0, .int .i64 0, .int .i64 0, .int .i64 0, .int .i64 0, .int .i64 0, .int .i64 0, .int .i64 0, .int .i64 0, .int .i64 0, .int .i64 0, .int .i64 0] 34)) w.heap.size #[.int .i64 a, .int .i64 b, .int .i64 c] 22) := hide ((Blk.new w _ _).alloc _)
  have HR : Hid (Blk ((w.alloc (.cells #[.int .i64 a, .int .i64 b, .int .i64 c] 22)).alloc (.cells #[.int .i64 0, .int .i64 0, .int .i64 0, .int .i64 0, .int .i64 0, .int .i64 0, .int .i64 0, .int .i64 0, .int .i64 0, .int .i64 0, .int .i64 0, .int .i64 0, .int .i64 0, .int .i64 0, .int .i64 0, .int .i64 0, .int .i64 0, .int .i64 0] 34)) (w.heap.size + 1) #[.int .i64 0, .int .i64 0, .int .i64 0, .int .i64 0, .int .i64 0, .int .i64 0, .int .i64 0, .int .i64 0, .int .i64 0, .int .i64 0, .int .i64 0, .int .i64 0, .int .i64 0, .int .i64 0, .int .i64 0, .int .i64 0, .int .i64 0, .int .i64 0] 34) := hide (by have := Blk.new (w.alloc (.cells #[.int .i64 a, .int .i64 b, .int .i64 c] 22)) #[.int .i64 0, .int .i64 0, .int .i64 0, .int .i64 0, .int .i64 0, .int .i64 0, .int .i64 0, .int .i64 0, .int .i64 0, .int .i64 0, .int .i64 0, .int .i64 0, .int .i64 0, .int .i64 0, .int .i64 0, .int .i64 0, .int .i64 0, .int .i64 0] 34; simpa using this)
  have HU : Hid (RowG 5 ((w.alloc (.cells #[.int .i64 a, .int .i64 b, .int .i64 c] 22)).alloc (.cells #[.int .i64 0, .int .i64 0, .int .i64 0, .int .i64 0, .int .i64 0, .int .i64 0, .int .i64 0, .int .i64 0, .int .i64 0, .int .i64 0, .int .i64 0, .int .i64 0, .int .i64 0, .int .i64 0, .int .i64 0, .int .i64 0, .int .i64 0, .int .i64 0] 34)) (.slice x n cap) (l.map chL)) := hide ((hR.alloc _).alloc _)
  clear hR
  have HOK := hide hok
  clear hok
  go_enter Try.func12, Try.ntmps12
  go_wp2_with fail
  generalize (w.alloc (.cells #[.int .i64 a, .int .i64 b, .int .i64 c] 22)).alloc (.cells #[.int .i64 0, .int .i64 0, .int .i64 0, .int .i64 0, .int .i64 0, .int .i64 0, .int .i64 0, .int .i64 0, .int .i64 0, .int .i64 0, .int .i64 0, .int .i64 0, .int .i64 0, .int .i64 0, .int .i64 0, .int .i64 0, .int .i64 0, .int .i64 0] 34) = W0 at *
  go_loopw [20] (fun i wr => ∃ k : Nat, k ≤ n ∧ i = .int .i64 k ∧ Hid (Below W0.heap.size W0 wr)) (fun i _ => n - (intOf i).toNat)
  case atStart => exact ⟨0, by omega, rfl, hide (Below.refl _ _)⟩
  case round =>
    obtain ⟨k, hk, rfl, HB⟩ := hrel
    by_cases hlt : k < n
    · have hU2 := (show RowG _ _ _ _ from unhide HU).keep (unhide HB)
      obtain ⟨bb, off, cap', hx, _, _⟩ := hU2.open (by rw [List.length_map, unhide hl]; omega)
      injection hx with hx1 hx2 hx3
      subst hx1
      obtain ⟨m0, m1, m2, m3, m4⟩ := hU2.ch (k := k) (by rw [unhide hl]; exact hlt)
      have k1 : (k : Int) < (n : Int) := by omega
      have hb1 := hide (below_via (unhide HB) (below1 wr (.cells #[.int .i64 (chA l k).fr, .int .i64 (chA l k).to, .int .i64 (chA l k).was, .int .i64 (chA l k).now, .int .i64 (chA l k).wr] 47)))
      have hk1 := chA_ok (unhide HOK) (k := k) (by rw [unhide hl]; exact hlt)
      obtain ⟨⟨f1, f2⟩, ⟨f3, f4⟩, f5, f6, f7⟩ := hk1
      have q0 : decide ((chA l k).fr < 1) = false := decide_eq_false (by omega)
      have q1 : decide (3 < (chA l k).fr) = false := decide_eq_false (by omega)
      have q2 : decide ((chA l k).to < 1) = false := decide_eq_false (by omega)
      have q3 : decide (3 < (chA l k).to) = false := decide_eq_false (by omega)
      have q4 := inB_iff.2 f5
      have q5 := inB_iff.2 f6
      have q6 := inB_iff.2 f7
      clear f1 f2 f3 f4 f5 f6 f7
      generalize (chA l k).fr = f at *
      generalize (chA l k).to = t at *
      generalize (chA l k).was = x0 at *
      generalize (chA l k).now = x1 at *
      generalize (chA l k).wr = x2 at *
      clear hU2 hx2 hx3
      go_wp2_with fail
      refine (my_any x0 562949953421312 _).mono ?_
      rintro e w4 ⟨rfl, rfl⟩
      rw [q4]
      go_wp2_with fail
      refine (my_any x1 562949953421312 _).mono ?_
      rintro e w5 ⟨rfl, rfl⟩
      rw [q5]
      go_wp2_with fail
      refine (my_any x2 562949953421312 _).mono ?_
      rintro e w6 ⟨rfl, rfl⟩
      rw [q6]
      go_wp2_with fail
      go_roundw
      case rel => exact ⟨k + 1, by omega, by go_num, hb1⟩
      case measure => simp [intOf]; omega
    · obtain rfl : k = n := by omega
      replace HO := hide ((show Blk _ _ _ _ from unhide HO).keep (unhide HB))
      replace HR := hide ((show Blk _ _ _ _ from unhide HR).keep (unhide HB))
      replace HU := hide ((show RowG _ _ _ _ from unhide HU).keep (unhide HB))
      have hsz0 := (unhide HL).size
      have hlr := (show Blk _ _ _ _ from unhide HR).lt
      replace HL := hide (below_via (unhide HL) (unhide HB))
      clear HB
      have HX := hide (Blk.new wr #[.int .i64 0, .int .i64 0, .int .i64 0, .int .i64 0, .int .i64 0, .int .i64 0, .int .i64 0, .int .i64 0, .int .i64 0, .int .i64 0, .int .i64 0, .int .i64 0, .int .i64 0, .int .i64 0, .int .i64 0, .int .i64 0, .int .i64 0, .int .i64 0] 34)
      replace HO := hide ((show Blk _ _ _ _ from unhide HO).alloc (.cells #[.int .i64 0, .int .i64 0, .int .i64 0, .int .i64 0, .int .i64 0, .int .i64 0, .int .i64 0, .int .i64 0, .int .i64 0, .int .i64 0, .int .i64 0, .int .i64 0, .int .i64 0, .int .i64 0, .int .i64 0, .int .i64 0, .int .i64 0, .int .i64 0] 34))
      have o0 := (show Blk _ _ _ _ from unhide HO).at 0 (.int .i64 a) rfl
      have o1 := (show Blk _ _ _ _ from unhide HO).at 1 (.int .i64 b) rfl
      have o2 := (show Blk _ _ _ _ from unhide HO).at 2 (.int .i64 c) rfl
      replace HR := hide ((show Blk _ _ _ _ from unhide HR).alloc (.cells #[.int .i64 0, .int .i64 0, .int .i64 0, .int .i64 0, .int .i64 0, .int .i64 0, .int .i64 0, .int .i64 0, .int .i64 0, .int .i64 0, .int .i64 0, .int .i64 0, .int .i64 0, .int .i64 0, .int .i64 0, .int .i64 0, .int .i64 0, .int .i64 0] 34))
      replace HL := hide (below_via (unhide HL) (below1 wr (.cells #[.int .i64 0, .int .i64 0, .int .i64 0, .int .i64 0, .int .i64 0, .int .i64 0, .int .i64 0, .int .i64 0, .int .i64 0, .int .i64 0, .int .i64 0, .int .i64 0, .int .i64 0, .int .i64 0, .int .i64 0, .int .i64 0, .int .i64 0, .int .i64 0] 34)))
      replace HU := hide ((show RowG _ _ _ _ from unhide HU).alloc (.cells #[.int .i64 0, .int .i64 0, .int .i64 0, .int .i64 0, .int .i64 0, .int .i64 0, .int .i64 0, .int .i64 0, .int .i64 0, .int .i64 0, .int .i64 0, .int .i64 0, .int .i64 0, .int .i64 0, .int .i64 0, .int .i64 0, .int .i64 0, .int .i64 0] 34))
      go_wp2_with fail
      clear o0 o1 o2
      generalize wr.alloc (.cells #[.int .i64 0, .int .i64 0, .int .i64 0, .int .i64 0, .int .i64 0, .int .i64 0, .int .i64 0, .int .i64 0, .int .i64 0, .int .i64 0, .int .i64 0, .int .i64 0, .int .i64 0, .int .i64 0, .int .i64 0, .int .i64 0, .int .i64 0, .int .i64 0] 34) = V0 at *
      generalize hob : wr.heap.size = ob at *
      clear hob
      refine wp_loop_rounds 2 ?_
      rw [rounds_succ]
      have cz := (show Blk _ _ _ _ from unhide HX).at 0 (.int .i64 0) rfl
      have fz := (show Blk _ _ _ _ from unhide HX).fz 0
      go_wp2_with (simp only [ix22_0, ix22_1, ix22_2])
      refine (my_any a 1152921504606846976 _).mono ?_
      rintro e w0 ⟨rfl, rfl⟩
      rw [p0]
      go_wp2_with fail
      replace HX : Hid (Blk (V0.setCell ⟨ob, 0, none⟩ (.int .i64 a)) ob #[.int .i64 a, .int .i64 0, .int .i64 0, .int .i64 0, .int .i64 0, .int .i64 0, .int .i64 0, .int .i64 0, .int .i64 0, .int .i64 0, .int .i64 0, .int .i64 0, .int .i64 0, .int .i64 0, .int .i64 0, .int .i64 0, .int .i64 0, .int .i64 0] 34) := hide ((show Blk _ _ _ _ from unhide HX).set 0 (.int .i64 a))
      have HP0 := hide (past_setCells (b := ob) [Value.int .i64 a] 0 V0)
      replace HR := hide ((unhide HP0).blk (show w.heap.size + 1 ≠ ob by omega) (show Blk _ _ _ _ from unhide HR))
      replace HL := hide ((unhide HP0).bel (show w.heap.size ≤ ob by omega) (unhide HL))
      clear cz fz HP0
      change Hid (Blk (V0.setCell ⟨ob, 0, none⟩ (.int .i64 a)) _ _ _) at HR
      change Hid (Below _ _ (V0.setCell ⟨ob, 0, none⟩ (.int .i64 a))) at HL
      generalize V0.setCell ⟨ob, 0, none⟩ (.int .i64 a) = V1 at *
      rw [rounds_succ]
      go_wp2_with (simp only [ix22_0, ix22_1, ix22_2])
      refine (my_any b 1152921504606846976 _).mono ?_
      rintro e w1 ⟨rfl, rfl⟩
      rw [p1]
      go_wp2_with (refine store_blk rfl 34 _ _ rfl (show Blk _ _ _ _ from unhide HR) rfl rfl size34 rfl rfl rfl ?_)
      intro W1 k1 kp
      have k2 := kp.bel (by omega) (show Below _ _ _ from unhide HL)
      clear kp
      go_wp2_with fail
      exact bodyPost_ret (v := .tuple #[.agg #[.int .i64 0, .int .i64 0, .int .i64 0, .int .i64 0, .int .i64 0, .int .i64 0, .int .i64 0, .int .i64 0, .int .i64 0, .int .i64 0, .int .i64 0, .int .i64 0, .int .i64 0, .int .i64 0, .int .i64 0, .int .i64 0, .int .i64 0, .int .i64 0], .int .i64 2]) (res_ct (cs0 := #[.int .i64 0, .int .i64 0, .int .i64 0, .int .i64 0, .int .i64 0, .int .i64 0, .int .i64 0, .int .i64 0, .int .i64 0, .int .i64 0, .int .i64 0, .int .i64 0, .int .i64 0, .int .i64 0, .int .i64 0, .int .i64 0, .int .i64 0, .int .i64 0]) rfl k1 row34 size34 rfl rfl rfl) rfl ⟨rfl, k2⟩
set_option maxRecDepth 20000 in
set_option maxHeartbeats 8000000 in
theorem rr_op2 (a b c : Int) (x : Option Addr) (n cap : Nat) (l : List Ch) (d1 : decide ((4096 : Int) < (n : Int)) = false) (w : World) (hR : RowG 5 w (.slice x n cap) (l.map chL)) (hl : Hid (l.length = n)) (hn : n ≤ 4096) (hok : AllOk l) (p0 : inB a 1152921504606846976 = true) (p1 : inB b 1152921504606846976 = true) (p2 : inB c 1152921504606846976 = false) : Calls Try.prog 12 #[.agg #[.int .i64 a, .int .i64 b, .int .i64 c], .slice x n cap] w fun q w' => q = .returned (.tuple #[.agg #[.int .i64 0, .int .i64 0, .int .i64 0, .int .i64 0, .int .i64 0, .int .i64 0, .int .i64 0, .int .i64 0, .int .i64 0, .int .i64 0, .int .i64 0, .int .i64 0, .int .i64 0, .int .i64 0, .int .i64 0, .int .i64 0, .int .i64 0, .int .i64 0], .int .i64 2]) ∧ Below w.heap.size w w' := by
  have HL : Hid (Below w.heap.size w ((w.alloc (.cells #[.int .i64 a, .int .i64 b, .int .i64 c] 22)).alloc (.cells #[.int .i64 0, .int .i64 0, .int .i64 0, .int .i64 0, .int .i64 0, .int .i64 0, .int .i64 0, .int .i64 0, .int .i64 0, .int .i64 0, .int .i64 0, .int .i64 0, .int .i64 0, .int .i64 0, .int .i64 0, .int .i64 0, .int .i64 0, .int .i64 0] 34))) := hide (below_via (below1 w _) (below1 _ _))
  have HO : Hid (Blk ((w.alloc (.cells #[.int .i64 a, .int .i64 b, .int .i64 c] 22)).alloc (.cells #[.int .i64 0, .int .i64 0, .int .i64 0, .int .i64 0, .int .i64 0, .int .i64 0, .int .i64 0, .int .i64 0, .int .i64 0, .int .i64 0, .int .i64 0, .int .i64 0, .int .i64 0, .int .i64 0, .int .i64 0, .int .i64 0, .int .i64 0, .int .i64 0] 34)) w.heap.size #[.int .i64 a, .int .i64 b, .int .i64 c] 22) := hide ((Blk.new w _ _).alloc _)
  have HR : Hid (Blk ((w.alloc (.cells #[.int .i64 a, .int .i64 b, .int .i64 c] 22)).alloc (.cells #[.int .i64 0, .int .i64 0, .int .i64 0, .int .i64 0, .int .i64 0, .int .i64 0, .int .i64 0, .int .i64 0, .int .i64 0, .int .i64 0, .int .i64 0, .int .i64 0, .int .i64 0, .int .i64 0, .int .i64 0, .int .i64 0, .int .i64 0, .int .i64 0] 34)) (w.heap.size + 1) #[.int .i64 0, .int .i64 0, .int .i64 0, .int .i64 0, .int .i64 0, .int .i64 0, .int .i64 0, .int .i64 0, .int .i64 0, .int .i64 0, .int .i64 0, .int .i64 0, .int .i64 0, .int .i64 0, .int .i64 0, .int .i64 0, .int .i64 0, .int .i64 0] 34) := hide (by have := Blk.new (w.alloc (.cells #[.int .i64 a, .int .i64 b, .int .i64 c] 22)) #[.int .i64 0, .int .i64 0, .int .i64 0, .int .i64 0, .int .i64 0, .int .i64 0, .int .i64 0, .int .i64 0, .int .i64 0, .int .i64 0, .int .i64 0, .int .i64 0, .int .i64 0, .int .i64 0, .int .i64 0, .int .i64 0, .int .i64 0, .int .i64 0] 34; simpa using this)
  have HU : Hid (RowG 5 ((w.alloc (.cells #[.int .i64 a, .int .i64 b, .int .i64 c] 22)).alloc (.cells #[.int .i64 0, .int .i64 0, .int .i64 0, .int .i64 0, .int .i64 0, .int .i64 0, .int .i64 0, .int .i64 0, .int .i64 0, .int .i64 0, .int .i64 0, .int .i64 0, .int .i64 0, .int .i64 0, .int .i64 0, .int .i64 0, .int .i64 0, .int .i64 0] 34)) (.slice x n cap) (l.map chL)) := hide ((hR.alloc _).alloc _)
  clear hR
  have HOK := hide hok
  clear hok
  go_enter Try.func12, Try.ntmps12
  go_wp2_with fail
  generalize (w.alloc (.cells #[.int .i64 a, .int .i64 b, .int .i64 c] 22)).alloc (.cells #[.int .i64 0, .int .i64 0, .int .i64 0, .int .i64 0, .int .i64 0, .int .i64 0, .int .i64 0, .int .i64 0, .int .i64 0, .int .i64 0, .int .i64 0, .int .i64 0, .int .i64 0, .int .i64 0, .int .i64 0, .int .i64 0, .int .i64 0, .int .i64 0] 34) = W0 at *
  go_loopw [20] (fun i wr => ∃ k : Nat, k ≤ n ∧ i = .int .i64 k ∧ Hid (Below W0.heap.size W0 wr)) (fun i _ => n - (intOf i).toNat)
  case atStart => exact ⟨0, by omega, rfl, hide (Below.refl _ _)⟩
  case round =>
    obtain ⟨k, hk, rfl, HB⟩ := hrel
    by_cases hlt : k < n
    · have hU2 := (show RowG _ _ _ _ from unhide HU).keep (unhide HB)
      obtain ⟨bb, off, cap', hx, _, _⟩ := hU2.open (by rw [List.length_map, unhide hl]; omega)
      injection hx with hx1 hx2 hx3
      subst hx1
      obtain ⟨m0, m1, m2, m3, m4⟩ := hU2.ch (k := k) (by rw [unhide hl]; exact hlt)
      have k1 : (k : Int) < (n : Int) := by omega
      have hb1 := hide (below_via (unhide HB) (below1 wr (.cells #[.int .i64 (chA l k).fr, .int .i64 (chA l k).to, .int .i64 (chA l k).was, .int .i64 (chA l k).now, .int .i64 (chA l k).wr] 47)))
      have hk1 := chA_ok (unhide HOK) (k := k) (by rw [unhide hl]; exact hlt)
      obtain ⟨⟨f1, f2⟩, ⟨f3, f4⟩, f5, f6, f7⟩ := hk1
      have q0 : decide ((chA l k).fr < 1) = false := decide_eq_false (by omega)
      have q1 : decide (3 < (chA l k).fr) = false := decide_eq_false (by omega)
      have q2 : decide ((chA l k).to < 1) = false := decide_eq_false (by omega)
      have q3 : decide (3 < (chA l k).to) = false := decide_eq_false (by omega)
      have q4 := inB_iff.2 f5
      have q5 := inB_iff.2 f6
      have q6 := inB_iff.2 f7
      clear f1 f2 f3 f4 f5 f6 f7
      generalize (chA l k).fr = f at *
      generalize (chA l k).to = t at *
      generalize (chA l k).was = x0 at *
      generalize (chA l k).now = x1 at *
      generalize (chA l k).wr = x2 at *
      clear hU2 hx2 hx3
      go_wp2_with fail
      refine (my_any x0 562949953421312 _).mono ?_
      rintro e w4 ⟨rfl, rfl⟩
      rw [q4]
      go_wp2_with fail
      refine (my_any x1 562949953421312 _).mono ?_
      rintro e w5 ⟨rfl, rfl⟩
      rw [q5]
      go_wp2_with fail
      refine (my_any x2 562949953421312 _).mono ?_
      rintro e w6 ⟨rfl, rfl⟩
      rw [q6]
      go_wp2_with fail
      go_roundw
      case rel => exact ⟨k + 1, by omega, by go_num, hb1⟩
      case measure => simp [intOf]; omega
    · obtain rfl : k = n := by omega
      replace HO := hide ((show Blk _ _ _ _ from unhide HO).keep (unhide HB))
      replace HR := hide ((show Blk _ _ _ _ from unhide HR).keep (unhide HB))
      replace HU := hide ((show RowG _ _ _ _ from unhide HU).keep (unhide HB))
      have hsz0 := (unhide HL).size
      have hlr := (show Blk _ _ _ _ from unhide HR).lt
      replace HL := hide (below_via (unhide HL) (unhide HB))
      clear HB
      have HX := hide (Blk.new wr #[.int .i64 0, .int .i64 0, .int .i64 0, .int .i64 0, .int .i64 0, .int .i64 0, .int .i64 0, .int .i64 0, .int .i64 0, .int .i64 0, .int .i64 0, .int .i64 0, .int .i64 0, .int .i64 0, .int .i64 0, .int .i64 0, .int .i64 0, .int .i64 0] 34)
      replace HO := hide ((show Blk _ _ _ _ from unhide HO).alloc (.cells #[.int .i64 0, .int .i64 0, .int .i64 0, .int .i64 0, .int .i64 0, .int .i64 0, .int .i64 0, .int .i64 0, .int .i64 0, .int .i64 0, .int .i64 0, .int .i64 0, .int .i64 0, .int .i64 0, .int .i64 0, .int .i64 0, .int .i64 0, .int .i64 0] 34))
      have o0 := (show Blk _ _ _ _ from unhide HO).at 0 (.int .i64 a) rfl
      have o1 := (show Blk _ _ _ _ from unhide HO).at 1 (.int .i64 b) rfl
      have o2 := (show Blk _ _ _ _ from unhide HO).at 2 (.int .i64 c) rfl
      replace HR := hide ((show Blk _ _ _ _ from unhide HR).alloc (.cells #[.int .i64 0, .int .i64 0, .int .i64 0, .int .i64 0, .int .i64 0, .int .i64 0, .int .i64 0, .int .i64 0, .int .i64 0, .int .i64 0, .int .i64 0, .int .i64 0, .int .i64 0, .int .i64 0, .int .i64 0, .int .i64 0, .int .i64 0, .int .i64 0] 34))
      replace HL := hide (below_via (unhide HL) (below1 wr (.cells #[.int .i64 0, .int .i64 0, .int .i64 0, .int .i64 0, .int .i64 0, .int .i64 0, .int .i64 0, .int .i64 0, .int .i64 0, .int .i64 0, .int .i64 0, .int .i64 0, .int .i64 0, .int .i64 0, .int .i64 0, .int .i64 0, .int .i64 0, .int .i64 0] 34)))
      replace HU := hide ((show RowG _ _ _ _ from unhide HU).alloc (.cells #[.int .i64 0, .int .i64 0, .int .i64 0, .int .i64 0, .int .i64 0, .int .i64 0, .int .i64 0, .int .i64 0, .int .i64 0, .int .i64 0, .int .i64 0, .int .i64 0, .int .i64 0, .int .i64 0, .int .i64 0, .int .i64 0, .int .i64 0, .int .i64 0] 34))
      go_wp2_with fail
      clear o0 o1 o2
      generalize wr.alloc (.cells #[.int .i64 0, .int .i64 0, .int .i64 0, .int .i64 0, .int .i64 0, .int .i64 0, .int .i64 0, .int .i64 0, .int .i64 0, .int .i64 0, .int .i64 0, .int .i64 0, .int .i64 0, .int .i64 0, .int .i64 0, .int .i64 0, .int .i64 0, .int .i64 0] 34) = V0 at *
      generalize hob : wr.heap.size = ob at *
      clear hob
      refine wp_loop_rounds 3 ?_
      rw [rounds_succ]
      have cz := (show Blk _ _ _ _ from unhide HX).at 0 (.int .i64 0) rfl
      have fz := (show Blk _ _ _ _ from unhide HX).fz 0
      go_wp2_with (simp only [ix22_0, ix22_1, ix22_2])
      refine (my_any a 1152921504606846976 _).mono ?_
      rintro e w0 ⟨rfl, rfl⟩
      rw [p0]
      go_wp2_with fail
      replace HX : Hid (Blk (V0.setCell ⟨ob, 0, none⟩ (.int .i64 a)) ob #[.int .i64 a, .int .i64 0, .int .i64 0, .int .i64 0, .int .i64 0, .int .i64 0, .int .i64 0, .int .i64 0, .int .i64 0, .int .i64 0, .int .i64 0, .int .i64 0, .int .i64 0, .int .i64 0, .int .i64 0, .int .i64 0, .int .i64 0, .int .i64 0] 34) := hide ((show Blk _ _ _ _ from unhide HX).set 0 (.int .i64 a))
      have HP0 := hide (past_setCells (b := ob) [Value.int .i64 a] 0 V0)
      replace HR := hide ((unhide HP0).blk (show w.heap.size + 1 ≠ ob by omega) (show Blk _ _ _ _ from unhide HR))
      replace HL := hide ((unhide HP0).bel (show w.heap.size ≤ ob by omega) (unhide HL))
      clear cz fz HP0
      change Hid (Blk (V0.setCell ⟨ob, 0, none⟩ (.int .i64 a)) _ _ _) at HR
      change Hid (Below _ _ (V0.setCell ⟨ob, 0, none⟩ (.int .i64 a))) at HL
      generalize V0.setCell ⟨ob, 0, none⟩ (.int .i64 a) = V1 at *
      rw [rounds_succ]
      have cz := (show Blk _ _ _ _ from unhide HX).at 6 (.int .i64 0) rfl
      have fz := (show Blk _ _ _ _ from unhide HX).fz 6
      go_wp2_with (simp only [ix22_0, ix22_1, ix22_2])
      refine (my_any b 1152921504606846976 _).mono ?_
      rintro e w1 ⟨rfl, rfl⟩
      rw [p1]
      go_wp2_with fail
      replace HX : Hid (Blk (V1.setCell ⟨ob, 6, none⟩ (.int .i64 b)) ob #[.int .i64 a, .int .i64 0, .int .i64 0, .int .i64 0, .int .i64 0, .int .i64 0, .int .i64 b, .int .i64 0, .int .i64 0, .int .i64 0, .int .i64 0, .int .i64 0, .int .i64 0, .int .i64 0, .int .i64 0, .int .i64 0, .int .i64 0, .int .i64 0] 34) := hide ((show Blk _ _ _ _ from unhide HX).set 6 (.int .i64 b))
      have HP1 := hide (past_setCells (b := ob) [Value.int .i64 b] 6 V1)
      replace HR := hide ((unhide HP1).blk (show w.heap.size + 1 ≠ ob by omega) (show Blk _ _ _ _ from unhide HR))
      replace HL := hide ((unhide HP1).bel (show w.heap.size ≤ ob by omega) (unhide HL))
      clear cz fz HP1
      change Hid (Blk (V1.setCell ⟨ob, 6, none⟩ (.int .i64 b)) _ _ _) at HR
      change Hid (Below _ _ (V1.setCell ⟨ob, 6, none⟩ (.int .i64 b))) at HL
      generalize V1.setCell ⟨ob, 6, none⟩ (.int .i64 b) = V2 at *
      rw [rounds_succ]
      go_wp2_with (simp only [ix22_0, ix22_1, ix22_2])
      refine (my_any c 1152921504606846976 _).mono ?_
      rintro e w2 ⟨rfl, rfl⟩
      rw [p2]
      go_wp2_with (refine store_blk rfl 34 _ _ rfl (show Blk _ _ _ _ from unhide HR) rfl rfl size34 rfl rfl rfl ?_)
      intro W1 k1 kp
      have k2 := kp.bel (by omega) (show Below _ _ _ from unhide HL)
      clear kp
      go_wp2_with fail
      exact bodyPost_ret (v := .tuple #[.agg #[.int .i64 0, .int .i64 0, .int .i64 0, .int .i64 0, .int .i64 0, .int .i64 0, .int .i64 0, .int .i64 0, .int .i64 0, .int .i64 0, .int .i64 0, .int .i64 0, .int .i64 0, .int .i64 0, .int .i64 0, .int .i64 0, .int .i64 0, .int .i64 0], .int .i64 2]) (res_ct (cs0 := #[.int .i64 0, .int .i64 0, .int .i64 0, .int .i64 0, .int .i64 0, .int .i64 0, .int .i64 0, .int .i64 0, .int .i64 0, .int .i64 0, .int .i64 0, .int .i64 0, .int .i64 0, .int .i64 0, .int .i64 0, .int .i64 0, .int .i64 0, .int .i64 0]) rfl k1 row34 size34 rfl rfl rfl) rfl ⟨rfl, k2⟩
end Go.Proofs.Ytkccladbcehdbaa
