/- The document's Roll, refused. -/
import Derived.Test.YtkccladbcehdbaaRq
namespace Go.Proofs.Ytkccladbcehdbaa
open Go.RowKit
set_option linter.unusedVariables false
set_option linter.unusedSimpArgs false
theorem size34 : (Try.prog.info? 34).map (·.size) = some 18 := by kernel_rfl
theorem row34 : isRowB Try.prog 34 = true := by kernel_rfl
set_option maxRecDepth 20000 in
theorem rr_full (a b c : Int) (x : Option Addr) (n cap : Nat) (d1 : decide ((4096 : Int) < (n : Int)) = true) (w : World) : Calls Try.prog 12 #[.agg #[.int .i64 a, .int .i64 b, .int .i64 c], .slice x n cap] w fun q w' => q = .returned (.tuple #[.agg #[.int .i64 0, .int .i64 0, .int .i64 0, .int .i64 0, .int .i64 0, .int .i64 0, .int .i64 0, .int .i64 0, .int .i64 0, .int .i64 0, .int .i64 0, .int .i64 0, .int .i64 0, .int .i64 0, .int .i64 0, .int .i64 0, .int .i64 0, .int .i64 0], .int .i64 10]) ∧ Below w.heap.size w w' := by
  have HL : Hid (Below w.heap.size w ((w.alloc (.cells #[.int .i64 a, .int .i64 b, .int .i64 c] 22)).alloc (.cells #[.int .i64 0, .int .i64 0, .int .i64 0, .int .i64 0, .int .i64 0, .int .i64 0, .int .i64 0, .int .i64 0, .int .i64 0, .int .i64 0, .int .i64 0, .int .i64 0, .int .i64 0, .int .i64 0, .int .i64 0, .int .i64 0, .int .i64 0, .int .i64 0] 34))) := hide (below_via (below1 w _) (below1 _ _))
  have HO : Hid (Blk ((w.alloc (.cells #[.int .i64 a, .int .i64 b, .int .i64 c] 22)).alloc (.cells #[.int .i64 0, .int .i64 0, .int .i64 0, .int .i64 0, .int .i64 0, .int .i64 0, .int .i64 0, .int .i64 0, .int .i64 0, .int .i64 0, .int .i64 0, .int .i64 0, .int .i64 0, .int .i64 0, .int .i64 0, .int .i64 0, .int .i64 0, .int .i64 0] 34)) w.heap.size #[.int .i64 a, .int .i64 b, .int .i64 c] 22) := hide ((Blk.new w _ _).alloc _)
  have HR : Hid (Blk ((w.alloc (.cells #[.int .i64 a, .int .i64 b, .int .i64 c] 22)).alloc (.cells #[.int .i64 0, .int .i64 0, .int .i64 0, .int .i64 0, .int .i64 0, .int .i64 0, .int .i64 0, .int .i64 0, .int .i64 0, .int .i64 0, .int .i64 0, .int .i64 0, .int .i64 0, .int .i64 0, .int .i64 0, .int .i64 0, .int .i64 0, .int .i64 0] 34)) (w.heap.size + 1) #[.int .i64 0, .int .i64 0, .int .i64 0, .int .i64 0, .int .i64 0, .int .i64 0, .int .i64 0, .int .i64 0, .int .i64 0, .int .i64 0, .int .i64 0, .int .i64 0, .int .i64 0, .int .i64 0, .int .i64 0, .int .i64 0, .int .i64 0, .int .i64 0] 34) := hide (by have := Blk.new (w.alloc (.cells #[.int .i64 a, .int .i64 b, .int .i64 c] 22)) #[.int .i64 0, .int .i64 0, .int .i64 0, .int .i64 0, .int .i64 0, .int .i64 0, .int .i64 0, .int .i64 0, .int .i64 0, .int .i64 0, .int .i64 0, .int .i64 0, .int .i64 0, .int .i64 0, .int .i64 0, .int .i64 0, .int .i64 0, .int .i64 0] 34; simpa using this)
  clear HO
  go_enter Try.func12, Try.ntmps12
  go_wp2_with (refine store_blk rfl 34 _ _ rfl (show Blk _ _ _ _ from unhide HR) rfl rfl size34 rfl rfl rfl ?_)
  intro W1 k1 kp
  have k2 := kp.bel (by omega) (show Below _ _ _ from unhide HL)
  clear kp
  go_wp2_with fail
  exact bodyPost_ret (v := .tuple #[.agg #[.int .i64 0, .int .i64 0, .int .i64 0, .int .i64 0, .int .i64 0, .int .i64 0, .int .i64 0, .int .i64 0, .int .i64 0, .int .i64 0, .int .i64 0, .int .i64 0, .int .i64 0, .int .i64 0, .int .i64 0, .int .i64 0, .int .i64 0, .int .i64 0], .int .i64 10]) (res_ct (cs0 := #[.int .i64 0, .int .i64 0, .int .i64 0, .int .i64 0, .int .i64 0, .int .i64 0, .int .i64 0, .int .i64 0, .int .i64 0, .int .i64 0, .int .i64 0, .int .i64 0, .int .i64 0, .int .i64 0, .int .i64 0, .int .i64 0, .int .i64 0, .int .i64 0]) rfl k1 row34 size34 rfl rfl rfl) rfl ⟨rfl, k2⟩
set_option maxRecDepth 20000 in
set_option maxHeartbeats 8000000 in
theorem rr_bad (a b c : Int) (x : Option Addr) (n cap : Nat) (l : List Ch) (d1 : decide ((4096 : Int) < (n : Int)) = false) (w : World) (hR : RowG 5 w (.slice x n cap) (l.map chL)) (hl : Hid (l.length = n)) (hn : n ≤ 4096) (hq : l.all okC = false) : Calls Try.prog 12 #[.agg #[.int .i64 a, .int .i64 b, .int .i64 c], .slice x n cap] w fun q w' => q = .returned (.tuple #[.agg #[.int .i64 0, .int .i64 0, .int .i64 0, .int .i64 0, .int .i64 0, .int .i64 0, .int .i64 0, .int .i64 0, .int .i64 0, .int .i64 0, .int .i64 0, .int .i64 0, .int .i64 0, .int .i64 0, .int .i64 0, .int .i64 0, .int .i64 0, .int .i64 0], .int .i64 2]) ∧ Below w.heap.size w w' := by
  have HL : Hid (Below w.heap.size w ((w.alloc (.cells #[.int .i64 a, .int .i64 b, .int .i64 c] 22)).alloc (.cells #[.int .i64 0, .int .i64 0, .int .i64 0, .int .i64 0, .int .i64 0, .int .i64 0, .int .i64 0, .int .i64 0, .int .i64 0, .int .i64 0, .int .i64 0, .int .i64 0, .int .i64 0, .int .i64 0, .int .i64 0, .int .i64 0, .int .i64 0, .int .i64 0] 34))) := hide (below_via (below1 w _) (below1 _ _))
  have HO : Hid (Blk ((w.alloc (.cells #[.int .i64 a, .int .i64 b, .int .i64 c] 22)).alloc (.cells #[.int .i64 0, .int .i64 0, .int .i64 0, .int .i64 0, .int .i64 0, .int .i64 0, .int .i64 0, .int .i64 0, .int .i64 0, .int .i64 0, .int .i64 0, .int .i64 0, .int .i64 0, .int .i64 0, .int .i64 0, .int .i64 0, .int .i64 0, .int .i64 0] 34)) w.heap.size #[.int .i64 a, .int .i64 b, .int .i64 c] 22) := hide ((Blk.new w _ _).alloc _)
  have HR : Hid (Blk ((w.alloc (.cells #[.int .i64 a, .int .i64 b, .int .i64 c] 22)).alloc (.cells #[.int .i64 0, .int .i64 0, .int .i64 0, .int .i64 0, .int .i64 0, .int .i64 0, .int .i64 0, .int .i64 0, .int .i64 0, .int .i64 0, .int .i64 0, .int .i64 0, .int .i64 0, .int .i64 0, .int .i64 0, .int .i64 0, .int .i64 0, .int .i64 0] 34)) (w.heap.size + 1) #[.int .i64 0, .int .i64 0, .int .i64 0, .int .i64 0, .int .i64 0, .int .i64 0, .int .i64 0, .int .i64 0, .int .i64 0, .int .i64 0, .int .i64 0, .int .i64 0, .int .i64 0, .int .i64 0, .int .i64 0, .int .i64 0, .int .i64 0, .int .i64 0] 34) := hide (by have := Blk.new (w.alloc (.cells #[.int .i64 a, .int .i64 b, .int .i64 c] 22)) #[.int .i64 0, .int .i64 0, .int .i64 0, .int .i64 0, .int .i64 0, .int .i64 0, .int .i64 0, .int .i64 0, .int .i64 0, .int .i64 0, .int .i64 0, .int .i64 0, .int .i64 0, .int .i64 0, .int .i64 0, .int .i64 0, .int .i64 0, .int .i64 0] 34; simpa using this)
  have HU : Hid (RowG 5 ((w.alloc (.cells #[.int .i64 a, .int .i64 b, .int .i64 c] 22)).alloc (.cells #[.int .i64 0, .int .i64 0, .int .i64 0, .int .i64 0, .int .i64 0, .int .i64 0, .int .i64 0, .int .i64 0, .int .i64 0, .int .i64 0, .int .i64 0, .int .i64 0, .int .i64 0, .int .i64 0, .int .i64 0, .int .i64 0, .int .i64 0, .int .i64 0] 34)) (.slice x n cap) (l.map chL)) := hide ((hR.alloc _).alloc _)
  clear hR
  clear HO
  have HT := hide (fun k => all_take (l := l) (k := k))
  have HA : Hid ((l.take n).all okC = false) := hide (by rw [← unhide hl, List.take_length]; exact hq)
  clear hq
  go_enter Try.func12, Try.ntmps12
  go_wp2_with fail
  generalize (w.alloc (.cells #[.int .i64 a, .int .i64 b, .int .i64 c] 22)).alloc (.cells #[.int .i64 0, .int .i64 0, .int .i64 0, .int .i64 0, .int .i64 0, .int .i64 0, .int .i64 0, .int .i64 0, .int .i64 0, .int .i64 0, .int .i64 0, .int .i64 0, .int .i64 0, .int .i64 0, .int .i64 0, .int .i64 0, .int .i64 0, .int .i64 0] 34) = W0 at *
  go_loopw [20] (fun i wr => ∃ k : Nat, k ≤ n ∧ i = .int .i64 k ∧ Hid (Below W0.heap.size W0 wr) ∧ Hid ((l.take k).all okC = true)) (fun i _ => n - (intOf i).toNat)
  case atStart => exact ⟨0, by omega, rfl, hide (Below.refl _ _), hide rfl⟩
  case round =>
    obtain ⟨k, hk, rfl, HB, HK⟩ := hrel
    by_cases hlt : k < n
    · have hU2 := (show RowG _ _ _ _ from unhide HU).keep (unhide HB)
      obtain ⟨bb, off, cap', hx, _, _⟩ := hU2.open (by rw [List.length_map, unhide hl]; omega)
      injection hx with hx1 hx2 hx3
      subst hx1
      obtain ⟨m0, m1, m2, m3, m4⟩ := hU2.ch (k := k) (by rw [unhide hl]; exact hlt)
      have k1 : (k : Int) < (n : Int) := by omega
      have hb1 := hide (below_via (unhide HB) (below1 wr (.cells #[.int .i64 (chA l k).fr, .int .i64 (chA l k).to, .int .i64 (chA l k).was, .int .i64 (chA l k).now, .int .i64 (chA l k).wr] 47)))
      have ht := hide (unhide HT k (by rw [unhide hl]; exact hlt))
      have hqq : Hid ((1 ≤ (chA l k).fr ∧ (chA l k).fr ≤ 3) → (1 ≤ (chA l k).to ∧ (chA l k).to ≤ 3) → (0 ≤ (chA l k).was ∧ (chA l k).was ≤ 562949953421312) → (0 ≤ (chA l k).now ∧ (chA l k).now ≤ 562949953421312) → (0 ≤ (chA l k).wr ∧ (chA l k).wr ≤ 562949953421312) → okC (chA l k) = true) := hide (fun h1 h2 h3 h4 h5 => okC_iff.2 ⟨h1, h2, h3, h4, h5⟩)
      generalize okC (chA l k) = qk at *
      generalize (chA l k).fr = f at *
      generalize (chA l k).to = t at *
      generalize (chA l k).was = x0 at *
      generalize (chA l k).now = x1 at *
      generalize (chA l k).wr = x2 at *
      clear hU2 hx2 hx3
      by_cases p0 : f < 1
      · have q0 : decide (f < 1) = true := decide_eq_true p0
        clear ht hqq p0
        replace HR := hide ((show Blk _ _ _ _ from unhide HR).keep (unhide hb1))
        replace HL := hide (below_via (unhide HL) (unhide hb1))
        go_wp2_with (refine store_blk rfl 34 _ _ rfl (show Blk _ _ _ _ from unhide HR) rfl rfl size34 rfl rfl rfl ?_)
        intro W1 k1 kp
        have k2 := kp.bel (by omega) (show Below _ _ _ from unhide HL)
        clear kp
        go_wp2_with fail
        exact bodyPost_ret (v := .tuple #[.agg #[.int .i64 0, .int .i64 0, .int .i64 0, .int .i64 0, .int .i64 0, .int .i64 0, .int .i64 0, .int .i64 0, .int .i64 0, .int .i64 0, .int .i64 0, .int .i64 0, .int .i64 0, .int .i64 0, .int .i64 0, .int .i64 0, .int .i64 0, .int .i64 0], .int .i64 2]) (res_ct (cs0 := #[.int .i64 0, .int .i64 0, .int .i64 0, .int .i64 0, .int .i64 0, .int .i64 0, .int .i64 0, .int .i64 0, .int .i64 0, .int .i64 0, .int .i64 0, .int .i64 0, .int .i64 0, .int .i64 0, .int .i64 0, .int .i64 0, .int .i64 0, .int .i64 0]) rfl k1 row34 size34 rfl rfl rfl) rfl ⟨rfl, k2⟩
      have q0 : decide (f < 1) = false := decide_eq_false p0
      by_cases p1 : 3 < f
      · have q1 : decide (3 < f) = true := decide_eq_true p1
        clear ht hqq p1
        replace HR := hide ((show Blk _ _ _ _ from unhide HR).keep (unhide hb1))
        replace HL := hide (below_via (unhide HL) (unhide hb1))
        go_wp2_with (refine store_blk rfl 34 _ _ rfl (show Blk _ _ _ _ from unhide HR) rfl rfl size34 rfl rfl rfl ?_)
        intro W1 k1 kp
        have k2 := kp.bel (by omega) (show Below _ _ _ from unhide HL)
        clear kp
        go_wp2_with fail
        exact bodyPost_ret (v := .tuple #[.agg #[.int .i64 0, .int .i64 0, .int .i64 0, .int .i64 0, .int .i64 0, .int .i64 0, .int .i64 0, .int .i64 0, .int .i64 0, .int .i64 0, .int .i64 0, .int .i64 0, .int .i64 0, .int .i64 0, .int .i64 0, .int .i64 0, .int .i64 0, .int .i64 0], .int .i64 2]) (res_ct (cs0 := #[.int .i64 0, .int .i64 0, .int .i64 0, .int .i64 0, .int .i64 0, .int .i64 0, .int .i64 0, .int .i64 0, .int .i64 0, .int .i64 0, .int .i64 0, .int .i64 0, .int .i64 0, .int .i64 0, .int .i64 0, .int .i64 0, .int .i64 0, .int .i64 0]) rfl k1 row34 size34 rfl rfl rfl) rfl ⟨rfl, k2⟩
      have q1 : decide (3 < f) = false := decide_eq_false p1
      by_cases p2 : t < 1
      · have q2 : decide (t < 1) = true := decide_eq_true p2
        clear ht hqq p2
        replace HR := hide ((show Blk _ _ _ _ from unhide HR).keep (unhide hb1))
        replace HL := hide (below_via (unhide HL) (unhide hb1))
        go_wp2_with (refine store_blk rfl 34 _ _ rfl (show Blk _ _ _ _ from unhide HR) rfl rfl size34 rfl rfl rfl ?_)
        intro W1 k1 kp
        have k2 := kp.bel (by omega) (show Below _ _ _ from unhide HL)
        clear kp
        go_wp2_with fail
        exact bodyPost_ret (v := .tuple #[.agg #[.int .i64 0, .int .i64 0, .int .i64 0, .int .i64 0, .int .i64 0, .int .i64 0, .int .i64 0, .int .i64 0, .int .i64 0, .int .i64 0, .int .i64 0, .int .i64 0, .int .i64 0, .int .i64 0, .int .i64 0, .int .i64 0, .int .i64 0, .int .i64 0], .int .i64 2]) (res_ct (cs0 := #[.int .i64 0, .int .i64 0, .int .i64 0, .int .i64 0, .int .i64 0, .int .i64 0, .int .i64 0, .int .i64 0, .int .i64 0, .int .i64 0, .int .i64 0, .int .i64 0, .int .i64 0, .int .i64 0, .int .i64 0, .int .i64 0, .int .i64 0, .int .i64 0]) rfl k1 row34 size34 rfl rfl rfl) rfl ⟨rfl, k2⟩
      have q2 : decide (t < 1) = false := decide_eq_false p2
      by_cases p3 : 3 < t
      · have q3 : decide (3 < t) = true := decide_eq_true p3
        clear ht hqq p3
        replace HR := hide ((show Blk _ _ _ _ from unhide HR).keep (unhide hb1))
        replace HL := hide (below_via (unhide HL) (unhide hb1))
        go_wp2_with (refine store_blk rfl 34 _ _ rfl (show Blk _ _ _ _ from unhide HR) rfl rfl size34 rfl rfl rfl ?_)
        intro W1 k1 kp
        have k2 := kp.bel (by omega) (show Below _ _ _ from unhide HL)
        clear kp
        go_wp2_with fail
        exact bodyPost_ret (v := .tuple #[.agg #[.int .i64 0, .int .i64 0, .int .i64 0, .int .i64 0, .int .i64 0, .int .i64 0, .int .i64 0, .int .i64 0, .int .i64 0, .int .i64 0, .int .i64 0, .int .i64 0, .int .i64 0, .int .i64 0, .int .i64 0, .int .i64 0, .int .i64 0, .int .i64 0], .int .i64 2]) (res_ct (cs0 := #[.int .i64 0, .int .i64 0, .int .i64 0, .int .i64 0, .int .i64 0, .int .i64 0, .int .i64 0, .int .i64 0, .int .i64 0, .int .i64 0, .int .i64 0, .int .i64 0, .int .i64 0, .int .i64 0, .int .i64 0, .int .i64 0, .int .i64 0, .int .i64 0]) rfl k1 row34 size34 rfl rfl rfl) rfl ⟨rfl, k2⟩
      have q3 : decide (3 < t) = false := decide_eq_false p3
      cases q4 : inB x0 562949953421312
      · skip
        clear ht hqq
        go_wp2_with fail
        refine (my_any x0 562949953421312 _).mono ?_
        rintro e w4 ⟨rfl, rfl⟩
        rw [q4]
        replace HR := hide ((show Blk _ _ _ _ from unhide HR).keep (unhide hb1))
        replace HL := hide (below_via (unhide HL) (unhide hb1))
        go_wp2_with (refine store_blk rfl 34 _ _ rfl (show Blk _ _ _ _ from unhide HR) rfl rfl size34 rfl rfl rfl ?_)
        intro W1 k1 kp
        have k2 := kp.bel (by omega) (show Below _ _ _ from unhide HL)
        clear kp
        go_wp2_with fail
        exact bodyPost_ret (v := .tuple #[.agg #[.int .i64 0, .int .i64 0, .int .i64 0, .int .i64 0, .int .i64 0, .int .i64 0, .int .i64 0, .int .i64 0, .int .i64 0, .int .i64 0, .int .i64 0, .int .i64 0, .int .i64 0, .int .i64 0, .int .i64 0, .int .i64 0, .int .i64 0, .int .i64 0], .int .i64 2]) (res_ct (cs0 := #[.int .i64 0, .int .i64 0, .int .i64 0, .int .i64 0, .int .i64 0, .int .i64 0, .int .i64 0, .int .i64 0, .int .i64 0, .int .i64 0, .int .i64 0, .int .i64 0, .int .i64 0, .int .i64 0, .int .i64 0, .int .i64 0, .int .i64 0, .int .i64 0]) rfl k1 row34 size34 rfl rfl rfl) rfl ⟨rfl, k2⟩
      cases q5 : inB x1 562949953421312
      · skip
        clear ht hqq
        go_wp2_with fail
        refine (my_any x0 562949953421312 _).mono ?_
        rintro e w4 ⟨rfl, rfl⟩
        rw [q4]
        go_wp2_with fail
        refine (my_any x1 562949953421312 _).mono ?_
        rintro e w5 ⟨rfl, rfl⟩
        rw [q5]
        replace HR := hide ((show Blk _ _ _ _ from unhide HR).keep (unhide hb1))
        replace HL := hide (below_via (unhide HL) (unhide hb1))
        go_wp2_with (refine store_blk rfl 34 _ _ rfl (show Blk _ _ _ _ from unhide HR) rfl rfl size34 rfl rfl rfl ?_)
        intro W1 k1 kp
        have k2 := kp.bel (by omega) (show Below _ _ _ from unhide HL)
        clear kp
        go_wp2_with fail
        exact bodyPost_ret (v := .tuple #[.agg #[.int .i64 0, .int .i64 0, .int .i64 0, .int .i64 0, .int .i64 0, .int .i64 0, .int .i64 0, .int .i64 0, .int .i64 0, .int .i64 0, .int .i64 0, .int .i64 0, .int .i64 0, .int .i64 0, .int .i64 0, .int .i64 0, .int .i64 0, .int .i64 0], .int .i64 2]) (res_ct (cs0 := #[.int .i64 0, .int .i64 0, .int .i64 0, .int .i64 0, .int .i64 0, .int .i64 0, .int .i64 0, .int .i64 0, .int .i64 0, .int .i64 0, .int .i64 0, .int .i64 0, .int .i64 0, .int .i64 0, .int .i64 0, .int .i64 0, .int .i64 0, .int .i64 0]) rfl k1 row34 size34 rfl rfl rfl) rfl ⟨rfl, k2⟩
      cases q6 : inB x2 562949953421312
      · skip
        clear ht hqq
        go_wp2_with fail
        refine (my_any x0 562949953421312 _).mono ?_
        rintro e w4 ⟨rfl, rfl⟩
        rw [q4]
        go_wp2_with fail
        refine (my_any x1 562949953421312 _).mono ?_
        rintro e w5 ⟨rfl, rfl⟩
        rw [q5]
        go_wp2_with fail
        refine (my_any x2 562949953421312 _).mono ?_
        rintro e w6 ⟨rfl, rfl⟩
        rw [q6]
        replace HR := hide ((show Blk _ _ _ _ from unhide HR).keep (unhide hb1))
        replace HL := hide (below_via (unhide HL) (unhide hb1))
        go_wp2_with (refine store_blk rfl 34 _ _ rfl (show Blk _ _ _ _ from unhide HR) rfl rfl size34 rfl rfl rfl ?_)
        intro W1 k1 kp
        have k2 := kp.bel (by omega) (show Below _ _ _ from unhide HL)
        clear kp
        go_wp2_with fail
        exact bodyPost_ret (v := .tuple #[.agg #[.int .i64 0, .int .i64 0, .int .i64 0, .int .i64 0, .int .i64 0, .int .i64 0, .int .i64 0, .int .i64 0, .int .i64 0, .int .i64 0, .int .i64 0, .int .i64 0, .int .i64 0, .int .i64 0, .int .i64 0, .int .i64 0, .int .i64 0, .int .i64 0], .int .i64 2]) (res_ct (cs0 := #[.int .i64 0, .int .i64 0, .int .i64 0, .int .i64 0, .int .i64 0, .int .i64 0, .int .i64 0, .int .i64 0, .int .i64 0, .int .i64 0, .int .i64 0, .int .i64 0, .int .i64 0, .int .i64 0, .int .i64 0, .int .i64 0, .int .i64 0, .int .i64 0]) rfl k1 row34 size34 rfl rfl rfl) rfl ⟨rfl, k2⟩
      have hqt : qk = true := unhide hqq ⟨by omega, by omega⟩ ⟨by omega, by omega⟩ (inB_iff.1 q4) (inB_iff.1 q5) (inB_iff.1 q6)
      clear hqq p0 p1 p2 p3
      subst hqt
      go_wp2_with fail
      refine (my_any x0 562949953421312 _).mono ?_
      rintro e w4 ⟨rfl, rfl⟩
      rw [q4]
      go_wp2_with fail
      refine (my_any x1 562949953421312 _).mono ?_
      rintro e w5 ⟨rfl, rfl⟩
      rw [q5]
      go_wp2_with fail
      refine (my_any x2 562949953421312 _).mono ?_
      rintro e w6 ⟨rfl, rfl⟩
      rw [q6]
      go_wp2_with fail
      go_roundw
      case rel => exact ⟨k + 1, by omega, by go_num, hb1, hide (by rw [unhide ht, unhide HK]; rfl)⟩
      case measure => simp [intOf]; omega
    · exfalso
      obtain rfl : k = n := by omega
      have := unhide HA
      rw [unhide HK] at this
      cases this
end Go.Proofs.Ytkccladbcehdbaa
