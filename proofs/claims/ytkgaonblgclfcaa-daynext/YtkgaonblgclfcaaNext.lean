/- Proved here: DayNext: the next day is the next one in the month, or the first of the next month, of the next year; its weekday is the next one. No condition. -/
import Derived.Test.YtkgaonblgclfcaaAlive
import Derived.WalkKit
import Derived.WalkSpells
import Derived.Lib.SmallJoins
import Derived.ProofKit
import Derived.OpenShut
import Derived.ShutString
import Derived.ChangeOld
import Derived.Below
namespace Go.Proofs.Ytkgaonblgclfcaa.dayNext
open Go.ChangeShapes Go.WideShapes Go.ChangeAt Go.RowKit
set_option linter.unusedSimpArgs false
def Good (n : Int) (w : World) : Prop := Calls Try.prog 5 #[.int .i64 n] w fun e w' => e = .returned (.bool true) ∧ Below w.heap.size w w'
theorem go_lo (n : Int) (w : World) (n1 : decide (n < 1) = true) : Good n w := by
  unfold Good
  have hal := hide alive_any
  go_enter Try.func5, Try.ntmps5
  go_wp2_with fail
  refine (unhide hal _).mono ?_
  rintro e w1 ⟨rfl, hb1⟩
  replace hb1 := hide hb1
  go_wp2_with fail
  go_ret
  exact ⟨rfl, unhide hb1⟩
theorem go_hi (n : Int) (w : World) (n1 : decide (n < 1) = false) (n2 : decide (3652059 ≤ n) = true) : Good n w := by
  unfold Good
  have hal := hide alive_any
  go_enter Try.func5, Try.ntmps5
  go_wp2_with fail
  refine (unhide hal _).mono ?_
  rintro e w1 ⟨rfl, hb1⟩
  replace hb1 := hide hb1
  go_wp2_with fail
  go_ret
  exact ⟨rfl, unhide hb1⟩
set_option maxRecDepth 20000 in
set_option maxHeartbeats 4000000 in
theorem go_i (n Y M D a l Y' M' D' : Int) (w : World) (h1 : 1 ≤ n) (h2 : n < 3652059) (n1 : decide (n < 1) = false) (n2 : decide (3652059 ≤ n) = false) (a1 : 0 ≤ a) (a2 : a ≤ 6) (_y1 : 1 ≤ Y) (_y2 : Y ≤ 9999) (_m1 : 1 ≤ M) (_m2 : M ≤ 12) (d1 : 1 ≤ D) (d2 : D ≤ 31) (hT1 : Hid (Tos n Y M D 0)) (hT2 : Hid (Tos (n + 1) Y' M' D' 0)) (hw1 : Hid (Q 13 #[.int .i64 (n + 1)] (.int .i64 ((a + 1) % 7)))) (hw0 : Hid (Q 13 #[.int .i64 n] (.int .i64 a))) (hl : Hid (Q 17 #[.int .i64 Y, .int .i64 M] (.int .i64 l))) (hd : decide (l < D + 1) = false) (hm : decide (12 < M) = false) (hq : ∀ w, (binOp .eql 23 (.agg #[.int .i64 Y', .int .i64 M', .int .i64 D']) (.agg #[.int .i64 Y, .int .i64 M, .int .i64 (D + 1)])).run Try.prog w = .ok (.bool true) w) : Good n w := by
  unfold Good
  have hal := hide alive_any
  go_enter Try.func5, Try.ntmps5
  go_wp2_with fail
  refine (unhide hal _).mono ?_
  rintro e w1 ⟨rfl, hb1⟩
  replace hb1 := hide hb1
  clear hal
  go_wp2_with fail
  refine (unhide hT1 _).mono ?_
  rintro e w2 ⟨rfl, hb2⟩
  replace hb2 := hide (below_via (unhide hb1) hb2)
  have B1 := R3.new w2 Y M D
  have B2 := hide (below_via (unhide hb2) ((Below.refl w2.heap.size w2).alloc (Nat.le_refl _) (.cells #[.int .i64 Y, .int .i64 M, .int .i64 D] 23)))
  clear hb1 hb2
  go_wp2_with fail
  generalize w2.alloc (.cells #[.int .i64 Y, .int .i64 M, .int .i64 D] 23) = W2 at B1 B2 ⊢
  refine (unhide hT2 _).mono ?_
  rintro e w3 ⟨rfl, hb3⟩
  replace B1 := B1.keep hb3 B1.lt
  replace B2 := hide (below_via (unhide B2) hb3)
  have l2 := hide B1.lt
  have D1 := R3.new w3 Y' M' D'
  have B3 := B1.alloc (.cells #[.int .i64 Y', .int .i64 M', .int .i64 D'] 23)
  have B4 := hide (below_via (unhide B2) ((Below.refl w3.heap.size w3).alloc (Nat.le_refl _) (.cells #[.int .i64 Y', .int .i64 M', .int .i64 D'] 23)))
  clear hb3 B1 B2
  go_wp2_with fail
  generalize w3.alloc (.cells #[.int .i64 Y', .int .i64 M', .int .i64 D'] 23) = W3 at D1 B3 B4 ⊢
  refine (unhide hw1 _).mono ?_
  rintro e w4 ⟨rfl, rfl⟩
  go_wp2_with fail
  refine (unhide hw0 _).mono ?_
  rintro e w4 ⟨rfl, rfl⟩
  have c0 := B3.c0
  have c1 := B3.c1
  have c2 := B3.c2
  replace B3 := hide B3
  replace D1 := hide D1
  go_wp2_with fail
  have E1 := (unhide B3).alloc (.cells #[.int .i64 Y, .int .i64 M, .int .i64 (D + 1)] 23)
  have E2 := (unhide D1).alloc (.cells #[.int .i64 Y, .int .i64 M, .int .i64 (D + 1)] 23)
  have E3 := R3.new w4 Y M (D + 1)
  have E4 := hide (below_via (unhide B4) ((Below.refl w4.heap.size w4).alloc (Nat.le_refl _) (.cells #[.int .i64 Y, .int .i64 M, .int .i64 (D + 1)] 23)))
  have l3 := (unhide D1).lt
  have l4 : w.heap.size ≤ w4.heap.size := (unhide B4).size
  clear c0 c1 c2 B3 B4 D1
  obtain ⟨c, hc⟩ : ∃ c, c = w4.heap.size := ⟨_, rfl⟩
  rw [← hc] at E3 l3 l4 ⊢
  generalize w4.alloc (.cells #[.int .i64 Y, .int .i64 M, .int .i64 (D + 1)] 23) = W5 at E1 E2 E3 E4 ⊢
  clear hc
  have c0 := E1.c0
  have c1 := E1.c1
  have c2 := E3.c2
  replace E1 := hide E1
  replace E2 := hide E2
  replace E3 := hide E3
  go_quiet ((go_at_call 17; exact Calls.quiet_of_same (unhide hl _)))
  clear c0 c1 c2
  have F2 : R3 (W5.drewN nq) w3.heap.size Y' M' D' := unhide E2
  have F3 : R3 (W5.drewN nq) c Y M (D + 1) := unhide E3
  have F4 := below_drewN (unhide E4) nq
  generalize W5.drewN nq = X at F2 F3 F4 ⊢
  clear E1 E2 E3 E4
  have f00 := F3.c0
  have g00 := F3.fr 0
  have f01 := F3.c1
  have g01 := F3.fr 1
  have f02 := F3.c2
  have g02 := F3.fr 2
  have h00 := F2.c0
  have h01 := F2.c1
  have h02 := F2.c2
  replace F2 := hide F2
  replace F3 := hide F3
  replace F4 := hide F4
  go_wp2_with fail
  go_ret
  exact ⟨rfl, unhide F4⟩
set_option maxRecDepth 20000 in
set_option maxHeartbeats 4000000 in
theorem go_ii (n Y M D a l Y' M' D' : Int) (w : World) (h1 : 1 ≤ n) (h2 : n < 3652059) (n1 : decide (n < 1) = false) (n2 : decide (3652059 ≤ n) = false) (a1 : 0 ≤ a) (a2 : a ≤ 6) (_y1 : 1 ≤ Y) (_y2 : Y ≤ 9999) (_m1 : 1 ≤ M) (_m2 : M ≤ 12) (d1 : 1 ≤ D) (d2 : D ≤ 31) (hT1 : Hid (Tos n Y M D 0)) (hT2 : Hid (Tos (n + 1) Y' M' D' 0)) (hw1 : Hid (Q 13 #[.int .i64 (n + 1)] (.int .i64 ((a + 1) % 7)))) (hw0 : Hid (Q 13 #[.int .i64 n] (.int .i64 a))) (hl : Hid (Q 17 #[.int .i64 Y, .int .i64 M] (.int .i64 l))) (hd : decide (l < D + 1) = true) (hm : decide (12 < M + 1) = false) (hq : ∀ w, (binOp .eql 23 (.agg #[.int .i64 Y', .int .i64 M', .int .i64 D']) (.agg #[.int .i64 Y, .int .i64 (M + 1), .int .i64 1])).run Try.prog w = .ok (.bool true) w) : Good n w := by
  unfold Good
  have hal := hide alive_any
  go_enter Try.func5, Try.ntmps5
  go_wp2_with fail
  refine (unhide hal _).mono ?_
  rintro e w1 ⟨rfl, hb1⟩
  replace hb1 := hide hb1
  clear hal
  go_wp2_with fail
  refine (unhide hT1 _).mono ?_
  rintro e w2 ⟨rfl, hb2⟩
  replace hb2 := hide (below_via (unhide hb1) hb2)
  have B1 := R3.new w2 Y M D
  have B2 := hide (below_via (unhide hb2) ((Below.refl w2.heap.size w2).alloc (Nat.le_refl _) (.cells #[.int .i64 Y, .int .i64 M, .int .i64 D] 23)))
  clear hb1 hb2
  go_wp2_with fail
  generalize w2.alloc (.cells #[.int .i64 Y, .int .i64 M, .int .i64 D] 23) = W2 at B1 B2 ⊢
  refine (unhide hT2 _).mono ?_
  rintro e w3 ⟨rfl, hb3⟩
  replace B1 := B1.keep hb3 B1.lt
  replace B2 := hide (below_via (unhide B2) hb3)
  have l2 := hide B1.lt
  have D1 := R3.new w3 Y' M' D'
  have B3 := B1.alloc (.cells #[.int .i64 Y', .int .i64 M', .int .i64 D'] 23)
  have B4 := hide (below_via (unhide B2) ((Below.refl w3.heap.size w3).alloc (Nat.le_refl _) (.cells #[.int .i64 Y', .int .i64 M', .int .i64 D'] 23)))
  clear hb3 B1 B2
  go_wp2_with fail
  generalize w3.alloc (.cells #[.int .i64 Y', .int .i64 M', .int .i64 D'] 23) = W3 at D1 B3 B4 ⊢
  refine (unhide hw1 _).mono ?_
  rintro e w4 ⟨rfl, rfl⟩
  go_wp2_with fail
  refine (unhide hw0 _).mono ?_
  rintro e w4 ⟨rfl, rfl⟩
  have c0 := B3.c0
  have c1 := B3.c1
  have c2 := B3.c2
  replace B3 := hide B3
  replace D1 := hide D1
  go_wp2_with fail
  have E1 := (unhide B3).alloc (.cells #[.int .i64 Y, .int .i64 M, .int .i64 (D + 1)] 23)
  have E2 := (unhide D1).alloc (.cells #[.int .i64 Y, .int .i64 M, .int .i64 (D + 1)] 23)
  have E3 := R3.new w4 Y M (D + 1)
  have E4 := hide (below_via (unhide B4) ((Below.refl w4.heap.size w4).alloc (Nat.le_refl _) (.cells #[.int .i64 Y, .int .i64 M, .int .i64 (D + 1)] 23)))
  have l3 := (unhide D1).lt
  have l4 : w.heap.size ≤ w4.heap.size := (unhide B4).size
  clear c0 c1 c2 B3 B4 D1
  obtain ⟨c, hc⟩ : ∃ c, c = w4.heap.size := ⟨_, rfl⟩
  rw [← hc] at E3 l3 l4 ⊢
  generalize w4.alloc (.cells #[.int .i64 Y, .int .i64 M, .int .i64 (D + 1)] 23) = W5 at E1 E2 E3 E4 ⊢
  clear hc
  have c0 := E1.c0
  have c1 := E1.c1
  have c2 := E3.c2
  replace E1 := hide E1
  replace E2 := hide E2
  replace E3 := hide E3
  go_quiet ((go_at_call 17; exact Calls.quiet_of_same (unhide hl _)))
  clear c0 c1 c2
  have F2 : R3 (W5.drewN nq) w3.heap.size Y' M' D' := unhide E2
  have F3 : R3 (W5.drewN nq) c Y M (D + 1) := unhide E3
  have F4 := below_drewN (unhide E4) nq
  generalize W5.drewN nq = X at F2 F3 F4 ⊢
  clear E1 E2 E3 E4
  have f00 := F3.c0
  have g00 := F3.fr 0
  have f01 := F3.c1
  have g01 := F3.fr 1
  have f02 := F3.c2
  have g02 := F3.fr 2
  replace F3 := F3.s2 1
  replace F2 := F2.other (a := ⟨c, 2, none⟩) (by show w3.heap.size ≠ c; omega) (.int .i64 1)
  replace F4 := F4.setCell (p := ⟨c, 2, none⟩) l4 (.int .i64 1)
  have f10 := F3.c0
  have g10 := F3.fr 0
  have f11 := F3.c1
  have g11 := F3.fr 1
  have f12 := F3.c2
  have g12 := F3.fr 2
  replace F3 := F3.s1 (M + 1)
  replace F2 := F2.other (a := ⟨c, 1, none⟩) (by show w3.heap.size ≠ c; omega) (.int .i64 (M + 1))
  replace F4 := F4.setCell (p := ⟨c, 1, none⟩) l4 (.int .i64 (M + 1))
  have f20 := F3.c0
  have g20 := F3.fr 0
  have f21 := F3.c1
  have g21 := F3.fr 1
  have f22 := F3.c2
  have g22 := F3.fr 2
  have h20 := F2.c0
  have h21 := F2.c1
  have h22 := F2.c2
  replace F2 := hide F2
  replace F3 := hide F3
  replace F4 := hide F4
  go_wp2_with fail
  go_ret
  exact ⟨rfl, unhide F4⟩
set_option maxRecDepth 20000 in
set_option maxHeartbeats 4000000 in
theorem go_iii (n Y M D a l Y' M' D' : Int) (w : World) (h1 : 1 ≤ n) (h2 : n < 3652059) (n1 : decide (n < 1) = false) (n2 : decide (3652059 ≤ n) = false) (a1 : 0 ≤ a) (a2 : a ≤ 6) (_y1 : 1 ≤ Y) (_y2 : Y ≤ 9999) (_m1 : 1 ≤ M) (_m2 : M ≤ 12) (d1 : 1 ≤ D) (d2 : D ≤ 31) (hT1 : Hid (Tos n Y M D 0)) (hT2 : Hid (Tos (n + 1) Y' M' D' 0)) (hw1 : Hid (Q 13 #[.int .i64 (n + 1)] (.int .i64 ((a + 1) % 7)))) (hw0 : Hid (Q 13 #[.int .i64 n] (.int .i64 a))) (hl : Hid (Q 17 #[.int .i64 Y, .int .i64 M] (.int .i64 l))) (hd : decide (l < D + 1) = true) (hm : decide (12 < M + 1) = true) (hq : ∀ w, (binOp .eql 23 (.agg #[.int .i64 Y', .int .i64 M', .int .i64 D']) (.agg #[.int .i64 (Y + 1), .int .i64 1, .int .i64 1])).run Try.prog w = .ok (.bool true) w) : Good n w := by
  unfold Good
  have hal := hide alive_any
  go_enter Try.func5, Try.ntmps5
  go_wp2_with fail
  refine (unhide hal _).mono ?_
  rintro e w1 ⟨rfl, hb1⟩
  replace hb1 := hide hb1
  clear hal
  go_wp2_with fail
  refine (unhide hT1 _).mono ?_
  rintro e w2 ⟨rfl, hb2⟩
  replace hb2 := hide (below_via (unhide hb1) hb2)
  have B1 := R3.new w2 Y M D
  have B2 := hide (below_via (unhide hb2) ((Below.refl w2.heap.size w2).alloc (Nat.le_refl _) (.cells #[.int .i64 Y, .int .i64 M, .int .i64 D] 23)))
  clear hb1 hb2
  go_wp2_with fail
  generalize w2.alloc (.cells #[.int .i64 Y, .int .i64 M, .int .i64 D] 23) = W2 at B1 B2 ⊢
  refine (unhide hT2 _).mono ?_
  rintro e w3 ⟨rfl, hb3⟩
  replace B1 := B1.keep hb3 B1.lt
  replace B2 := hide (below_via (unhide B2) hb3)
  have l2 := hide B1.lt
  have D1 := R3.new w3 Y' M' D'
  have B3 := B1.alloc (.cells #[.int .i64 Y', .int .i64 M', .int .i64 D'] 23)
  have B4 := hide (below_via (unhide B2) ((Below.refl w3.heap.size w3).alloc (Nat.le_refl _) (.cells #[.int .i64 Y', .int .i64 M', .int .i64 D'] 23)))
  clear hb3 B1 B2
  go_wp2_with fail
  generalize w3.alloc (.cells #[.int .i64 Y', .int .i64 M', .int .i64 D'] 23) = W3 at D1 B3 B4 ⊢
  refine (unhide hw1 _).mono ?_
  rintro e w4 ⟨rfl, rfl⟩
  go_wp2_with fail
  refine (unhide hw0 _).mono ?_
  rintro e w4 ⟨rfl, rfl⟩
  have c0 := B3.c0
  have c1 := B3.c1
  have c2 := B3.c2
  replace B3 := hide B3
  replace D1 := hide D1
  go_wp2_with fail
  have E1 := (unhide B3).alloc (.cells #[.int .i64 Y, .int .i64 M, .int .i64 (D + 1)] 23)
  have E2 := (unhide D1).alloc (.cells #[.int .i64 Y, .int .i64 M, .int .i64 (D + 1)] 23)
  have E3 := R3.new w4 Y M (D + 1)
  have E4 := hide (below_via (unhide B4) ((Below.refl w4.heap.size w4).alloc (Nat.le_refl _) (.cells #[.int .i64 Y, .int .i64 M, .int .i64 (D + 1)] 23)))
  have l3 := (unhide D1).lt
  have l4 : w.heap.size ≤ w4.heap.size := (unhide B4).size
  clear c0 c1 c2 B3 B4 D1
  obtain ⟨c, hc⟩ : ∃ c, c = w4.heap.size := ⟨_, rfl⟩
  rw [← hc] at E3 l3 l4 ⊢
  generalize w4.alloc (.cells #[.int .i64 Y, .int .i64 M, .int .i64 (D + 1)] 23) = W5 at E1 E2 E3 E4 ⊢
  clear hc
  have c0 := E1.c0
  have c1 := E1.c1
  have c2 := E3.c2
  replace E1 := hide E1
  replace E2 := hide E2
  replace E3 := hide E3
  go_quiet ((go_at_call 17; exact Calls.quiet_of_same (unhide hl _)))
  clear c0 c1 c2
  have F2 : R3 (W5.drewN nq) w3.heap.size Y' M' D' := unhide E2
  have F3 : R3 (W5.drewN nq) c Y M (D + 1) := unhide E3
  have F4 := below_drewN (unhide E4) nq
  generalize W5.drewN nq = X at F2 F3 F4 ⊢
  clear E1 E2 E3 E4
  have f00 := F3.c0
  have g00 := F3.fr 0
  have f01 := F3.c1
  have g01 := F3.fr 1
  have f02 := F3.c2
  have g02 := F3.fr 2
  replace F3 := F3.s2 1
  replace F2 := F2.other (a := ⟨c, 2, none⟩) (by show w3.heap.size ≠ c; omega) (.int .i64 1)
  replace F4 := F4.setCell (p := ⟨c, 2, none⟩) l4 (.int .i64 1)
  have f10 := F3.c0
  have g10 := F3.fr 0
  have f11 := F3.c1
  have g11 := F3.fr 1
  have f12 := F3.c2
  have g12 := F3.fr 2
  replace F3 := F3.s1 (M + 1)
  replace F2 := F2.other (a := ⟨c, 1, none⟩) (by show w3.heap.size ≠ c; omega) (.int .i64 (M + 1))
  replace F4 := F4.setCell (p := ⟨c, 1, none⟩) l4 (.int .i64 (M + 1))
  have f20 := F3.c0
  have g20 := F3.fr 0
  have f21 := F3.c1
  have g21 := F3.fr 1
  have f22 := F3.c2
  have g22 := F3.fr 2
  replace F3 := F3.s1 1
  replace F2 := F2.other (a := ⟨c, 1, none⟩) (by show w3.heap.size ≠ c; omega) (.int .i64 1)
  replace F4 := F4.setCell (p := ⟨c, 1, none⟩) l4 (.int .i64 1)
  have f30 := F3.c0
  have g30 := F3.fr 0
  have f31 := F3.c1
  have g31 := F3.fr 1
  have f32 := F3.c2
  have g32 := F3.fr 2
  replace F3 := F3.s0 (Y + 1)
  replace F2 := F2.other (a := ⟨c, 0, none⟩) (by show w3.heap.size ≠ c; omega) (.int .i64 (Y + 1))
  replace F4 := F4.setCell (p := ⟨c, 0, none⟩) l4 (.int .i64 (Y + 1))
  have f40 := F3.c0
  have g40 := F3.fr 0
  have f41 := F3.c1
  have g41 := F3.fr 1
  have f42 := F3.c2
  have g42 := F3.fr 2
  have h40 := F2.c0
  have h41 := F2.c1
  have h42 := F2.c2
  replace F2 := hide F2
  replace F3 := hide F3
  replace F4 := hide F4
  go_wp2_with fail
  go_ret
  exact ⟨rfl, unhide F4⟩
theorem wd_next (n : Int) : (n + 1 - 1) % 7 = ((n - 1) % 7 + 1) % 7 := by omega
theorem walk (n : Int) (w : World) (_wn : (Lit.int .i64 n).wf = true) : Calls Try.prog 5 #[.int .i64 n] w fun e w' => e = .returned (.bool true) ∧ Below w.heap.size w w' := by
  by_cases c1 : n < 1
  · exact go_lo n w (decide_eq_true c1)
  by_cases c2 : 3652059 ≤ n
  · exact go_hi n w (decide_eq_false c1) (decide_eq_true c2)
  obtain ⟨Y, M, D, hv, e⟩ := date_of n (by omega) (by omega)
  have hT1 := to_ok Y M D hv
  rw [e] at hT1
  have hw0 := weekday_any n
  have hw1 := weekday_any (n + 1)
  rw [wd_next] at hw1
  have a1 : 0 ≤ (n - 1) % 7 := by omega
  have a2 : (n - 1) % 7 ≤ 6 := by omega
  generalize (n - 1) % 7 = a at *
  have hl := last_any Y M
  rw [last_in hv.y1 hv.y2] at hl
  have b := len_bd (leap Y) M
  have hv' := hv
  obtain ⟨y1, y2, m1, m2, d1, d2⟩ := hv'
  have hq : ∀ (x y z : Int) (w : World), (binOp .eql 23 (.agg #[.int .i64 x, .int .i64 y, .int .i64 z]) (.agg #[.int .i64 x, .int .i64 y, .int .i64 z])).run Try.prog w = .ok (.bool true) w := fun x y z w => by rw [eql23]; simp
  have e' : ds (Y - 1) + mo (leap Y) M.toNat + D = n := e
  by_cases h : D + 1 ≤ len (leap Y) M
  · have hT2 := to_ok Y M (D + 1) ⟨y1, y2, m1, m2, by omega, h⟩
    rw [show num Y M (D + 1) = n + 1 from by unfold num; omega] at hT2
    exact go_i n Y M D a _ _ _ _ w (by omega) (by omega) (decide_eq_false c1) (decide_eq_false c2) a1 a2 y1 y2 m1 m2 d1 (by omega) (hide hT1) (hide hT2) (hide hw1) (hide hw0) (hide hl) (decide_eq_false (by omega)) (decide_eq_false (by omega)) (hq _ _ _)
  · have s := mo_step (leap Y) M.toNat
    have eM : ((M.toNat : Nat) : Int) = M := by omega
    rw [eM] at s
    by_cases h12 : M = 12
    · subst h12
      have s2 := mo_end (leap Y)
      change mo (leap Y) 13 = mo (leap Y) 12 + len (leap Y) 12 at s
      change ds (Y - 1) + mo (leap Y) 12 + D = n at e'
      have s3 := ds_step Y
      have hY : Y ≠ 9999 := fun c => by
        subst c
        have : ds 9999 = 3652059 := by decide
        omega
      have p := len_pos (leap (Y + 1)) (m := 1) (by omega) (by omega)
      have hT2 := to_ok (Y + 1) 1 1 ⟨by omega, by omega, by omega, by omega, by omega, by omega⟩
      have e2 : num (Y + 1) 1 1 = n + 1 := by
        have m1 := mo_one (leap (Y + 1))
        show ds (Y + 1 - 1) + mo (leap (Y + 1)) 1 + 1 = n + 1
        rw [m1, show Y + 1 - 1 = Y from by omega]
        omega
      rw [e2] at hT2
      exact go_iii n Y 12 D a _ _ _ _ w (by omega) (by omega) (decide_eq_false c1) (decide_eq_false c2) a1 a2 y1 y2 m1 m2 d1 (by omega) (hide hT1) (hide hT2) (hide hw1) (hide hw0) (hide hl) (decide_eq_true (by omega)) (decide_eq_true (by omega)) (hq _ _ _)
    · have p := len_pos (leap Y) (m := M + 1) (by omega) (by omega)
      have hT2 := to_ok Y (M + 1) 1 ⟨y1, y2, by omega, by omega, by omega, by omega⟩
      have e2 : num Y (M + 1) 1 = n + 1 := by
        unfold num
        rw [show (M + 1).toNat = M.toNat + 1 from by omega, s]
        omega
      rw [e2] at hT2
      exact go_ii n Y M D a _ _ _ _ w (by omega) (by omega) (decide_eq_false c1) (decide_eq_false c2) a1 a2 y1 y2 m1 m2 d1 (by omega) (hide hT1) (hide hT2) (hide hw1) (hide hw0) (hide hl) (decide_eq_true (by omega)) (decide_eq_false (by omega)) (hq _ _ _)
theorem own : ownKnob Try.prog.godebug = none := by kernel_rfl
set_option linter.unusedVariables false in
set_option maxRecDepth 100000 in
theorem lifted (os : Os) (started : os.Started) (H : Type) (enc : TypeId × Value → H) :
    ReturnsInHanded {} Try.checked os 5 .any (Rows.dayNextSpec.pre6 enc Try.prog Try.f5 Rows.dayNextRow.domain false) (Rows.dayNextSpec.post enc Try.prog Try.f5 false true false false) := by
  refine returnsInHanded_of_change (C := Try.checked) own started (by kernel_rfl) Try.func5
    (ChangeSpec.witness6 (enc := enc) (C := Try.checked) false ⟨#[], #[.int .i64 0], []⟩ 8 (by kernel_rfl) (by kernel_rfl) (by kernel_rfl) (by kernel_rfl)) ?_
  intro W base args ds gs before hval0 hW hcnd _
  have hval : ∀ (j : Nat) t v, Try.f5.params[j]? = some t → args[j]? = some v → Value.okWide Try.prog W .any base t v := hval0
  have hW' := hW
  obtain ⟨p, q, hA0, hV, rfl, hfz, hnd⟩ := hW
  have hA : DataW.TrodAll enc Try.prog W 0 (fun _ => true) true Try.f5.params.toList args.toList ds p := hA0
  rw [Try.params5] at hA hval
  obtain ⟨v0, vs0, d0, ds0, p0, q0, hargs, rfl, rfl, h0, r0⟩ := trodAll_cons hA
  obtain ⟨rfl, rfl, rfl⟩ := trodAll_nil r0
  obtain rfl : args = #[v0] := by cases args; simp_all
  obtain ⟨rfl, rfl⟩ := trodVars_none hV
  obtain ⟨a0, rfl, rfl, rfl, w0⟩ := open_int Try.underlying3 (hval 0 3 v0 rfl rfl) h0
  clear hA0 hval0
  simp only [List.append_nil] at hW'
  refine (walk a0 W w0).mono fun e W' ⟨he, bel⟩ => ?_
  subst he
  exact ⟨_, rfl, _, _, _, [], _, [], hW', trodAll_mk1 (shut_bool Try.underlying4 _), (trodAll_cons_mk (shut_int Try.underlying3 w0) trodAll_mk0), rfl, bel.frame _, fun h => by cases h⟩
theorem over : Rows.dayNextRow.holds Try.pinned (OpenSpec.ofChange Rows.dayNextSpec) :=
  OpenClaim.holds_of_wide 5 Try.f5 rfl rfl rfl rfl rfl rfl rfl ⟨rfl, rfl, rfl, rfl, rfl⟩ rfl rfl rfl rfl rfl (by kernel_rfl) Try.func5 (by kernel_rfl)
    (of_decide_eq_true (by kernel_rfl)) (by unfold Func.isWrapper; first | (rw [if_pos (by decide +kernel)]; kernel_rfl) | (rw [if_neg (by decide +kernel)]; exact ⟨rfl, rfl⟩))
    (fun os started H enc _ => lifted os started H enc)
/-- The statement. -/
theorem proved : Rows.DayNextSaid := over
#print axioms proved
end Go.Proofs.Ytkgaonblgclfcaa.dayNext
namespace Go.Proofs.Ytkgaonblgclfcaa
theorem dayNext_holds : Rows.DayNextSaid := dayNext.proved
end Go.Proofs.Ytkgaonblgclfcaa
