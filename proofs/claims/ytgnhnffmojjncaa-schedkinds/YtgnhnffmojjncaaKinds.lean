/- Proved here: SchedKinds: at any terms, of one rate an annuity pays the same in each period but the last ones; of Linear Principals differ by 1 at most; of Interest they are 0 but the last; of Bullet nothing is paid but at last. No condition. -/
import Derived.Test.YtgnhnffmojjncaaSRes
import Derived.ProofKit
import Derived.OpenShut
import Derived.ShutString
import Derived.ChangeOld
import Derived.Below
namespace Go.Proofs.Ytgnhnffmojjncaa.Mn.schedKinds
open Go.ChangeShapes Go.WideShapes Go.ChangeAt Go.RowKit
set_option linter.unusedSimpArgs false
theorem w_great (kd P : Int) (a : Option Addr) (len cap : Nat) (n : Int) (hal : Hid Alive) (HG : Hid (∀ w : World, Calls Try.prog 10 #[.agg #[.int .i64 kd, .int .i64 P, .slice a len cap, .int .i64 n]] w fun e w' => e = .returned (.bool true) ∧ Below w.heap.size w w')) (w : World) : Calls Try.prog 6 #[.agg #[.int .i64 kd, .int .i64 P, .slice a len cap, .int .i64 n]] w fun e w' => e = .returned (.bool true) ∧ Below w.heap.size w w' := by
  unfold Alive at hal
  have HT := hide (Tm.new w 24 kd P (.slice a len cap) n)
  have HB := hide (below1 w (.cells #[.int .i64 kd, .int .i64 P, .slice a len cap, .int .i64 n] 24))
  go_enter Try.func6, Try.ntmps6
  go_wp2_with fail
  refine (unhide hal _).mono ?_
  rintro e1 w1 ⟨rfl, hb⟩
  replace HT := hide ((unhide HT).keep hb)
  replace HB := hide (below_via (unhide HB) hb)
  clear hb
  have c0 := (unhide HT).c0
  have c1 := (unhide HT).c1
  have c2 := (unhide HT).c2
  have c3 := (unhide HT).c3
  go_wp2_with fail
  refine (unhide HG w1).mono ?_
  rintro e1 w2 ⟨rfl, hb⟩
  replace HT := hide ((unhide HT).keep hb)
  replace HB := hide (below_via (unhide HB) hb)
  clear hb HG c0 c1 c2 c3
  go_wp2_with fail
  go_ret
  exact ⟨rfl, unhide HB⟩
theorem w_err (kd P : Int) (a : Option Addr) (len cap : Nat) (n : Int) (rs : List Int) (e : Int) (he : (e != 0) = true) (hal : Hid Alive) (HG : Hid (∀ w : World, Calls Try.prog 10 #[.agg #[.int .i64 kd, .int .i64 P, .slice a len cap, .int .i64 n]] w fun e w' => e = .returned (.bool false) ∧ Below w.heap.size w w')) (w : World) (HR : Hid (Row w (.slice a len cap) rs)) (HBd : Hid (∀ W : World, Row W (.slice a len cap) rs → BuildA 11 W kd P (.slice a len cap) n [] e)) : Calls Try.prog 6 #[.agg #[.int .i64 kd, .int .i64 P, .slice a len cap, .int .i64 n]] w fun e w' => e = .returned (.bool true) ∧ Below w.heap.size w w' := by
  unfold BuildA at HBd
  unfold Alive at hal
  have HT := hide (Tm.new w 24 kd P (.slice a len cap) n)
  have HB := hide (below1 w (.cells #[.int .i64 kd, .int .i64 P, .slice a len cap, .int .i64 n] 24))
  go_enter Try.func6, Try.ntmps6
  go_wp2_with fail
  refine (unhide hal _).mono ?_
  rintro e1 w1 ⟨rfl, hb⟩
  replace HT := hide ((unhide HT).keep hb)
  replace HB := hide (below_via (unhide HB) hb)
  clear hb
  have c0 := (unhide HT).c0
  have c1 := (unhide HT).c1
  have c2 := (unhide HT).c2
  have c3 := (unhide HT).c3
  go_wp2_with fail
  refine (unhide HG w1).mono ?_
  rintro e1 w2 ⟨rfl, hb⟩
  replace HT := hide ((unhide HT).keep hb)
  replace HB := hide (below_via (unhide HB) hb)
  clear hb HG c0 c1 c2 c3
  have c0 := (unhide HT).c0
  have c1 := (unhide HT).c1
  have c2 := (unhide HT).c2
  have c3 := (unhide HT).c3
  go_wp2_with fail
  refine (unhide HBd w2 ((unhide HR).below (unhide HB) (Nat.le_refl _))).mono ?_
  rintro e1 w3 ⟨u, rfl, hu, hb⟩
  replace HT := hide ((unhide HT).keep hb)
  replace HB := hide (below_via (unhide HB) hb)
  have HU := hide hu
  clear hb hu HBd c0 c1 c2 c3
  obtain ⟨ua, uc, rfl⟩ := rowN_slice (unhide HU)
  go_wp2_with fail
  go_ret
  exact ⟨rfl, unhide HB⟩
set_option maxRecDepth 20000 in
set_option maxHeartbeats 4000000 in
theorem w_interest (P : Int) (ab ao len cap n : Nat) (rs : List Int) (hT : TermsOk 3 P rs n) (hl : rs.length = len) (ho : ∀ j, j < n → ¬ over qI (loanOf 3 P rs n) j) (n1 : n ≤ 60) (hal : Hid Alive) (HG : Hid (∀ w : World, Calls Try.prog 10 #[.agg #[.int .i64 3, .int .i64 P, .slice (some ⟨ab, ao, none⟩) len cap, .int .i64 n]] w fun e w' => e = .returned (.bool false) ∧ Below w.heap.size w w')) (w : World) (HR : Hid (Row w (.slice (some ⟨ab, ao, none⟩) len cap) rs)) (HBd : Hid (∀ W : World, Row W (.slice (some ⟨ab, ao, none⟩) len cap) rs → BuildA 11 W 3 P (.slice (some ⟨ab, ao, none⟩) len cap) n (rowsUp (loanOf 3 P rs n) n) 0)) : Calls Try.prog 6 #[.agg #[.int .i64 3, .int .i64 P, .slice (some ⟨ab, ao, none⟩) len cap, .int .i64 n]] w fun e w' => e = .returned (.bool true) ∧ Below w.heap.size w w' := by
  have HTm := hide hT
  have HO := hide ho
  have n0 := hT.n0
  have p0 := hT.p0
  have p1 := hT.p1
  have HL := hide hl
  clear hT ho hl
  unfold BuildA at HBd
  unfold Alive at hal
  have HT := hide (Tm.new w 24 3 P (.slice (some ⟨ab, ao, none⟩) len cap) n)
  have HB := hide (below1 w (.cells #[.int .i64 3, .int .i64 P, .slice (some ⟨ab, ao, none⟩) len cap, .int .i64 n] 24))
  go_enter Try.func6, Try.ntmps6
  go_wp2_with fail
  refine (unhide hal _).mono ?_
  rintro e1 w1 ⟨rfl, hb⟩
  replace HT := hide ((unhide HT).keep hb)
  replace HB := hide (below_via (unhide HB) hb)
  clear hb
  have c0 := (unhide HT).c0
  have c1 := (unhide HT).c1
  have c2 := (unhide HT).c2
  have c3 := (unhide HT).c3
  go_wp2_with fail
  refine (unhide HG w1).mono ?_
  rintro e1 w2 ⟨rfl, hb⟩
  replace HT := hide ((unhide HT).keep hb)
  replace HB := hide (below_via (unhide HB) hb)
  clear hb HG c0 c1 c2 c3
  have c0 := (unhide HT).c0
  have c1 := (unhide HT).c1
  have c2 := (unhide HT).c2
  have c3 := (unhide HT).c3
  go_wp2_with fail
  refine (unhide HBd w2 ((unhide HR).below (unhide HB) (Nat.le_refl _))).mono ?_
  rintro e1 w3 ⟨u, rfl, hu, hb⟩
  replace HT := hide ((unhide HT).keep hb)
  replace HB := hide (below_via (unhide HB) hb)
  have HU := hide hu
  clear hb hu HBd c0 c1 c2 c3
  obtain ⟨ub, uo, uc, rfl, hu1, hu2⟩ := (unhide HU).open (by rw [rowsUp_len]; exact n0)
  rw [rowsUp_len] at HU hu1 ⊢
  obtain ⟨m, rfl⟩ : ∃ m, n = m + 1 := ⟨n - 1, by omega⟩
  clear HR
  have q1 : (0 : Int) ≤ (m : Int) := by omega
  have q2 : (m : Int) ≤ (uc : Int) := by omega
  have q3 : ((m + 1 : Nat) : Int) - 1 = (m : Int) := by omega
  go_wp2_with fail
  go_loopw [25] (fun i wr => ∃ k : Nat, k ≤ m ∧ i = .int .i64 k ∧ Hid (Tm wr w.heap.size 24 3 P (.slice (some ⟨ab, ao, none⟩) len cap) ((m + 1 : Nat) : Int)) ∧ Hid (RowN 4 wr (.slice (some ⟨ub, uo, none⟩) (m + 1) uc) (rowsUp (loanOf 3 P rs (m + 1)) (m + 1))) ∧ Hid (Below w.heap.size w wr)) (fun i _ => m - (intOf i).toNat)
  case atStart => exact ⟨0, by omega, rfl, HT, HU, HB⟩
  case round =>
    clear HT HU HB
    obtain ⟨k, hk, rfl, HT, HU, HB⟩ := hrel
    by_cases hlt : k < m
    · obtain ⟨x, A, B, C, D, f1, f2, f3, f4, f5, f6, f7, f8, f9, g1, g2, g3, g4, g5, g6, g7, g8⟩ := row_facts (unhide HTm).loan (n := m + 1) rfl (show k < m + 1 by omega) (unhide HO)
      obtain ⟨e0, e1, e2, e3⟩ := row_cells (unhide HU) (show k < m + 1 by omega) f2
      have HU2 := hide ((unhide HU).alloc (.cells #[.int .i64 A, .int .i64 B, .int .i64 C, .int .i64 D] 43))
      have HT2 := hide ((unhide HT).alloc (.cells #[.int .i64 A, .int .i64 B, .int .i64 C, .int .i64 D] 43))
      have HB2 := hide ((unhide HB).alloc (unhide HB).size (.cells #[.int .i64 A, .int .i64 B, .int .i64 C, .int .i64 D] 43))
      have c0 := (unhide HT).c0
      have c1 := (unhide HT).c1
      have c2 := (unhide HT).c2
      have hgl := (unhide HT).lt
      have k1 : (k : Int) < (m : Int) := by omega
      have hi := left_interest (I := qI) (L := loanOf 3 P rs (m + 1)) rfl k (show k < m + 1 by omega)
      have hj := left_interest (I := qI) (L := loanOf 3 P rs (m + 1)) rfl (k + 1) (show k + 1 < m + 1 by omega)
      have t1 : C = 0 := by rw [← f9]; exact hi.2 (show k + 1 < m + 1 by omega)
      have t2 : D = P := by rw [← f6]; exact hj.1
      subst t1 t2
      have t3 : (D != D) = false := by simp
      clear f1 f2 f3 f4 f5 f6 f7 f8 f9 HU HT HB
      go_wp2_with fail
      go_roundw
      case rel => exact ⟨k + 1, by omega, by go_num, HT2, HU2, HB2⟩
      case measure => simp [intOf]; omega

    · have ek : k = m := by omega
      subst ek
      go_wp2_with fail
      go_ret
      exact ⟨rfl, unhide HB⟩
set_option maxRecDepth 20000 in
set_option maxHeartbeats 4000000 in
theorem w_bullet (P : Int) (ab ao len cap n : Nat) (rs : List Int) (hT : TermsOk 4 P rs n) (hl : rs.length = len) (ho : ∀ j, j < n → ¬ over qI (loanOf 4 P rs n) j) (n1 : n ≤ 60) (hal : Hid Alive) (HG : Hid (∀ w : World, Calls Try.prog 10 #[.agg #[.int .i64 4, .int .i64 P, .slice (some ⟨ab, ao, none⟩) len cap, .int .i64 n]] w fun e w' => e = .returned (.bool false) ∧ Below w.heap.size w w')) (w : World) (HR : Hid (Row w (.slice (some ⟨ab, ao, none⟩) len cap) rs)) (HBd : Hid (∀ W : World, Row W (.slice (some ⟨ab, ao, none⟩) len cap) rs → BuildA 11 W 4 P (.slice (some ⟨ab, ao, none⟩) len cap) n (rowsUp (loanOf 4 P rs n) n) 0)) : Calls Try.prog 6 #[.agg #[.int .i64 4, .int .i64 P, .slice (some ⟨ab, ao, none⟩) len cap, .int .i64 n]] w fun e w' => e = .returned (.bool true) ∧ Below w.heap.size w w' := by
  have HTm := hide hT
  have HO := hide ho
  have n0 := hT.n0
  have p0 := hT.p0
  have p1 := hT.p1
  have HL := hide hl
  clear hT ho hl
  unfold BuildA at HBd
  unfold Alive at hal
  have HT := hide (Tm.new w 24 4 P (.slice (some ⟨ab, ao, none⟩) len cap) n)
  have HB := hide (below1 w (.cells #[.int .i64 4, .int .i64 P, .slice (some ⟨ab, ao, none⟩) len cap, .int .i64 n] 24))
  go_enter Try.func6, Try.ntmps6
  go_wp2_with fail
  refine (unhide hal _).mono ?_
  rintro e1 w1 ⟨rfl, hb⟩
  replace HT := hide ((unhide HT).keep hb)
  replace HB := hide (below_via (unhide HB) hb)
  clear hb
  have c0 := (unhide HT).c0
  have c1 := (unhide HT).c1
  have c2 := (unhide HT).c2
  have c3 := (unhide HT).c3
  go_wp2_with fail
  refine (unhide HG w1).mono ?_
  rintro e1 w2 ⟨rfl, hb⟩
  replace HT := hide ((unhide HT).keep hb)
  replace HB := hide (below_via (unhide HB) hb)
  clear hb HG c0 c1 c2 c3
  have c0 := (unhide HT).c0
  have c1 := (unhide HT).c1
  have c2 := (unhide HT).c2
  have c3 := (unhide HT).c3
  go_wp2_with fail
  refine (unhide HBd w2 ((unhide HR).below (unhide HB) (Nat.le_refl _))).mono ?_
  rintro e1 w3 ⟨u, rfl, hu, hb⟩
  replace HT := hide ((unhide HT).keep hb)
  replace HB := hide (below_via (unhide HB) hb)
  have HU := hide hu
  clear hb hu HBd c0 c1 c2 c3
  obtain ⟨ub, uo, uc, rfl, hu1, hu2⟩ := (unhide HU).open (by rw [rowsUp_len]; exact n0)
  rw [rowsUp_len] at HU hu1 ⊢
  obtain ⟨m, rfl⟩ : ∃ m, n = m + 1 := ⟨n - 1, by omega⟩
  clear HR
  have q1 : (0 : Int) ≤ (m : Int) := by omega
  have q2 : (m : Int) ≤ (uc : Int) := by omega
  have q3 : ((m + 1 : Nat) : Int) - 1 = (m : Int) := by omega
  go_wp2_with fail
  go_loopw [25] (fun i wr => ∃ k : Nat, k ≤ m ∧ i = .int .i64 k ∧ Hid (Tm wr w.heap.size 24 4 P (.slice (some ⟨ab, ao, none⟩) len cap) ((m + 1 : Nat) : Int)) ∧ Hid (RowN 4 wr (.slice (some ⟨ub, uo, none⟩) (m + 1) uc) (rowsUp (loanOf 4 P rs (m + 1)) (m + 1))) ∧ Hid (Below w.heap.size w wr)) (fun i _ => m - (intOf i).toNat)
  case atStart => exact ⟨0, by omega, rfl, HT, HU, HB⟩
  case round =>
    clear HT HU HB
    obtain ⟨k, hk, rfl, HT, HU, HB⟩ := hrel
    by_cases hlt : k < m
    · obtain ⟨x, A, B, C, D, f1, f2, f3, f4, f5, f6, f7, f8, f9, g1, g2, g3, g4, g5, g6, g7, g8⟩ := row_facts (unhide HTm).loan (n := m + 1) rfl (show k < m + 1 by omega) (unhide HO)
      obtain ⟨e0, e1, e2, e3⟩ := row_cells (unhide HU) (show k < m + 1 by omega) f2
      have HU2 := hide ((unhide HU).alloc (.cells #[.int .i64 A, .int .i64 B, .int .i64 C, .int .i64 D] 43))
      have HT2 := hide ((unhide HT).alloc (.cells #[.int .i64 A, .int .i64 B, .int .i64 C, .int .i64 D] 43))
      have HB2 := hide ((unhide HB).alloc (unhide HB).size (.cells #[.int .i64 A, .int .i64 B, .int .i64 C, .int .i64 D] 43))
      have c0 := (unhide HT).c0
      have c1 := (unhide HT).c1
      have c2 := (unhide HT).c2
      have hgl := (unhide HT).lt
      have k1 : (k : Int) < (m : Int) := by omega
      have hi := left_bullet qI_int2 (unhide HTm).loan (show (4 : Int) ≠ 1 by decide) (show (4 : Int) ≠ 2 by decide) (show (4 : Int) ≠ 3 by decide) (k + 1) (show k + 1 < m + 1 by omega) (fun j hj => unhide HO j (by omega))
      have t1 : B = 0 := by rw [← f8]; exact paid_bullet (I := qI) (L := loanOf 4 P rs (m + 1)) (show (4 : Int) ≠ 1 by decide) (show (4 : Int) ≠ 2 by decide) (show (4 : Int) ≠ 3 by decide) (show k + 1 < m + 1 by omega)
      have t2 : ¬ D < P := by rw [← f6]; have : P ≤ left qI (loanOf 4 P rs (m + 1)) (k + 1) := hi; omega
      subst t1
      clear hi
      clear f1 f2 f3 f4 f5 f6 f7 f8 f9 HU HT HB
      go_wp2_with fail
      go_roundw
      case rel => exact ⟨k + 1, by omega, by go_num, HT2, HU2, HB2⟩
      case measure => simp [intOf]; omega

    · have ek : k = m := by omega
      subst ek
      go_wp2_with fail
      go_ret
      exact ⟨rfl, unhide HB⟩
set_option maxRecDepth 20000 in
set_option maxHeartbeats 4000000 in
theorem w_linear (P : Int) (ab ao len cap n : Nat) (rs : List Int) (hT : TermsOk 2 P rs n) (hl : rs.length = len) (ho : ∀ j, j < n → ¬ over qI (loanOf 2 P rs n) j) (n1 : n ≤ 60) (hal : Hid Alive) (HG : Hid (∀ w : World, Calls Try.prog 10 #[.agg #[.int .i64 2, .int .i64 P, .slice (some ⟨ab, ao, none⟩) len cap, .int .i64 n]] w fun e w' => e = .returned (.bool false) ∧ Below w.heap.size w w')) (w : World) (HR : Hid (Row w (.slice (some ⟨ab, ao, none⟩) len cap) rs)) (HBd : Hid (∀ W : World, Row W (.slice (some ⟨ab, ao, none⟩) len cap) rs → BuildA 11 W 2 P (.slice (some ⟨ab, ao, none⟩) len cap) n (rowsUp (loanOf 2 P rs n) n) 0)) : Calls Try.prog 6 #[.agg #[.int .i64 2, .int .i64 P, .slice (some ⟨ab, ao, none⟩) len cap, .int .i64 n]] w fun e w' => e = .returned (.bool true) ∧ Below w.heap.size w w' := by
  have HTm := hide hT
  have HO := hide ho
  have n0 := hT.n0
  have p0 := hT.p0
  have p1 := hT.p1
  have HL := hide hl
  clear hT ho hl
  unfold BuildA at HBd
  unfold Alive at hal
  have HT := hide (Tm.new w 24 2 P (.slice (some ⟨ab, ao, none⟩) len cap) n)
  have HB := hide (below1 w (.cells #[.int .i64 2, .int .i64 P, .slice (some ⟨ab, ao, none⟩) len cap, .int .i64 n] 24))
  go_enter Try.func6, Try.ntmps6
  go_wp2_with fail
  refine (unhide hal _).mono ?_
  rintro e1 w1 ⟨rfl, hb⟩
  replace HT := hide ((unhide HT).keep hb)
  replace HB := hide (below_via (unhide HB) hb)
  clear hb
  have c0 := (unhide HT).c0
  have c1 := (unhide HT).c1
  have c2 := (unhide HT).c2
  have c3 := (unhide HT).c3
  go_wp2_with fail
  refine (unhide HG w1).mono ?_
  rintro e1 w2 ⟨rfl, hb⟩
  replace HT := hide ((unhide HT).keep hb)
  replace HB := hide (below_via (unhide HB) hb)
  clear hb HG c0 c1 c2 c3
  have c0 := (unhide HT).c0
  have c1 := (unhide HT).c1
  have c2 := (unhide HT).c2
  have c3 := (unhide HT).c3
  go_wp2_with fail
  refine (unhide HBd w2 ((unhide HR).below (unhide HB) (Nat.le_refl _))).mono ?_
  rintro e1 w3 ⟨u, rfl, hu, hb⟩
  replace HT := hide ((unhide HT).keep hb)
  replace HB := hide (below_via (unhide HB) hb)
  have HU := hide hu
  clear hb hu HBd c0 c1 c2 c3
  obtain ⟨ub, uo, uc, rfl, hu1, hu2⟩ := (unhide HU).open (by rw [rowsUp_len]; exact n0)
  rw [rowsUp_len] at HU hu1 ⊢
  obtain ⟨m, rfl⟩ : ∃ m, n = m + 1 := ⟨n - 1, by omega⟩
  clear HR
  have q1 : (0 : Int) ≤ (m : Int) := by omega
  have q2 : (m : Int) ≤ (uc : Int) := by omega
  have q3 : ((m + 1 : Nat) : Int) - 1 = (m : Int) := by omega
  go_wp2_with fail
  go_loopw [25] (fun i wr => ∃ k : Nat, k ≤ m ∧ i = .int .i64 k ∧ Hid (Tm wr w.heap.size 24 2 P (.slice (some ⟨ab, ao, none⟩) len cap) ((m + 1 : Nat) : Int)) ∧ Hid (RowN 4 wr (.slice (some ⟨ub, uo, none⟩) (m + 1) uc) (rowsUp (loanOf 2 P rs (m + 1)) (m + 1))) ∧ Hid (Below w.heap.size w wr)) (fun i _ => m - (intOf i).toNat)
  case atStart => exact ⟨0, by omega, rfl, HT, HU, HB⟩
  case round =>
    clear HT HU HB
    obtain ⟨k, hk, rfl, HT, HU, HB⟩ := hrel
    by_cases hlt : k < m
    · obtain ⟨x, A, B, C, D, f1, f2, f3, f4, f5, f6, f7, f8, f9, g1, g2, g3, g4, g5, g6, g7, g8⟩ := row_facts (unhide HTm).loan (n := m + 1) rfl (show k < m + 1 by omega) (unhide HO)
      obtain ⟨e0, e1, e2, e3⟩ := row_cells (unhide HU) (show k < m + 1 by omega) f2
      have HU2 := hide ((unhide HU).alloc (.cells #[.int .i64 A, .int .i64 B, .int .i64 C, .int .i64 D] 43))
      have HT2 := hide ((unhide HT).alloc (.cells #[.int .i64 A, .int .i64 B, .int .i64 C, .int .i64 D] 43))
      have HB2 := hide ((unhide HB).alloc (unhide HB).size (.cells #[.int .i64 A, .int .i64 B, .int .i64 C, .int .i64 D] 43))
      have c0 := (unhide HT).c0
      have c1 := (unhide HT).c1
      have c2 := (unhide HT).c2
      have hgl := (unhide HT).lt
      have k1 : (k : Int) < (m : Int) := by omega
      have hub := lt_of_cell e0
      obtain ⟨x', A', B', C', D', z1, z2, z3, z4, z5, z6, z7, z8, z9, y1, y2, y3, y4, y5, y6, y7, y8⟩ := row_facts (unhide HTm).loan (n := m + 1) rfl (show m < m + 1 by omega) (unhide HO)
      obtain ⟨_, _, e6, _⟩ := row_cells (unhide HU) (show m < m + 1 by omega) z2
      have h1 : C = pt1 P (m + 1) k := by rw [← f9]; exact prin_linear (I := qI) (L := loanOf 2 P rs (m + 1)) rfl (show k + 1 < m + 1 by omega)
      have h2 : C' = pt1 P (m + 1) m := by rw [← z9]; exact prin_linear_last (I := qI) (L := loanOf 2 P rs (m + 1)) rfl n0 (pt1_all n0)
      have h3 := pt1_near (P := P) (n := m + 1) (j := k) (by omega)
      rw [show m + 1 - 1 = m from by omega, ← h1, ← h2] at h3
      have h4 := pt1_bd (P := P) (n := m + 1) (j := k) (by omega) p1 n0
      have h5 := pt1_bd (P := P) (n := m + 1) (j := m) (by omega) p1 n0
      rw [← h1] at h4
      rw [← h2] at h5
      obtain ⟨h6, h7⟩ := h3
      obtain ⟨h8, h9⟩ := h4
      obtain ⟨h10, h11⟩ := h5
      have d1 : decide (C - C' < 0) = false := decide_eq_false (by omega)
      have d2 : decide (1 < C - C') = false := decide_eq_false (by omega)
      clear h1 h2 z1 z2 z3 z4 z5 z6 z7 z8 z9 y1 y2 y3 y4 y5 y6 y7 y8
      clear f1 f2 f3 f4 f5 f6 f7 f8 f9 HU HT HB
      go_wp2_with fail
      go_quiet (fail)
      go_wp2_with fail
      go_roundw
      case rel => exact ⟨k + 1, by omega, by go_num, hide ((unhide HT2).drewN _), hide ((unhide HU2).later (fun _ _ h => h)), hide (below_drewN (unhide HB2) _)⟩
      case measure => simp [intOf]; omega

    · have ek : k = m := by omega
      subst ek
      go_wp2_with fail
      go_ret
      exact ⟨rfl, unhide HB⟩
set_option maxRecDepth 20000 in
set_option maxHeartbeats 4000000 in
theorem w_annuity (P : Int) (ab ao len cap n : Nat) (rs : List Int) (hT : TermsOk 1 P rs n) (hl : rs.length = len) (ho : ∀ j, j < n → ¬ over qI (loanOf 1 P rs n) j) (n1 : n ≤ 60) (hal : Hid Alive) (HG : Hid (∀ w : World, Calls Try.prog 10 #[.agg #[.int .i64 1, .int .i64 P, .slice (some ⟨ab, ao, none⟩) len cap, .int .i64 n]] w fun e w' => e = .returned (.bool false) ∧ Below w.heap.size w w')) (w : World) (HR : Hid (Row w (.slice (some ⟨ab, ao, none⟩) len cap) rs)) (HBd : Hid (∀ W : World, Row W (.slice (some ⟨ab, ao, none⟩) len cap) rs → BuildA 11 W 1 P (.slice (some ⟨ab, ao, none⟩) len cap) n (rowsUp (loanOf 1 P rs n) n) 0)) : Calls Try.prog 6 #[.agg #[.int .i64 1, .int .i64 P, .slice (some ⟨ab, ao, none⟩) len cap, .int .i64 n]] w fun e w' => e = .returned (.bool true) ∧ Below w.heap.size w w' := by
  have HTm := hide hT
  have HO := hide ho
  have n0 := hT.n0
  have p0 := hT.p0
  have p1 := hT.p1
  have HL := hide hl
  clear hT ho hl
  unfold BuildA at HBd
  unfold Alive at hal
  have HT := hide (Tm.new w 24 1 P (.slice (some ⟨ab, ao, none⟩) len cap) n)
  have HB := hide (below1 w (.cells #[.int .i64 1, .int .i64 P, .slice (some ⟨ab, ao, none⟩) len cap, .int .i64 n] 24))
  go_enter Try.func6, Try.ntmps6
  go_wp2_with fail
  refine (unhide hal _).mono ?_
  rintro e1 w1 ⟨rfl, hb⟩
  replace HT := hide ((unhide HT).keep hb)
  replace HB := hide (below_via (unhide HB) hb)
  clear hb
  have c0 := (unhide HT).c0
  have c1 := (unhide HT).c1
  have c2 := (unhide HT).c2
  have c3 := (unhide HT).c3
  go_wp2_with fail
  refine (unhide HG w1).mono ?_
  rintro e1 w2 ⟨rfl, hb⟩
  replace HT := hide ((unhide HT).keep hb)
  replace HB := hide (below_via (unhide HB) hb)
  clear hb HG c0 c1 c2 c3
  have c0 := (unhide HT).c0
  have c1 := (unhide HT).c1
  have c2 := (unhide HT).c2
  have c3 := (unhide HT).c3
  go_wp2_with fail
  refine (unhide HBd w2 ((unhide HR).below (unhide HB) (Nat.le_refl _))).mono ?_
  rintro e1 w3 ⟨u, rfl, hu, hb⟩
  replace HT := hide ((unhide HT).keep hb)
  replace HB := hide (below_via (unhide HB) hb)
  have HU := hide hu
  clear hb hu HBd c0 c1 c2 c3
  obtain ⟨ub, uo, uc, rfl, hu1, hu2⟩ := (unhide HU).open (by rw [rowsUp_len]; exact n0)
  rw [rowsUp_len] at HU hu1 ⊢
  obtain ⟨m, rfl⟩ : ∃ m, n = m + 1 := ⟨n - 1, by omega⟩
  clear HR
  have q1 : (0 : Int) ≤ (m : Int) := by omega
  have q2 : (m : Int) ≤ (uc : Int) := by omega
  have q3 : ((m + 1 : Nat) : Int) - 1 = (m : Int) := by omega
  go_wp2_with fail
  go_loopw [25] (fun i wr => ∃ k : Nat, k ≤ m ∧ i = .int .i64 k ∧ Hid (Tm wr w.heap.size 24 1 P (.slice (some ⟨ab, ao, none⟩) len cap) ((m + 1 : Nat) : Int)) ∧ Hid (RowN 4 wr (.slice (some ⟨ub, uo, none⟩) (m + 1) uc) (rowsUp (loanOf 1 P rs (m + 1)) (m + 1))) ∧ Hid (Below w.heap.size w wr)) (fun i _ => m - (intOf i).toNat)
  case atStart => exact ⟨0, by omega, rfl, HT, HU, HB⟩
  case round =>
    clear HT HU HB
    obtain ⟨k, hk, rfl, HT, HU, HB⟩ := hrel
    by_cases hlt : k < m
    · obtain ⟨x, A, B, C, D, f1, f2, f3, f4, f5, f6, f7, f8, f9, g1, g2, g3, g4, g5, g6, g7, g8⟩ := row_facts (unhide HTm).loan (n := m + 1) rfl (show k < m + 1 by omega) (unhide HO)
      obtain ⟨e0, e1, e2, e3⟩ := row_cells (unhide HU) (show k < m + 1 by omega) f2
      have HU2 := hide ((unhide HU).alloc (.cells #[.int .i64 A, .int .i64 B, .int .i64 C, .int .i64 D] 43))
      have HT2 := hide ((unhide HT).alloc (.cells #[.int .i64 A, .int .i64 B, .int .i64 C, .int .i64 D] 43))
      have HB2 := hide ((unhide HB).alloc (unhide HB).size (.cells #[.int .i64 A, .int .i64 B, .int .i64 C, .int .i64 D] 43))
      have c0 := (unhide HT).c0
      have c1 := (unhide HT).c1
      have c2 := (unhide HT).c2
      have hgl := (unhide HT).lt
      have k1 : (k : Int) < (m : Int) := by omega
      have hub := lt_of_cell e0
      obtain ⟨x', A', B', C', D', z1, z2, z3, z4, z5, z6, z7, z8, z9, y1, y2, y3, y4, y5, y6, y7, y8⟩ := row_facts (unhide HTm).loan (n := m + 1) rfl (show 0 < m + 1 by omega) (unhide HO)
      obtain ⟨_, e5, _, _⟩ := row_cells (unhide HU) (show 0 < m + 1 by omega) z2
      rw [Nat.zero_mul, Nat.add_zero] at e5
      have HSame : Hid (len = 1 → B = B' ∨ D = 0) := hide (fun h => by
        have hr : ∀ i, (loanOf 1 P rs (m + 1)).rt i = (loanOf 1 P rs (m + 1)).rt 0 := fun i => by
          show rtAt rs i = rtAt rs 0
          unfold rtAt
          rw [unhide HL, h]
          simp
        have := annuity_same qI_int2 (unhide HTm).loan rfl hr (i := k) (show k + 1 < m + 1 by omega) (unhide HO)
        rw [f8, z8, f6] at this
        exact this)
      clear z1 z2 z3 z4 z5 z6 z7 z8 z9 y1 y2 y3 y4 y5 y6 y7 y8
      clear f1 f2 f3 f4 f5 f6 f7 f8 f9 HU HT HB
      by_cases t1 : len = 1
      · by_cases t2 : 0 < k
        · by_cases t3 : B = B'
          · have d1 : ((len : Int) == 1) = true := by rw [t1]; rfl
            have d2 : decide (0 < k) = true := decide_eq_true t2
            have d3 : (B != B') = false := by rw [t3]; simp
            clear t1 t2 t3 HSame
            go_wp2_with fail
            go_quiet (fail)
            go_wp2_with fail
            go_roundw
            case rel => exact ⟨k + 1, by omega, by go_num, hide ((unhide HT2).drewN _), hide ((unhide HU2).later (fun _ _ h => h)), hide (below_drewN (unhide HB2) _)⟩
            case measure => simp [intOf]; omega
          · have t4 : D = 0 := (unhide HSame t1).resolve_left t3
            have d1 : ((len : Int) == 1) = true := by rw [t1]; rfl
            have d2 : decide (0 < k) = true := decide_eq_true t2
            have d3 : (B != B') = true := by rw [bne_iff_ne]; exact t3
            subst t4
            clear t1 t2 t3 HSame
            go_wp2_with fail
            go_quiet (fail)
            go_wp2_with fail
            go_roundw
            case rel => exact ⟨k + 1, by omega, by go_num, hide ((unhide HT2).drewN _), hide ((unhide HU2).later (fun _ _ h => h)), hide (below_drewN (unhide HB2) _)⟩
            case measure => simp [intOf]; omega
        · have d1 : ((len : Int) == 1) = true := by rw [t1]; rfl
          have d2 : decide (0 < k) = false := decide_eq_false t2
          clear t1 t2 HSame
          go_wp2_with fail
          go_quiet (fail)
          go_wp2_with fail
          go_roundw
          case rel => exact ⟨k + 1, by omega, by go_num, hide ((unhide HT2).drewN _), hide ((unhide HU2).later (fun _ _ h => h)), hide (below_drewN (unhide HB2) _)⟩
          case measure => simp [intOf]; omega
      · have d1 : ((len : Int) == 1) = false := by rw [beq_eq_false_iff_ne]; omega
        clear t1 HSame
        go_wp2_with fail
        go_quiet (fail)
        go_wp2_with fail
        go_roundw
        case rel => exact ⟨k + 1, by omega, by go_num, hide ((unhide HT2).drewN _), hide ((unhide HU2).later (fun _ _ h => h)), hide (below_drewN (unhide HB2) _)⟩
        case measure => simp [intOf]; omega

    · have ek : k = m := by omega
      subst ek
      go_wp2_with fail
      go_ret
      exact ⟨rfl, unhide HB⟩
theorem walk (kd P : Int) (a : Option Addr) (len cap : Nat) (n : Int) (rs : List Int) (w : World) (hR : Row w (.slice a len cap) rs) : Calls Try.prog 6 #[.agg #[.int .i64 kd, .int .i64 P, .slice a len cap, .int .i64 n]] w fun e w' => e = .returned (.bool true) ∧ Below w.heap.size w w' := by
  have hl : rs.length = len := by
    obtain ⟨x, c, h⟩ := row_slice hR
    cases h; rfl
  have hg := great_any kd P n a len cap
  cases hq : grB len n with
  | true =>
    rw [hq] at hg
    exact w_great kd P a len cap n (hide alive_any) (hide hg) w
  | false =>
    rw [hq] at hg
    have hn := grB_no hq
    obtain ⟨l, e, hr⟩ := res_ex kd P rs n
    by_cases he : e = 0
    · obtain ⟨m, rfl, hT, rfl, ho⟩ := hr.fine he
      subst he
      have := hT.n1
      obtain ⟨ab, ao, rfl⟩ : ∃ ab ao, a = some ⟨ab, ao, none⟩ := by
        rcases hR with ⟨x, c, h, h2⟩ | ⟨b, off, c, h, _⟩
        · have := hT.r0; rw [h2] at this; exact absurd this (by decide)
        · cases h; exact ⟨b, off, rfl⟩
      have k0 := hT.k0
      have k1 := hT.k1
      have hkk : kd = 1 ∨ kd = 2 ∨ kd = 3 ∨ kd = 4 := by omega
      rcases hkk with rfl | rfl | rfl | rfl
      · exact w_annuity P ab ao len cap m rs hT hl ho (by omega) (hide alive_any) (hide hg) w (hide hR) (hide (fun W h => build_any hr h))
      · exact w_linear P ab ao len cap m rs hT hl ho (by omega) (hide alive_any) (hide hg) w (hide hR) (hide (fun W h => build_any hr h))
      · exact w_interest P ab ao len cap m rs hT hl ho (by omega) (hide alive_any) (hide hg) w (hide hR) (hide (fun W h => build_any hr h))
      · exact w_bullet P ab ao len cap m rs hT hl ho (by omega) (hide alive_any) (hide hg) w (hide hR) (hide (fun W h => build_any hr h))
    · have := hr.none he
      subst this
      exact w_err kd P a len cap n rs e (by rw [bne_iff_ne]; exact he) (hide alive_any) (hide hg) w (hide hR) (hide (fun W h => build_any hr h))
theorem own : ownKnob Try.prog.godebug = none := by kernel_rfl
theorem laidOut : laidOutB Try.prog = true := by kernel_rfl
set_option linter.unusedVariables false in
set_option maxRecDepth 100000 in
theorem lifted (os : Os) (started : os.Started) (H : Type) (enc : TypeId × Value → H) :
    ReturnsInHanded {} Try.checked os 6 .any (Rows.schedKindsSpec.pre6 enc Try.prog Try.f6 Rows.schedKindsRow.domain false) (Rows.schedKindsSpec.post enc Try.prog Try.f6 false true false false) := by
  refine returnsInHanded_of_change (C := Try.checked) own started (by kernel_rfl) Try.func6
    (ChangeSpec.witness6 (enc := enc) (C := Try.checked) false ⟨#[], #[.agg #[.int .i64 0, .int .i64 0, .slice none 0 0, .int .i64 0]], []⟩ 8 (by kernel_rfl) (by kernel_rfl) (by kernel_rfl) (by kernel_rfl)) ?_
  intro W base args ds gs before hval0 hW hcnd _
  have hval : ∀ (j : Nat) t v, Try.f6.params[j]? = some t → args[j]? = some v → Value.okWide Try.prog W .any base t v := hval0
  have hW' := hW
  obtain ⟨p, q, hA0, hV, rfl, hfz, hnd⟩ := hW
  have hA : DataW.TrodAll enc Try.prog W 0 (fun _ => true) true Try.f6.params.toList args.toList ds p := hA0
  rw [Try.params6] at hA hval
  obtain ⟨v0, vs0, d0, ds0, p0, q0, hargs, rfl, rfl, h0, r0⟩ := trodAll_cons hA
  obtain ⟨rfl, rfl, rfl⟩ := trodAll_nil r0
  obtain rfl : args = #[v0] := by cases args; simp_all
  obtain ⟨rfl, rfl⟩ := trodVars_none hV
  have k0 := h0
  have lt0 : ∀ x ∈ p0, x.block < W.heap.size := by obtain ⟨m, hm⟩ := k0; exact DataW.trod_lt m _ _ _ hm
  obtain ⟨kd0, pp0, a0, len0, cap0, n0, z0, rfl, _, _, _, w0, _, _⟩ := open_terms (E := 2) Try.underlying24 (by kernel_rfl) rfl rfl rfl rfl (by kernel_rfl) (by kernel_rfl) (by kernel_rfl) (by kernel_rfl) Try.underlying3 Try.underlying2 Try.underlying22 Try.underlying3 Try.underlying2 (by kernel_rfl) (hval 0 24 v0 rfl rfl) h0
  clear hA0 hval0
  refine (walk kd0 pp0 a0 len0 cap0 n0 z0 W w0).mono fun e W' ⟨he, bel⟩ => ?_
  subst he
  exact ⟨_, rfl, _, _, _, [], _, [], hW', trodAll_mk1 (shut_bool Try.underlying4 _), (trodAll_cons_mk (Below.trod laidOut (by kernel_rfl) (of_decide_eq_true (by kernel_rfl)) k0 bel lt0) trodAll_mk0), rfl, bel.frame _, fun h => by cases h⟩
theorem over : Rows.schedKindsRow.holds Try.pinned (OpenSpec.ofChange Rows.schedKindsSpec) :=
  OpenClaim.holds_of_wide 6 Try.f6 rfl rfl rfl rfl rfl rfl rfl ⟨rfl, rfl, rfl, rfl, rfl⟩ rfl rfl rfl rfl rfl (by kernel_rfl) Try.func6 (by kernel_rfl)
    (of_decide_eq_true (by kernel_rfl)) (by unfold Func.isWrapper; first | (rw [if_pos (by decide +kernel)]; kernel_rfl) | (rw [if_neg (by decide +kernel)]; exact ⟨rfl, rfl⟩))
    (fun os started H enc _ => lifted os started H enc)
/-- The statement. -/
theorem proved : Rows.SchedKindsSaid := over
#print axioms proved
end Go.Proofs.Ytgnhnffmojjncaa.Mn.schedKinds
namespace Go.Proofs.Ytgnhnffmojjncaa
theorem schedKinds_holds : Rows.SchedKindsSaid := Mn.schedKinds.proved
end Go.Proofs.Ytgnhnffmojjncaa
