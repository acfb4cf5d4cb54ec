/- What the day's From answers. -/
import Derived.Test.YtmpalgfhamahnaaTo
namespace Go.Proofs.Ytmpalgfhamahnaa
open Go.RowKit
set_option linter.unusedSimpArgs false
theorem month_of (L : Bool) (r : Int) (h1 : 1 ≤ r) : ∀ k : Nat, r ≤ mo L (k + 1) → ∃ M : Nat, M ≤ k ∧ mo L M < r ∧ r ≤ mo L M + len L M
  | 0, h => by rw [mo_one] at h; omega
  | k + 1, h => by
    by_cases c : r ≤ mo L (k + 1)
    · obtain ⟨M, a, b⟩ := month_of L r h1 k c
      exact ⟨M, by omega, b⟩
    · exact ⟨k + 1, Nat.le_refl _, by omega, by rw [mo_step L (k + 1)] at h; exact h⟩
/-- Each number is a day's. -/
theorem date_of (n : Int) (h1 : 1 ≤ n) (h2 : n ≤ 3652059) : ∃ y m d, Valid y m d ∧ num y m d = n := by
  obtain ⟨a1, a2, a3, a4⟩ := year_bd h1 h2
  rw [ds_step] at a4
  rw [← mo_end] at a4
  obtain ⟨M, b1, b2, b3⟩ := month_of (leap (year n)) (n - ds (year n - 1)) (by omega) 12 (by show _ ≤ mo _ 13; omega)
  have b4 : M ≠ 0 := fun c => by
    subst c
    have e : len (leap (year n)) ((0 : Nat) : Int) = 0 := len_none _ (by omega)
    rw [e] at b3; omega
  refine ⟨year n, M, n - ds (year n - 1) - mo (leap (year n)) M, ⟨a1, a2, by omega, by omega, by omega, by omega⟩, ?_⟩
  unfold num
  rw [Int.toNat_natCast]
  omega
/-- What From reckons, going round. -/
def rn (y m d : Int) : Int := wrap64 (wrap64 (da y + mol y (upto m)) + d)
theorem rn_valid {y m d : Int} (h : Valid y m d) : rn y m d = num y m d := by
  have hr := num_range h
  have hy := num_year h
  obtain ⟨y1, y2, m1, m2, d1, d2⟩ := h
  have e : upto m = m.toNat := by
    unfold upto
    rw [if_neg (by omega)]
    by_cases c : m ≤ 1
    · rw [if_pos c]; omega
    · rw [if_neg c]
  have b := mo_nonneg (leap y) (k := m.toNat) (by omega)
  have b2 := len_bd (leap y) m
  have b3 := ds_mono (y := 0) (z := y - 1) (by omega)
  rw [ds_zero] at b3
  unfold rn
  rw [da_in y1 (by omega), e, mol_in y1 y2]
  have e2 : num y m d = ds (y - 1) + mo (leap y) m.toNat + d := rfl
  rw [wrap_in (n := ds (y - 1) + mo (leap y) m.toNat) ⟨by omega, by omega⟩, ← e2, wrap_in ⟨by omega, by omega⟩]
theorem r3_old {w : World} {b : Nat} {x y z : Int} (h : R3 w b x y z) (o : Obj) (u0 u1 u2 : Value) : R3 ((((w.alloc o).setCell ⟨w.heap.size, 0, none⟩ u0).setCell ⟨w.heap.size, 1, none⟩ u1).setCell ⟨w.heap.size, 2, none⟩ u2) b x y z := by
  have hlt := h.lt
  exact (((h.alloc o).other (a := ⟨w.heap.size, 0, none⟩) (by show b ≠ w.heap.size; omega) u0).other (a := ⟨w.heap.size, 1, none⟩) (by show b ≠ w.heap.size; omega) u1).other (a := ⟨w.heap.size, 2, none⟩) (by show b ≠ w.heap.size; omega) u2
theorem eql23 (p q r p' q' r' : Int) (w : World) : (binOp .eql 37 (.agg #[.int .i64 p, .int .i64 q, .int .i64 r]) (.agg #[.int .i64 p', .int .i64 q', .int .i64 r'])).run Try.prog w = .ok (.bool (p == p' && (q == q' && r == r'))) w := by
  have ht : Try.prog.underlying 37 = some (.struct (Try.prog.fieldsOf 37)) := by kernel_rfl
  have hp : Try.prog.stoodInHeld 37 = false := by kernel_rfl
  have hf := TypeDesc.struct.inj (Option.some.inj (ht.symm.trans Try.underlying37))
  rw [run_eql_struct, run_equalIn_agg w 9999 37 _ _ ht hp, hf]
  simp [Op.eqFields, part, isAgg, go_sem, Try.underlying3]
  by_cases h1 : p = p'
  · by_cases h2 : q = q'
    · by_cases h3 : r = r' <;> simp [h1, h2, h3, part, isAgg, go_sem, Try.underlying3]
    · simp [h1, h2, part, isAgg, go_sem, Try.underlying3]
  · simp [h1, part, isAgg, go_sem, Try.underlying3]
theorem neq23 (p q r p' q' r' : Int) (w : World) : (binOp .neq 37 (.agg #[.int .i64 p, .int .i64 q, .int .i64 r]) (.agg #[.int .i64 p', .int .i64 q', .int .i64 r'])).run Try.prog w = .ok (.bool (!(p == p' && (q == q' && r == r')))) w := by
  have h := eql23 p q r p' q' r' w
  rw [run_eql_struct] at h
  rw [run_neq_struct]
  generalize (Op.equalIn 10000 37 (.agg #[.int .i64 p, .int .i64 q, .int .i64 r]) (.agg #[.int .i64 p', .int .i64 q', .int .i64 r'])).run Try.prog w = R at h ⊢
  cases R with
  | ok b w' =>
    simp only [Result.andThen] at h ⊢
    injection h with h1 h2
    injection h1 with h1
    rw [h1, h2]
  | _ => simp [Result.andThen] at h
/-- From answers. -/
def Froms (y m d a e : Int) : Prop := ∀ w : World, Calls Try.prog 20 #[.agg #[.int .i64 y, .int .i64 m, .int .i64 d]] w fun z w' => z = .returned (.tuple #[.int .i64 a, .int .i64 e]) ∧ Below w.heap.size w w'
set_option maxHeartbeats 1000000 in
theorem from_er (y m d n : Int) (hn : wrap64 (wrap64 (da y + mol y (upto m)) + d) = n) (hT : Hid (Tos n 0 0 0 5)) : Froms y m d 0 5 := by
  intro w
  have hd := hide (da_any y)
  have hm := hide (months_any y m)
  generalize da y = A at *
  generalize mol y (upto m) = B at *
  go_enter Try.func20, Try.ntmps20
  go_wp2_with fail
  go_quiet (first | (go_at_call 33; exact Calls.quiet_of_same (unhide hd _)) | (go_at_call 34; exact Calls.quiet_of_same (unhide hm _)))
  go_wp2_with fail
  have B1 : R3 ((w.alloc (.cells #[.int .i64 y, .int .i64 m, .int .i64 d] 37)).drewN nq) w.heap.size y m d := R3.new w y m d
  have B2 := below_drewN ((Below.refl w.heap.size w).alloc (Nat.le_refl _) (.cells #[.int .i64 y, .int .i64 m, .int .i64 d] 37)) nq
  generalize (w.alloc (.cells #[.int .i64 y, .int .i64 m, .int .i64 d] 37)).drewN nq = W at *
  refine (unhide hT _).mono ?_
  rintro e w2 ⟨rfl, hb2⟩
  replace B1 := hide (B1.keep hb2 B1.lt)
  replace B2 := hide (below_via B2 hb2)
  clear hb2
  have BB := hide (below_via (unhide B2) (below_new (.cells #[.int .i64 0, .int .i64 0, .int .i64 0] 37) (.int .i64 0) (.int .i64 0) (.int .i64 0)))
  go_wp2_with fail
  go_ret2
  exact ⟨rfl, unhide BB⟩
set_option maxRecDepth 20000 in
set_option maxHeartbeats 1000000 in
theorem from_same (y m d Y M D n : Int) (hn : wrap64 (wrap64 (da y + mol y (upto m)) + d) = n) (hT : Hid (Tos n Y M D 0)) (hq : ∀ w, (binOp .neq 37 (.agg #[.int .i64 Y, .int .i64 M, .int .i64 D]) (.agg #[.int .i64 y, .int .i64 m, .int .i64 d])).run Try.prog w = .ok (.bool false) w) : Froms y m d n 0 := by
  intro w
  have hd := hide (da_any y)
  have hm := hide (months_any y m)
  generalize da y = A at *
  generalize mol y (upto m) = B at *
  go_enter Try.func20, Try.ntmps20
  go_wp2_with fail
  go_quiet (first | (go_at_call 33; exact Calls.quiet_of_same (unhide hd _)) | (go_at_call 34; exact Calls.quiet_of_same (unhide hm _)))
  go_wp2_with fail
  have B1 : R3 ((w.alloc (.cells #[.int .i64 y, .int .i64 m, .int .i64 d] 37)).drewN nq) w.heap.size y m d := R3.new w y m d
  have B2 := below_drewN ((Below.refl w.heap.size w).alloc (Nat.le_refl _) (.cells #[.int .i64 y, .int .i64 m, .int .i64 d] 37)) nq
  generalize (w.alloc (.cells #[.int .i64 y, .int .i64 m, .int .i64 d] 37)).drewN nq = W at *
  refine (unhide hT _).mono ?_
  rintro e w2 ⟨rfl, hb2⟩
  replace B1 := B1.keep hb2 B1.lt
  replace B2 := hide (below_via B2 hb2)
  clear hb2
  have BB := hide (below_via (unhide B2) (below_new (.cells #[.int .i64 0, .int .i64 0, .int .i64 0] 37) (.int .i64 Y) (.int .i64 M) (.int .i64 D)))
  have B4 := r3_old B1 (.cells #[.int .i64 0, .int .i64 0, .int .i64 0] 37) (.int .i64 Y) (.int .i64 M) (.int .i64 D)
  have c0 := B4.c0
  have c1 := B4.c1
  have c2 := B4.c2
  replace B1 := hide B1
  replace B4 := hide B4
  go_wp2_with fail
  go_ret2
  exact ⟨rfl, unhide BB⟩
set_option maxRecDepth 20000 in
set_option maxHeartbeats 1000000 in
theorem from_other (y m d Y M D n : Int) (hn : wrap64 (wrap64 (da y + mol y (upto m)) + d) = n) (hT : Hid (Tos n Y M D 0)) (hq : ∀ w, (binOp .neq 37 (.agg #[.int .i64 Y, .int .i64 M, .int .i64 D]) (.agg #[.int .i64 y, .int .i64 m, .int .i64 d])).run Try.prog w = .ok (.bool true) w) : Froms y m d 0 5 := by
  intro w
  have hd := hide (da_any y)
  have hm := hide (months_any y m)
  generalize da y = A at *
  generalize mol y (upto m) = B at *
  go_enter Try.func20, Try.ntmps20
  go_wp2_with fail
  go_quiet (first | (go_at_call 33; exact Calls.quiet_of_same (unhide hd _)) | (go_at_call 34; exact Calls.quiet_of_same (unhide hm _)))
  go_wp2_with fail
  have B1 : R3 ((w.alloc (.cells #[.int .i64 y, .int .i64 m, .int .i64 d] 37)).drewN nq) w.heap.size y m d := R3.new w y m d
  have B2 := below_drewN ((Below.refl w.heap.size w).alloc (Nat.le_refl _) (.cells #[.int .i64 y, .int .i64 m, .int .i64 d] 37)) nq
  generalize (w.alloc (.cells #[.int .i64 y, .int .i64 m, .int .i64 d] 37)).drewN nq = W at *
  refine (unhide hT _).mono ?_
  rintro e w2 ⟨rfl, hb2⟩
  replace B1 := B1.keep hb2 B1.lt
  replace B2 := hide (below_via B2 hb2)
  clear hb2
  have BB := hide (below_via (unhide B2) (below_new (.cells #[.int .i64 0, .int .i64 0, .int .i64 0] 37) (.int .i64 Y) (.int .i64 M) (.int .i64 D)))
  have B4 := r3_old B1 (.cells #[.int .i64 0, .int .i64 0, .int .i64 0] 37) (.int .i64 Y) (.int .i64 M) (.int .i64 D)
  have c0 := B4.c0
  have c1 := B4.c1
  have c2 := B4.c2
  replace B1 := hide B1
  replace B4 := hide B4
  go_wp2_with fail
  go_ret2
  exact ⟨rfl, unhide BB⟩
theorem from_ok {y m d : Int} (h : Valid y m d) : Froms y m d (num y m d) 0 :=
  from_same y m d y m d _ (rn_valid h) (hide (to_ok y m d h)) (fun w => by rw [neq23]; simp)
theorem from_no {y m d : Int} (h : ¬ Valid y m d) : Froms y m d 0 5 := by
  by_cases c : 1 ≤ rn y m d ∧ rn y m d ≤ 3652059
  · obtain ⟨Y, M, D, hv, e⟩ := date_of _ c.1 c.2
    refine from_other y m d Y M D _ e.symm (hide (to_ok Y M D hv)) (fun w => ?_)
    rw [neq23]
    by_cases e1 : Y = y
    · by_cases e2 : M = m
      · by_cases e3 : D = d
        · exact absurd (e1 ▸ e2 ▸ e3 ▸ hv) h
        · simp [e3]
      · simp [e2]
    · simp [e1]
  · exact from_er y m d (rn y m d) rfl (hide (to_no _ (by omega)))
end Go.Proofs.Ytmpalgfhamahnaa
