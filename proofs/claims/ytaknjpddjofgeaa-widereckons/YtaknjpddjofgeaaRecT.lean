/- WideReckons: what stands behind its two drawn assignments. -/
import Derived.Test.YtaknjpddjofgeaaRecB
namespace Go.Proofs.Ytaknjpddjofgeaa.wideReckons
open Go.RowKit
set_option linter.unusedSimpArgs false
/-- The code from that region on. -/
def restAt (n : Nat) : Code → Option Code
  | .seq a b => match a with
    | .region k _ _ => if k = n then some (.seq a b) else restAt n b
    | a => match restAt n a with
      | some c => some c
      | none => restAt n b
  | .block _ c => restAt n c
  | .scope c => restAt n c
  | _ => none
set_option maxRecDepth 20000 in
set_option maxHeartbeats 20000000 in
theorem tail (p q r s x y u1 u2 ue v1 v2 ve c m1 m2 o1 o2 : Int) (w W : World) (a3 a4 a7 a8 : Nat) (HL : Hid (LS w W a3 a4 a7 a8 p q r s)) (h1 : Hid (∀ w, Calls Try.prog 10 #[.agg #[.int .i64 p, .int .u64 q], .agg #[.int .i64 r, .int .u64 s]] w fun z w' => z = .returned (.tuple #[.agg #[.int .i64 u1, .int .u64 u2], .int .i64 ue]) ∧ Below w.heap.size w w'))
    (h2 : Hid (∀ w, Calls Try.prog 11 #[.agg #[.int .i64 p, .int .u64 q], .agg #[.int .i64 r, .int .u64 s]] w fun z w' => z = .returned (.tuple #[.agg #[.int .i64 u1, .int .u64 u2], .int .i64 ue]) ∧ Below w.heap.size w w'))
    (h3 : Hid (∀ w, Calls Try.prog 12 #[.agg #[.int .i64 p, .int .u64 q]] w fun z w' => z = .returned (.tuple #[.agg #[.int .i64 v1, .int .u64 v2], .int .i64 ve]) ∧ Below w.heap.size w w'))
    (h4 : Hid (∀ w, Calls Try.prog 13 #[.agg #[.int .i64 p, .int .u64 q]] w fun z w' => z = .returned (.tuple #[.agg #[.int .i64 v1, .int .u64 v2], .int .i64 ve]) ∧ Below w.heap.size w w'))
    (h5 : Hid (∀ w, Calls Try.prog 14 #[.agg #[.int .i64 p, .int .u64 q], .agg #[.int .i64 r, .int .u64 s]] w fun z w' => z = .returned (.int .i64 c) ∧ Below w.heap.size w w'))
    (h6 : Hid (∀ w, Calls Try.prog 15 #[.agg #[.int .i64 p, .int .u64 q], .agg #[.int .i64 r, .int .u64 s]] w fun z w' => z = .returned (.int .i64 c) ∧ Below w.heap.size w w'))
    (h7 : Hid (∀ w, Calls Try.prog 16 #[.int .i64 x, .int .i64 y] w fun z w' => z = .returned (.agg #[.int .i64 m1, .int .u64 m2]) ∧ Below w.heap.size w w'))
    (h8 : Hid (∀ w, Calls Try.prog 17 #[.int .i64 x, .int .i64 y] w fun z w' => z = .returned (.agg #[.int .i64 m1, .int .u64 m2]) ∧ Below w.heap.size w w'))
    (h9 : Hid (∀ w, Calls Try.prog 18 #[.int .i64 x] w fun z w' => z = .returned (.agg #[.int .i64 o1, .int .u64 o2]) ∧ Below w.heap.size w w'))
    (h10 : Hid (∀ w, Calls Try.prog 19 #[.int .i64 x] w fun z w' => z = .returned (.agg #[.int .i64 o1, .int .u64 o2]) ∧ Below w.heap.size w w'))
    (q1 : ∀ w, (binOp .eql 28 (.agg #[.int .i64 u1, .int .u64 u2]) (.agg #[.int .i64 u1, .int .u64 u2])).run Try.prog w = .ok (.bool true) w)
    (q2 : ∀ w, (binOp .eql 28 (.agg #[.int .i64 v1, .int .u64 v2]) (.agg #[.int .i64 v1, .int .u64 v2])).run Try.prog w = .ok (.bool true) w)
    (q3 : ∀ w, (binOp .eql 28 (.agg #[.int .i64 m1, .int .u64 m2]) (.agg #[.int .i64 m1, .int .u64 m2])).run Try.prog w = .ok (.bool true) w)
    (q4 : ∀ w, (binOp .eql 28 (.agg #[.int .i64 o1, .int .u64 o2]) (.agg #[.int .i64 o1, .int .u64 o2])).run Try.prog w = .ok (.bool true) w) :
    Code.wp Try.prog ((Try.f3.body.bind (restAt 5)).getD .skip) (bodyPost Try.prog Try.f3 fun e w' => e = .returned (.bool true) ∧ Below w.heap.size w w') ⟨#[.agg #[.int .i64 p, .int .u64 q, .int .i64 r, .int .u64 s, .int .i64 x, .int .i64 y], .pointer (some ⟨w.heap.size, 0, none⟩), .bool false, .pointer (some ⟨a3, 0, none⟩), .pointer (some ⟨a4, 0, none⟩), .int .i64 x, .int .i64 y, .pointer (some ⟨a7, 0, none⟩), .pointer (some ⟨a8, 0, none⟩), undef, undef, undef, undef, undef, undef, undef, undef, .bool true, .bool false, .pointer (some ⟨w.heap.size, 0, none⟩), .agg #[.int .i64 p, .int .u64 q], .pointer (some ⟨w.heap.size, 2, none⟩), .agg #[.int .i64 r, .int .u64 s], .pointer (some ⟨w.heap.size, 4, none⟩), .int .i64 x, .pointer (some ⟨w.heap.size, 5, none⟩), .int .i64 y, .agg #[.int .i64 p, .int .u64 q], .agg #[.int .i64 r, .int .u64 s], undef, undef, undef, undef, undef, undef, undef, undef, undef, undef, undef, undef, undef, undef, undef, undef, undef, undef, undef, undef, undef, undef, undef, undef, undef, undef, undef, undef, undef, undef, undef, undef, undef, undef, undef, undef, undef, undef, undef, undef, undef, undef, undef, undef, undef, undef, undef, undef, undef, undef, undef, undef, undef, undef, undef, undef, undef, undef, undef, undef, undef, undef, undef, undef, undef], []⟩ W := by
  conv => arg 2; whnf
  have zra0 := (unhide HL).ra.c0
  have zra1 := (unhide HL).ra.c1
  have zrb0 := (unhide HL).rb.c0
  have zrb1 := (unhide HL).rb.c1
  have zrp0 := (unhide HL).rp.c0
  have zrp1 := (unhide HL).rp.c1
  have zrq0 := (unhide HL).rq.c0
  have zrq1 := (unhide HL).rq.c1
  go_wp2_with fail
  clear zra0 zra1 zrb0 zrb1 zrp0 zrp1 zrq0 zrq1
  refine (unhide h1 _).mono ?_
  rintro e wA ⟨rfl, hbA⟩
  replace HL := hide ((unhide HL).keep hbA)
  clear hbA
  replace HL := hide ((unhide HL).alloc (.cells #[.int .i64 u1, .int .u64 u2] 24))
  have r9 := hide (R24.new wA u1 u2)
  have zra0 := (unhide HL).ra.c0
  have zra1 := (unhide HL).ra.c1
  have zrb0 := (unhide HL).rb.c0
  have zrb1 := (unhide HL).rb.c1
  have zrp0 := (unhide HL).rp.c0
  have zrp1 := (unhide HL).rp.c1
  have zrq0 := (unhide HL).rq.c0
  have zrq1 := (unhide HL).rq.c1
  go_wp2_with fail
  clear zra0 zra1 zrb0 zrb1 zrp0 zrp1 zrq0 zrq1
  generalize wA.alloc (.cells #[.int .i64 u1, .int .u64 u2] 24) = W9 at HL  r9 ⊢
  obtain ⟨a9, ha⟩ : ∃ a, a = wA.heap.size := ⟨_, rfl⟩
  rw [← ha] at r9 ⊢
  clear ha
  refine (unhide h2 _).mono ?_
  rintro e wB ⟨rfl, hbA⟩
  replace HL := hide ((unhide HL).keep hbA)
  replace r9 := hide ((unhide r9).keep hbA (unhide r9).lt)
  clear hbA
  replace HL := hide ((unhide HL).alloc (.cells #[.int .i64 u1, .int .u64 u2] 28))
  replace r9 := hide ((unhide r9).alloc (.cells #[.int .i64 u1, .int .u64 u2] 28))
  have r11 := hide (R28.new wB u1 u2)
  have zra0 := (unhide HL).ra.c0
  have zra1 := (unhide HL).ra.c1
  have zrb0 := (unhide HL).rb.c0
  have zrb1 := (unhide HL).rb.c1
  have zrp0 := (unhide HL).rp.c0
  have zrp1 := (unhide HL).rp.c1
  have zrq0 := (unhide HL).rq.c0
  have zrq1 := (unhide HL).rq.c1
  go_wp2_with fail
  clear zra0 zra1 zrb0 zrb1 zrp0 zrp1 zrq0 zrq1
  generalize wB.alloc (.cells #[.int .i64 u1, .int .u64 u2] 28) = W11 at HL r9 r11 ⊢
  obtain ⟨a11, ha⟩ : ∃ a, a = wB.heap.size := ⟨_, rfl⟩
  rw [← ha] at r11 ⊢
  clear ha
  refine (unhide h3 _).mono ?_
  rintro e wC ⟨rfl, hbA⟩
  replace HL := hide ((unhide HL).keep hbA)
  replace r9 := hide ((unhide r9).keep hbA (unhide r9).lt)
  replace r11 := hide ((unhide r11).keep hbA (unhide r11).lt)
  clear hbA
  replace HL := hide ((unhide HL).alloc (.cells #[.int .i64 v1, .int .u64 v2] 24))
  replace r9 := hide ((unhide r9).alloc (.cells #[.int .i64 v1, .int .u64 v2] 24))
  replace r11 := hide ((unhide r11).alloc (.cells #[.int .i64 v1, .int .u64 v2] 24))
  have r13 := hide (R24.new wC v1 v2)
  have zra0 := (unhide HL).ra.c0
  have zra1 := (unhide HL).ra.c1
  have zrb0 := (unhide HL).rb.c0
  have zrb1 := (unhide HL).rb.c1
  have zrp0 := (unhide HL).rp.c0
  have zrp1 := (unhide HL).rp.c1
  have zrq0 := (unhide HL).rq.c0
  have zrq1 := (unhide HL).rq.c1
  go_wp2_with fail
  clear zra0 zra1 zrb0 zrb1 zrp0 zrp1 zrq0 zrq1
  generalize wC.alloc (.cells #[.int .i64 v1, .int .u64 v2] 24) = W13 at HL r9 r11 r13 ⊢
  obtain ⟨a13, ha⟩ : ∃ a, a = wC.heap.size := ⟨_, rfl⟩
  rw [← ha] at r13 ⊢
  clear ha
  refine (unhide h4 _).mono ?_
  rintro e wD ⟨rfl, hbA⟩
  replace HL := hide ((unhide HL).keep hbA)
  replace r9 := hide ((unhide r9).keep hbA (unhide r9).lt)
  replace r11 := hide ((unhide r11).keep hbA (unhide r11).lt)
  replace r13 := hide ((unhide r13).keep hbA (unhide r13).lt)
  clear hbA
  replace HL := hide ((unhide HL).alloc (.cells #[.int .i64 v1, .int .u64 v2] 28))
  replace r9 := hide ((unhide r9).alloc (.cells #[.int .i64 v1, .int .u64 v2] 28))
  replace r11 := hide ((unhide r11).alloc (.cells #[.int .i64 v1, .int .u64 v2] 28))
  replace r13 := hide ((unhide r13).alloc (.cells #[.int .i64 v1, .int .u64 v2] 28))
  have r15 := hide (R28.new wD v1 v2)
  have zra0 := (unhide HL).ra.c0
  have zra1 := (unhide HL).ra.c1
  have zrb0 := (unhide HL).rb.c0
  have zrb1 := (unhide HL).rb.c1
  have zrp0 := (unhide HL).rp.c0
  have zrp1 := (unhide HL).rp.c1
  have zrq0 := (unhide HL).rq.c0
  have zrq1 := (unhide HL).rq.c1
  go_wp2_with fail
  clear zra0 zra1 zrb0 zrb1 zrp0 zrp1 zrq0 zrq1
  generalize wD.alloc (.cells #[.int .i64 v1, .int .u64 v2] 28) = W15 at HL r9 r11 r13 r15 ⊢
  obtain ⟨a15, ha⟩ : ∃ a, a = wD.heap.size := ⟨_, rfl⟩
  rw [← ha] at r15 ⊢
  clear ha
  have H9 := I9.of (show L9 w W15 a3 a4 a7 a8 a9 a11 a13 a15 p q r s u1 u2 v1 v2 from ⟨unhide HL, unhide r9, unhide r11, unhide r13, unhide r15⟩)
  clear HL r9 r11 r13 r15
  clear h1 h2 h3 h4
  go_wp2_with fail
  go_region_held3 (fun w' => w'.cell? ⟨a3, 0, none⟩ = some (.int .i64 p) ∧ w'.cell? ⟨a3, 1, none⟩ = some (.int .u64 q) ∧ w'.cell? ⟨a4, 0, none⟩ = some (.int .i64 r) ∧ w'.cell? ⟨a4, 1, none⟩ = some (.int .u64 s) ∧ w'.cell? ⟨a7, 0, none⟩ = some (.int .i64 p) ∧ w'.cell? ⟨a7, 1, none⟩ = some (.int .u64 q) ∧ w'.cell? ⟨a8, 0, none⟩ = some (.int .i64 r) ∧ w'.cell? ⟨a8, 1, none⟩ = some (.int .u64 s) ∧ w'.cell? ⟨a9, 0, none⟩ = some (.int .i64 u1) ∧ w'.cell? ⟨a9, 1, none⟩ = some (.int .u64 u2) ∧ w'.cell? ⟨a11, 0, none⟩ = some (.int .i64 u1) ∧ w'.cell? ⟨a11, 1, none⟩ = some (.int .u64 u2) ∧ w'.cell? ⟨a13, 0, none⟩ = some (.int .i64 v1) ∧ w'.cell? ⟨a13, 1, none⟩ = some (.int .u64 v2) ∧ w'.cell? ⟨a15, 0, none⟩ = some (.int .i64 v1) ∧ w'.cell? ⟨a15, 1, none⟩ = some (.int .u64 v2) ∧ Hid (L9 w w' a3 a4 a7 a8 a9 a11 a13 a15 p q r s u1 u2 v1 v2))
    (first
      | exact I9.keep (by assumption) hbA
      | exact I9.keep H9 hbA
      | exact I9.keep H9.drew hbA
      | exact H9.drew
      | exact H9)
    (first
      | (go_at_call 14; refine (unhide h5 _).mono ?_; rintro z wA ⟨rfl, hbA⟩)
      | (go_at_call 15; refine (unhide h6 _).mono ?_; rintro z wA ⟨rfl, hbA⟩)
      | (go_at_call 16; refine (unhide h7 _).mono ?_; rintro z wA ⟨rfl, hbA⟩)
      | (go_at_call 17; refine (unhide h8 _).mono ?_; rintro z wA ⟨rfl, hbA⟩)
      | (go_at_call 18; refine (unhide h9 _).mono ?_; rintro z wA ⟨rfl, hbA⟩)
      | (go_at_call 19; refine (unhide h10 _).mono ?_; rintro z wA ⟨rfl, hbA⟩))
  rename_i hH
  have BB := hide (I9.get hH).l.below
  clear hH H9
  go_wp2_with fail
  go_ret
  exact ⟨rfl, unhide BB⟩
end Go.Proofs.Ytaknjpddjofgeaa.wideReckons
