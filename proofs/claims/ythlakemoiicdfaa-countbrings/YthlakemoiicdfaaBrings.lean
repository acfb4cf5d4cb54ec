/- Proved here: CountBrings: of no days there is nothing, of more days no less, in each way of counting. No condition. -/
import Derived.Test.YthlakemoiicdfaaBrNum
import Derived.Lib.SmallJoins
import Derived.ProofKit
import Derived.OpenShut
import Derived.ShutString
import Derived.ChangeOld
import Derived.Below
namespace Go.Proofs.Ythlakemoiicdfaa.countBrings
open Go.ChangeShapes Go.WideShapes Go.ChangeAt Go.RowKit
open Dy (ds)
set_option linter.unusedSimpArgs false
def Good (x r a c y : Int) (M : Nat) (w : World) : Prop := Calls Try.prog 6 #[.agg #[.int .i64 x, .int .i64 r, .int .i64 a, .int .i64 c, .int .i64 y], .int .u16 (M : Int)] w fun e w' => e = .returned (.bool true) ∧ Below w.heap.size w w'
def Case (X R a : Int) (M : Nat) : Prop := decide (a < 1) = true ∨ (decide (a < 1) = false ∧ decide (3000000 < a) = true) ∨ (decide (a < 1) = false ∧ decide (3000000 < a) = false ∧ 1 ≤ a ∧ a ≤ 3000000 ∧ Hid (∀ k : Nat, 1 ≤ k → k ≤ 3 → T3 X R a ((M : Int) % 2000) k))
set_option maxRecDepth 20000 in
set_option maxHeartbeats 4000000 in
theorem go_nn (x r a c y : Int) (M : Nat) (w : World) (hM : (M : Int) ≤ 65535) (hx : x < 0) (hr : r < 0) (hC : Hid (Case 0 0 a M)) : Good x r a c y M w := by
  unfold Good
  have hal := hide alive_any
  have hR := hide (R5.new w x r a c y)
  have hB := hide ((Below.refl w.heap.size w).alloc (Nat.le_refl _) (.cells #[.int .i64 x, .int .i64 r, .int .i64 a, .int .i64 c, .int .i64 y] 23))
  go_enter Try.func6, Try.ntmps6
  go_wp2_with fail
  generalize w.alloc (.cells #[.int .i64 x, .int .i64 r, .int .i64 a, .int .i64 c, .int .i64 y] 23) = W at hR hB ⊢
  refine (unhide hal _).mono ?_
  rintro e w1 ⟨rfl, hb⟩
  replace hR := hide ((unhide hR).keep hb (unhide hR).lt)
  replace hB := hide (below_via (unhide hB) hb)
  clear hb hal
  have c0 := (unhide hR).c0
  have c1 := (unhide hR).c1
  have f0 := (unhide hR).fr 0
  have f1 := (unhide hR).fr 1
  have HR := hide (((unhide hR).s0 (0)).s1 (0))
  have HB := hide (((unhide hB).setCell (p := ⟨w.heap.size, 0, none⟩) (Nat.le_refl _) (.int .i64 0)).setCell (p := ⟨w.heap.size, 1, none⟩) (Nat.le_refl _) (.int .i64 0))
  have c2 := (unhide HR).c2
  rcases unhide hC with t1 | ⟨t1, t2⟩ | ⟨t1, t2, a1, a2, hT⟩ <;> clear hC
  · go_wp2_with fail
    go_ret
    exact ⟨rfl, unhide HB⟩
  · go_wp2_with fail
    go_ret
    exact ⟨rfl, unhide HB⟩
  · go_wp2_with fail
    clear c0 c1 f0 f1 c2
    generalize (w1.setCell ⟨w.heap.size, 0, none⟩ (.int .i64 0)).setCell ⟨w.heap.size, 1, none⟩ (.int .i64 0) = W2 at HR HB ⊢
    go_loopw [5] (fun i wr => ∃ (k : Nat), 1 ≤ k ∧ k ≤ 4 ∧ i = .int .i64 k ∧ Hid (R5 wr w.heap.size (0) (0) a c y) ∧ Hid (Below w.heap.size w wr)) (fun i _ => 4 - (intOf i).toNat)
    case atStart => exact ⟨1, by omega, by omega, rfl, HR, HB⟩
    case round =>
      clear HR HB hR hB
      obtain ⟨k, hk1, hk2, rfl, HR, HB⟩ := hrel
      by_cases hlt : k ≤ 3
      · have hlt' : decide ((k : Int) ≤ 3) = true := decide_eq_true (by omega)
        obtain ⟨u, v, q1, q2, q3, u0, uv⟩ := unhide hT k hk1 hlt
        have d1 : decide (u < 0) = false := decide_eq_false (by omega)
        have d2 : decide (v < u) = false := decide_eq_false (by omega)
        replace q1 := hide q1
        replace q2 := hide q2
        replace q3 := hide q3
        clear hT
        have c0 := (unhide HR).c0
        have c1 := (unhide HR).c1
        have c2 := (unhide HR).c2
        go_wp2_with fail
        clear c0 c1 c2
        refine (unhide q1 _).mono ?_
        rintro e w3 ⟨rfl, hb⟩
        replace HR := hide ((unhide HR).keep hb (unhide HR).lt)
        replace HB := hide (below_via (unhide HB) hb)
        clear hb
        have c0 := (unhide HR).c0
        have c1 := (unhide HR).c1
        have c2 := (unhide HR).c2
        go_wp2_with fail
        clear c0 c1 c2
        refine (unhide q2 _).mono ?_
        rintro e w4 ⟨rfl, hb⟩
        replace HR := hide ((unhide HR).keep hb (unhide HR).lt)
        replace HB := hide (below_via (unhide HB) hb)
        clear hb
        have c0 := (unhide HR).c0
        have c1 := (unhide HR).c1
        have c2 := (unhide HR).c2
        go_wp2_with fail
        clear c0 c1 c2
        refine (unhide q3 _).mono ?_
        rintro e w5 ⟨rfl, hb⟩
        replace HR := hide ((unhide HR).keep hb (unhide HR).lt)
        replace HB := hide (below_via (unhide HB) hb)
        clear hb
        go_wp2_with fail
        go_roundw
        case rel => exact ⟨k + 1, by omega, by omega, by go_num, HR, HB⟩
        case measure => simp [intOf]; omega
      · have hk : k = 4 := by omega
        subst hk
        clear hT
        go_wp2_with fail
        go_ret
        exact ⟨rfl, unhide HB⟩
set_option maxRecDepth 20000 in
set_option maxHeartbeats 4000000 in
theorem go_nm (x r a c y : Int) (M : Nat) (w : World) (hM : (M : Int) ≤ 65535) (hx : x < 0) (hr : 0 ≤ r) (hr2 : r ≤ 1000000000000) (hC : Hid (Case 0 r a M)) : Good x r a c y M w := by
  unfold Good
  have hal := hide alive_any
  have hR := hide (R5.new w x r a c y)
  have hB := hide ((Below.refl w.heap.size w).alloc (Nat.le_refl _) (.cells #[.int .i64 x, .int .i64 r, .int .i64 a, .int .i64 c, .int .i64 y] 23))
  go_enter Try.func6, Try.ntmps6
  go_wp2_with fail
  generalize w.alloc (.cells #[.int .i64 x, .int .i64 r, .int .i64 a, .int .i64 c, .int .i64 y] 23) = W at hR hB ⊢
  refine (unhide hal _).mono ?_
  rintro e w1 ⟨rfl, hb⟩
  replace hR := hide ((unhide hR).keep hb (unhide hR).lt)
  replace hB := hide (below_via (unhide hB) hb)
  clear hb hal
  have c0 := (unhide hR).c0
  have c1 := (unhide hR).c1
  have f0 := (unhide hR).fr 0
  have f1 := (unhide hR).fr 1
  have HR := hide (((unhide hR).s0 (0)).s1 r)
  have HB := hide (((unhide hB).setCell (p := ⟨w.heap.size, 0, none⟩) (Nat.le_refl _) (.int .i64 0)).setCell (p := ⟨w.heap.size, 1, none⟩) (Nat.le_refl _) (.int .i64 r))
  have c2 := (unhide HR).c2
  rcases unhide hC with t1 | ⟨t1, t2⟩ | ⟨t1, t2, a1, a2, hT⟩ <;> clear hC
  · go_wp2_with fail
    go_ret
    exact ⟨rfl, unhide HB⟩
  · go_wp2_with fail
    go_ret
    exact ⟨rfl, unhide HB⟩
  · go_wp2_with fail
    clear c0 c1 f0 f1 c2
    generalize (w1.setCell ⟨w.heap.size, 0, none⟩ (.int .i64 0)).setCell ⟨w.heap.size, 1, none⟩ (.int .i64 r) = W2 at HR HB ⊢
    go_loopw [5] (fun i wr => ∃ (k : Nat), 1 ≤ k ∧ k ≤ 4 ∧ i = .int .i64 k ∧ Hid (R5 wr w.heap.size (0) r a c y) ∧ Hid (Below w.heap.size w wr)) (fun i _ => 4 - (intOf i).toNat)
    case atStart => exact ⟨1, by omega, by omega, rfl, HR, HB⟩
    case round =>
      clear HR HB hR hB
      obtain ⟨k, hk1, hk2, rfl, HR, HB⟩ := hrel
      by_cases hlt : k ≤ 3
      · have hlt' : decide ((k : Int) ≤ 3) = true := decide_eq_true (by omega)
        obtain ⟨u, v, q1, q2, q3, u0, uv⟩ := unhide hT k hk1 hlt
        have d1 : decide (u < 0) = false := decide_eq_false (by omega)
        have d2 : decide (v < u) = false := decide_eq_false (by omega)
        replace q1 := hide q1
        replace q2 := hide q2
        replace q3 := hide q3
        clear hT
        have c0 := (unhide HR).c0
        have c1 := (unhide HR).c1
        have c2 := (unhide HR).c2
        go_wp2_with fail
        clear c0 c1 c2
        refine (unhide q1 _).mono ?_
        rintro e w3 ⟨rfl, hb⟩
        replace HR := hide ((unhide HR).keep hb (unhide HR).lt)
        replace HB := hide (below_via (unhide HB) hb)
        clear hb
        have c0 := (unhide HR).c0
        have c1 := (unhide HR).c1
        have c2 := (unhide HR).c2
        go_wp2_with fail
        clear c0 c1 c2
        refine (unhide q2 _).mono ?_
        rintro e w4 ⟨rfl, hb⟩
        replace HR := hide ((unhide HR).keep hb (unhide HR).lt)
        replace HB := hide (below_via (unhide HB) hb)
        clear hb
        have c0 := (unhide HR).c0
        have c1 := (unhide HR).c1
        have c2 := (unhide HR).c2
        go_wp2_with fail
        clear c0 c1 c2
        refine (unhide q3 _).mono ?_
        rintro e w5 ⟨rfl, hb⟩
        replace HR := hide ((unhide HR).keep hb (unhide HR).lt)
        replace HB := hide (below_via (unhide HB) hb)
        clear hb
        go_wp2_with fail
        go_roundw
        case rel => exact ⟨k + 1, by omega, by omega, by go_num, HR, HB⟩
        case measure => simp [intOf]; omega
      · have hk : k = 4 := by omega
        subst hk
        clear hT
        go_wp2_with fail
        go_ret
        exact ⟨rfl, unhide HB⟩
set_option maxRecDepth 20000 in
set_option maxHeartbeats 4000000 in
theorem go_ng (x r a c y : Int) (M : Nat) (w : World) (hM : (M : Int) ≤ 65535) (hx : x < 0) (hr : 1000000000000 < r) (hC : Hid (Case 0 1000000000000 a M)) : Good x r a c y M w := by
  unfold Good
  have hal := hide alive_any
  have hR := hide (R5.new w x r a c y)
  have hB := hide ((Below.refl w.heap.size w).alloc (Nat.le_refl _) (.cells #[.int .i64 x, .int .i64 r, .int .i64 a, .int .i64 c, .int .i64 y] 23))
  go_enter Try.func6, Try.ntmps6
  go_wp2_with fail
  generalize w.alloc (.cells #[.int .i64 x, .int .i64 r, .int .i64 a, .int .i64 c, .int .i64 y] 23) = W at hR hB ⊢
  refine (unhide hal _).mono ?_
  rintro e w1 ⟨rfl, hb⟩
  replace hR := hide ((unhide hR).keep hb (unhide hR).lt)
  replace hB := hide (below_via (unhide hB) hb)
  clear hb hal
  have c0 := (unhide hR).c0
  have c1 := (unhide hR).c1
  have f0 := (unhide hR).fr 0
  have f1 := (unhide hR).fr 1
  have HR := hide (((unhide hR).s0 (0)).s1 (1000000000000))
  have HB := hide (((unhide hB).setCell (p := ⟨w.heap.size, 0, none⟩) (Nat.le_refl _) (.int .i64 0)).setCell (p := ⟨w.heap.size, 1, none⟩) (Nat.le_refl _) (.int .i64 1000000000000))
  have c2 := (unhide HR).c2
  rcases unhide hC with t1 | ⟨t1, t2⟩ | ⟨t1, t2, a1, a2, hT⟩ <;> clear hC
  · go_wp2_with fail
    go_ret
    exact ⟨rfl, unhide HB⟩
  · go_wp2_with fail
    go_ret
    exact ⟨rfl, unhide HB⟩
  · go_wp2_with fail
    clear c0 c1 f0 f1 c2
    generalize (w1.setCell ⟨w.heap.size, 0, none⟩ (.int .i64 0)).setCell ⟨w.heap.size, 1, none⟩ (.int .i64 1000000000000) = W2 at HR HB ⊢
    go_loopw [5] (fun i wr => ∃ (k : Nat), 1 ≤ k ∧ k ≤ 4 ∧ i = .int .i64 k ∧ Hid (R5 wr w.heap.size (0) (1000000000000) a c y) ∧ Hid (Below w.heap.size w wr)) (fun i _ => 4 - (intOf i).toNat)
    case atStart => exact ⟨1, by omega, by omega, rfl, HR, HB⟩
    case round =>
      clear HR HB hR hB
      obtain ⟨k, hk1, hk2, rfl, HR, HB⟩ := hrel
      by_cases hlt : k ≤ 3
      · have hlt' : decide ((k : Int) ≤ 3) = true := decide_eq_true (by omega)
        obtain ⟨u, v, q1, q2, q3, u0, uv⟩ := unhide hT k hk1 hlt
        have d1 : decide (u < 0) = false := decide_eq_false (by omega)
        have d2 : decide (v < u) = false := decide_eq_false (by omega)
        replace q1 := hide q1
        replace q2 := hide q2
        replace q3 := hide q3
        clear hT
        have c0 := (unhide HR).c0
        have c1 := (unhide HR).c1
        have c2 := (unhide HR).c2
        go_wp2_with fail
        clear c0 c1 c2
        refine (unhide q1 _).mono ?_
        rintro e w3 ⟨rfl, hb⟩
        replace HR := hide ((unhide HR).keep hb (unhide HR).lt)
        replace HB := hide (below_via (unhide HB) hb)
        clear hb
        have c0 := (unhide HR).c0
        have c1 := (unhide HR).c1
        have c2 := (unhide HR).c2
        go_wp2_with fail
        clear c0 c1 c2
        refine (unhide q2 _).mono ?_
        rintro e w4 ⟨rfl, hb⟩
        replace HR := hide ((unhide HR).keep hb (unhide HR).lt)
        replace HB := hide (below_via (unhide HB) hb)
        clear hb
        have c0 := (unhide HR).c0
        have c1 := (unhide HR).c1
        have c2 := (unhide HR).c2
        go_wp2_with fail
        clear c0 c1 c2
        refine (unhide q3 _).mono ?_
        rintro e w5 ⟨rfl, hb⟩
        replace HR := hide ((unhide HR).keep hb (unhide HR).lt)
        replace HB := hide (below_via (unhide HB) hb)
        clear hb
        go_wp2_with fail
        go_roundw
        case rel => exact ⟨k + 1, by omega, by omega, by go_num, HR, HB⟩
        case measure => simp [intOf]; omega
      · have hk : k = 4 := by omega
        subst hk
        clear hT
        go_wp2_with fail
        go_ret
        exact ⟨rfl, unhide HB⟩
set_option maxRecDepth 20000 in
set_option maxHeartbeats 4000000 in
theorem go_mn (x r a c y : Int) (M : Nat) (w : World) (hM : (M : Int) ≤ 65535) (hx : 0 ≤ x) (hx2 : x ≤ 10000000000000) (hr : r < 0) (hC : Hid (Case x 0 a M)) : Good x r a c y M w := by
  unfold Good
  have hal := hide alive_any
  have hR := hide (R5.new w x r a c y)
  have hB := hide ((Below.refl w.heap.size w).alloc (Nat.le_refl _) (.cells #[.int .i64 x, .int .i64 r, .int .i64 a, .int .i64 c, .int .i64 y] 23))
  go_enter Try.func6, Try.ntmps6
  go_wp2_with fail
  generalize w.alloc (.cells #[.int .i64 x, .int .i64 r, .int .i64 a, .int .i64 c, .int .i64 y] 23) = W at hR hB ⊢
  refine (unhide hal _).mono ?_
  rintro e w1 ⟨rfl, hb⟩
  replace hR := hide ((unhide hR).keep hb (unhide hR).lt)
  replace hB := hide (below_via (unhide hB) hb)
  clear hb hal
  have c0 := (unhide hR).c0
  have c1 := (unhide hR).c1
  have f0 := (unhide hR).fr 0
  have f1 := (unhide hR).fr 1
  have HR := hide (((unhide hR).s0 x).s1 (0))
  have HB := hide (((unhide hB).setCell (p := ⟨w.heap.size, 0, none⟩) (Nat.le_refl _) (.int .i64 x)).setCell (p := ⟨w.heap.size, 1, none⟩) (Nat.le_refl _) (.int .i64 0))
  have c2 := (unhide HR).c2
  rcases unhide hC with t1 | ⟨t1, t2⟩ | ⟨t1, t2, a1, a2, hT⟩ <;> clear hC
  · go_wp2_with fail
    go_ret
    exact ⟨rfl, unhide HB⟩
  · go_wp2_with fail
    go_ret
    exact ⟨rfl, unhide HB⟩
  · go_wp2_with fail
    clear c0 c1 f0 f1 c2
    generalize (w1.setCell ⟨w.heap.size, 0, none⟩ (.int .i64 x)).setCell ⟨w.heap.size, 1, none⟩ (.int .i64 0) = W2 at HR HB ⊢
    go_loopw [5] (fun i wr => ∃ (k : Nat), 1 ≤ k ∧ k ≤ 4 ∧ i = .int .i64 k ∧ Hid (R5 wr w.heap.size x (0) a c y) ∧ Hid (Below w.heap.size w wr)) (fun i _ => 4 - (intOf i).toNat)
    case atStart => exact ⟨1, by omega, by omega, rfl, HR, HB⟩
    case round =>
      clear HR HB hR hB
      obtain ⟨k, hk1, hk2, rfl, HR, HB⟩ := hrel
      by_cases hlt : k ≤ 3
      · have hlt' : decide ((k : Int) ≤ 3) = true := decide_eq_true (by omega)
        obtain ⟨u, v, q1, q2, q3, u0, uv⟩ := unhide hT k hk1 hlt
        have d1 : decide (u < 0) = false := decide_eq_false (by omega)
        have d2 : decide (v < u) = false := decide_eq_false (by omega)
        replace q1 := hide q1
        replace q2 := hide q2
        replace q3 := hide q3
        clear hT
        have c0 := (unhide HR).c0
        have c1 := (unhide HR).c1
        have c2 := (unhide HR).c2
        go_wp2_with fail
        clear c0 c1 c2
        refine (unhide q1 _).mono ?_
        rintro e w3 ⟨rfl, hb⟩
        replace HR := hide ((unhide HR).keep hb (unhide HR).lt)
        replace HB := hide (below_via (unhide HB) hb)
        clear hb
        have c0 := (unhide HR).c0
        have c1 := (unhide HR).c1
        have c2 := (unhide HR).c2
        go_wp2_with fail
        clear c0 c1 c2
        refine (unhide q2 _).mono ?_
        rintro e w4 ⟨rfl, hb⟩
        replace HR := hide ((unhide HR).keep hb (unhide HR).lt)
        replace HB := hide (below_via (unhide HB) hb)
        clear hb
        have c0 := (unhide HR).c0
        have c1 := (unhide HR).c1
        have c2 := (unhide HR).c2
        go_wp2_with fail
        clear c0 c1 c2
        refine (unhide q3 _).mono ?_
        rintro e w5 ⟨rfl, hb⟩
        replace HR := hide ((unhide HR).keep hb (unhide HR).lt)
        replace HB := hide (below_via (unhide HB) hb)
        clear hb
        go_wp2_with fail
        go_roundw
        case rel => exact ⟨k + 1, by omega, by omega, by go_num, HR, HB⟩
        case measure => simp [intOf]; omega
      · have hk : k = 4 := by omega
        subst hk
        clear hT
        go_wp2_with fail
        go_ret
        exact ⟨rfl, unhide HB⟩
set_option maxRecDepth 20000 in
set_option maxHeartbeats 4000000 in
theorem go_mm (x r a c y : Int) (M : Nat) (w : World) (hM : (M : Int) ≤ 65535) (hx : 0 ≤ x) (hx2 : x ≤ 10000000000000) (hr : 0 ≤ r) (hr2 : r ≤ 1000000000000) (hC : Hid (Case x r a M)) : Good x r a c y M w := by
  unfold Good
  have hal := hide alive_any
  have hR := hide (R5.new w x r a c y)
  have hB := hide ((Below.refl w.heap.size w).alloc (Nat.le_refl _) (.cells #[.int .i64 x, .int .i64 r, .int .i64 a, .int .i64 c, .int .i64 y] 23))
  go_enter Try.func6, Try.ntmps6
  go_wp2_with fail
  generalize w.alloc (.cells #[.int .i64 x, .int .i64 r, .int .i64 a, .int .i64 c, .int .i64 y] 23) = W at hR hB ⊢
  refine (unhide hal _).mono ?_
  rintro e w1 ⟨rfl, hb⟩
  replace hR := hide ((unhide hR).keep hb (unhide hR).lt)
  replace hB := hide (below_via (unhide hB) hb)
  clear hb hal
  have c0 := (unhide hR).c0
  have c1 := (unhide hR).c1
  have f0 := (unhide hR).fr 0
  have f1 := (unhide hR).fr 1
  have HR := hide (((unhide hR).s0 x).s1 r)
  have HB := hide (((unhide hB).setCell (p := ⟨w.heap.size, 0, none⟩) (Nat.le_refl _) (.int .i64 x)).setCell (p := ⟨w.heap.size, 1, none⟩) (Nat.le_refl _) (.int .i64 r))
  have c2 := (unhide HR).c2
  rcases unhide hC with t1 | ⟨t1, t2⟩ | ⟨t1, t2, a1, a2, hT⟩ <;> clear hC
  · go_wp2_with fail
    go_ret
    exact ⟨rfl, unhide HB⟩
  · go_wp2_with fail
    go_ret
    exact ⟨rfl, unhide HB⟩
  · go_wp2_with fail
    clear c0 c1 f0 f1 c2
    generalize (w1.setCell ⟨w.heap.size, 0, none⟩ (.int .i64 x)).setCell ⟨w.heap.size, 1, none⟩ (.int .i64 r) = W2 at HR HB ⊢
    go_loopw [5] (fun i wr => ∃ (k : Nat), 1 ≤ k ∧ k ≤ 4 ∧ i = .int .i64 k ∧ Hid (R5 wr w.heap.size x r a c y) ∧ Hid (Below w.heap.size w wr)) (fun i _ => 4 - (intOf i).toNat)
    case atStart => exact ⟨1, by omega, by omega, rfl, HR, HB⟩
    case round =>
      clear HR HB hR hB
      obtain ⟨k, hk1, hk2, rfl, HR, HB⟩ := hrel
      by_cases hlt : k ≤ 3
      · have hlt' : decide ((k : Int) ≤ 3) = true := decide_eq_true (by omega)
        obtain ⟨u, v, q1, q2, q3, u0, uv⟩ := unhide hT k hk1 hlt
        have d1 : decide (u < 0) = false := decide_eq_false (by omega)
        have d2 : decide (v < u) = false := decide_eq_false (by omega)
        replace q1 := hide q1
        replace q2 := hide q2
        replace q3 := hide q3
        clear hT
        have c0 := (unhide HR).c0
        have c1 := (unhide HR).c1
        have c2 := (unhide HR).c2
        go_wp2_with fail
        clear c0 c1 c2
        refine (unhide q1 _).mono ?_
        rintro e w3 ⟨rfl, hb⟩
        replace HR := hide ((unhide HR).keep hb (unhide HR).lt)
        replace HB := hide (below_via (unhide HB) hb)
        clear hb
        have c0 := (unhide HR).c0
        have c1 := (unhide HR).c1
        have c2 := (unhide HR).c2
        go_wp2_with fail
        clear c0 c1 c2
        refine (unhide q2 _).mono ?_
        rintro e w4 ⟨rfl, hb⟩
        replace HR := hide ((unhide HR).keep hb (unhide HR).lt)
        replace HB := hide (below_via (unhide HB) hb)
        clear hb
        have c0 := (unhide HR).c0
        have c1 := (unhide HR).c1
        have c2 := (unhide HR).c2
        go_wp2_with fail
        clear c0 c1 c2
        refine (unhide q3 _).mono ?_
        rintro e w5 ⟨rfl, hb⟩
        replace HR := hide ((unhide HR).keep hb (unhide HR).lt)
        replace HB := hide (below_via (unhide HB) hb)
        clear hb
        go_wp2_with fail
        go_roundw
        case rel => exact ⟨k + 1, by omega, by omega, by go_num, HR, HB⟩
        case measure => simp [intOf]; omega
      · have hk : k = 4 := by omega
        subst hk
        clear hT
        go_wp2_with fail
        go_ret
        exact ⟨rfl, unhide HB⟩
set_option maxRecDepth 20000 in
set_option maxHeartbeats 4000000 in
theorem go_mg (x r a c y : Int) (M : Nat) (w : World) (hM : (M : Int) ≤ 65535) (hx : 0 ≤ x) (hx2 : x ≤ 10000000000000) (hr : 1000000000000 < r) (hC : Hid (Case x 1000000000000 a M)) : Good x r a c y M w := by
  unfold Good
  have hal := hide alive_any
  have hR := hide (R5.new w x r a c y)
  have hB := hide ((Below.refl w.heap.size w).alloc (Nat.le_refl _) (.cells #[.int .i64 x, .int .i64 r, .int .i64 a, .int .i64 c, .int .i64 y] 23))
  go_enter Try.func6, Try.ntmps6
  go_wp2_with fail
  generalize w.alloc (.cells #[.int .i64 x, .int .i64 r, .int .i64 a, .int .i64 c, .int .i64 y] 23) = W at hR hB ⊢
  refine (unhide hal _).mono ?_
  rintro e w1 ⟨rfl, hb⟩
  replace hR := hide ((unhide hR).keep hb (unhide hR).lt)
  replace hB := hide (below_via (unhide hB) hb)
  clear hb hal
  have c0 := (unhide hR).c0
  have c1 := (unhide hR).c1
  have f0 := (unhide hR).fr 0
  have f1 := (unhide hR).fr 1
  have HR := hide (((unhide hR).s0 x).s1 (1000000000000))
  have HB := hide (((unhide hB).setCell (p := ⟨w.heap.size, 0, none⟩) (Nat.le_refl _) (.int .i64 x)).setCell (p := ⟨w.heap.size, 1, none⟩) (Nat.le_refl _) (.int .i64 1000000000000))
  have c2 := (unhide HR).c2
  rcases unhide hC with t1 | ⟨t1, t2⟩ | ⟨t1, t2, a1, a2, hT⟩ <;> clear hC
  · go_wp2_with fail
    go_ret
    exact ⟨rfl, unhide HB⟩
  · go_wp2_with fail
    go_ret
    exact ⟨rfl, unhide HB⟩
  · go_wp2_with fail
    clear c0 c1 f0 f1 c2
    generalize (w1.setCell ⟨w.heap.size, 0, none⟩ (.int .i64 x)).setCell ⟨w.heap.size, 1, none⟩ (.int .i64 1000000000000) = W2 at HR HB ⊢
    go_loopw [5] (fun i wr => ∃ (k : Nat), 1 ≤ k ∧ k ≤ 4 ∧ i = .int .i64 k ∧ Hid (R5 wr w.heap.size x (1000000000000) a c y) ∧ Hid (Below w.heap.size w wr)) (fun i _ => 4 - (intOf i).toNat)
    case atStart => exact ⟨1, by omega, by omega, rfl, HR, HB⟩
    case round =>
      clear HR HB hR hB
      obtain ⟨k, hk1, hk2, rfl, HR, HB⟩ := hrel
      by_cases hlt : k ≤ 3
      · have hlt' : decide ((k : Int) ≤ 3) = true := decide_eq_true (by omega)
        obtain ⟨u, v, q1, q2, q3, u0, uv⟩ := unhide hT k hk1 hlt
        have d1 : decide (u < 0) = false := decide_eq_false (by omega)
        have d2 : decide (v < u) = false := decide_eq_false (by omega)
        replace q1 := hide q1
        replace q2 := hide q2
        replace q3 := hide q3
        clear hT
        have c0 := (unhide HR).c0
        have c1 := (unhide HR).c1
        have c2 := (unhide HR).c2
        go_wp2_with fail
        clear c0 c1 c2
        refine (unhide q1 _).mono ?_
        rintro e w3 ⟨rfl, hb⟩
        replace HR := hide ((unhide HR).keep hb (unhide HR).lt)
        replace HB := hide (below_via (unhide HB) hb)
        clear hb
        have c0 := (unhide HR).c0
        have c1 := (unhide HR).c1
        have c2 := (unhide HR).c2
        go_wp2_with fail
        clear c0 c1 c2
        refine (unhide q2 _).mono ?_
        rintro e w4 ⟨rfl, hb⟩
        replace HR := hide ((unhide HR).keep hb (unhide HR).lt)
        replace HB := hide (below_via (unhide HB) hb)
        clear hb
        have c0 := (unhide HR).c0
        have c1 := (unhide HR).c1
        have c2 := (unhide HR).c2
        go_wp2_with fail
        clear c0 c1 c2
        refine (unhide q3 _).mono ?_
        rintro e w5 ⟨rfl, hb⟩
        replace HR := hide ((unhide HR).keep hb (unhide HR).lt)
        replace HB := hide (below_via (unhide HB) hb)
        clear hb
        go_wp2_with fail
        go_roundw
        case rel => exact ⟨k + 1, by omega, by omega, by go_num, HR, HB⟩
        case measure => simp [intOf]; omega
      · have hk : k = 4 := by omega
        subst hk
        clear hT
        go_wp2_with fail
        go_ret
        exact ⟨rfl, unhide HB⟩
set_option maxRecDepth 20000 in
set_option maxHeartbeats 4000000 in
theorem go_gn (x r a c y : Int) (M : Nat) (w : World) (hM : (M : Int) ≤ 65535) (hx : 10000000000000 < x) (hr : r < 0) (hC : Hid (Case 10000000000000 0 a M)) : Good x r a c y M w := by
  unfold Good
  have hal := hide alive_any
  have hR := hide (R5.new w x r a c y)
  have hB := hide ((Below.refl w.heap.size w).alloc (Nat.le_refl _) (.cells #[.int .i64 x, .int .i64 r, .int .i64 a, .int .i64 c, .int .i64 y] 23))
  go_enter Try.func6, Try.ntmps6
  go_wp2_with fail
  generalize w.alloc (.cells #[.int .i64 x, .int .i64 r, .int .i64 a, .int .i64 c, .int .i64 y] 23) = W at hR hB ⊢
  refine (unhide hal _).mono ?_
  rintro e w1 ⟨rfl, hb⟩
  replace hR := hide ((unhide hR).keep hb (unhide hR).lt)
  replace hB := hide (below_via (unhide hB) hb)
  clear hb hal
  have c0 := (unhide hR).c0
  have c1 := (unhide hR).c1
  have f0 := (unhide hR).fr 0
  have f1 := (unhide hR).fr 1
  have HR := hide (((unhide hR).s0 (10000000000000)).s1 (0))
  have HB := hide (((unhide hB).setCell (p := ⟨w.heap.size, 0, none⟩) (Nat.le_refl _) (.int .i64 10000000000000)).setCell (p := ⟨w.heap.size, 1, none⟩) (Nat.le_refl _) (.int .i64 0))
  have c2 := (unhide HR).c2
  rcases unhide hC with t1 | ⟨t1, t2⟩ | ⟨t1, t2, a1, a2, hT⟩ <;> clear hC
  · go_wp2_with fail
    go_ret
    exact ⟨rfl, unhide HB⟩
  · go_wp2_with fail
    go_ret
    exact ⟨rfl, unhide HB⟩
  · go_wp2_with fail
    clear c0 c1 f0 f1 c2
    generalize (w1.setCell ⟨w.heap.size, 0, none⟩ (.int .i64 10000000000000)).setCell ⟨w.heap.size, 1, none⟩ (.int .i64 0) = W2 at HR HB ⊢
    go_loopw [5] (fun i wr => ∃ (k : Nat), 1 ≤ k ∧ k ≤ 4 ∧ i = .int .i64 k ∧ Hid (R5 wr w.heap.size (10000000000000) (0) a c y) ∧ Hid (Below w.heap.size w wr)) (fun i _ => 4 - (intOf i).toNat)
    case atStart => exact ⟨1, by omega, by omega, rfl, HR, HB⟩
    case round =>
      clear HR HB hR hB
      obtain ⟨k, hk1, hk2, rfl, HR, HB⟩ := hrel
      by_cases hlt : k ≤ 3
      · have hlt' : decide ((k : Int) ≤ 3) = true := decide_eq_true (by omega)
        obtain ⟨u, v, q1, q2, q3, u0, uv⟩ := unhide hT k hk1 hlt
        have d1 : decide (u < 0) = false := decide_eq_false (by omega)
        have d2 : decide (v < u) = false := decide_eq_false (by omega)
        replace q1 := hide q1
        replace q2 := hide q2
        replace q3 := hide q3
        clear hT
        have c0 := (unhide HR).c0
        have c1 := (unhide HR).c1
        have c2 := (unhide HR).c2
        go_wp2_with fail
        clear c0 c1 c2
        refine (unhide q1 _).mono ?_
        rintro e w3 ⟨rfl, hb⟩
        replace HR := hide ((unhide HR).keep hb (unhide HR).lt)
        replace HB := hide (below_via (unhide HB) hb)
        clear hb
        have c0 := (unhide HR).c0
        have c1 := (unhide HR).c1
        have c2 := (unhide HR).c2
        go_wp2_with fail
        clear c0 c1 c2
        refine (unhide q2 _).mono ?_
        rintro e w4 ⟨rfl, hb⟩
        replace HR := hide ((unhide HR).keep hb (unhide HR).lt)
        replace HB := hide (below_via (unhide HB) hb)
        clear hb
        have c0 := (unhide HR).c0
        have c1 := (unhide HR).c1
        have c2 := (unhide HR).c2
        go_wp2_with fail
        clear c0 c1 c2
        refine (unhide q3 _).mono ?_
        rintro e w5 ⟨rfl, hb⟩
        replace HR := hide ((unhide HR).keep hb (unhide HR).lt)
        replace HB := hide (below_via (unhide HB) hb)
        clear hb
        go_wp2_with fail
        go_roundw
        case rel => exact ⟨k + 1, by omega, by omega, by go_num, HR, HB⟩
        case measure => simp [intOf]; omega
      · have hk : k = 4 := by omega
        subst hk
        clear hT
        go_wp2_with fail
        go_ret
        exact ⟨rfl, unhide HB⟩
set_option maxRecDepth 20000 in
set_option maxHeartbeats 4000000 in
theorem go_gm (x r a c y : Int) (M : Nat) (w : World) (hM : (M : Int) ≤ 65535) (hx : 10000000000000 < x) (hr : 0 ≤ r) (hr2 : r ≤ 1000000000000) (hC : Hid (Case 10000000000000 r a M)) : Good x r a c y M w := by
  unfold Good
  have hal := hide alive_any
  have hR := hide (R5.new w x r a c y)
  have hB := hide ((Below.refl w.heap.size w).alloc (Nat.le_refl _) (.cells #[.int .i64 x, .int .i64 r, .int .i64 a, .int .i64 c, .int .i64 y] 23))
  go_enter Try.func6, Try.ntmps6
  go_wp2_with fail
  generalize w.alloc (.cells #[.int .i64 x, .int .i64 r, .int .i64 a, .int .i64 c, .int .i64 y] 23) = W at hR hB ⊢
  refine (unhide hal _).mono ?_
  rintro e w1 ⟨rfl, hb⟩
  replace hR := hide ((unhide hR).keep hb (unhide hR).lt)
  replace hB := hide (below_via (unhide hB) hb)
  clear hb hal
  have c0 := (unhide hR).c0
  have c1 := (unhide hR).c1
  have f0 := (unhide hR).fr 0
  have f1 := (unhide hR).fr 1
  have HR := hide (((unhide hR).s0 (10000000000000)).s1 r)
  have HB := hide (((unhide hB).setCell (p := ⟨w.heap.size, 0, none⟩) (Nat.le_refl _) (.int .i64 10000000000000)).setCell (p := ⟨w.heap.size, 1, none⟩) (Nat.le_refl _) (.int .i64 r))
  have c2 := (unhide HR).c2
  rcases unhide hC with t1 | ⟨t1, t2⟩ | ⟨t1, t2, a1, a2, hT⟩ <;> clear hC
  · go_wp2_with fail
    go_ret
    exact ⟨rfl, unhide HB⟩
  · go_wp2_with fail
    go_ret
    exact ⟨rfl, unhide HB⟩
  · go_wp2_with fail
    clear c0 c1 f0 f1 c2
    generalize (w1.setCell ⟨w.heap.size, 0, none⟩ (.int .i64 10000000000000)).setCell ⟨w.heap.size, 1, none⟩ (.int .i64 r) = W2 at HR HB ⊢
    go_loopw [5] (fun i wr => ∃ (k : Nat), 1 ≤ k ∧ k ≤ 4 ∧ i = .int .i64 k ∧ Hid (R5 wr w.heap.size (10000000000000) r a c y) ∧ Hid (Below w.heap.size w wr)) (fun i _ => 4 - (intOf i).toNat)
    case atStart => exact ⟨1, by omega, by omega, rfl, HR, HB⟩
    case round =>
      clear HR HB hR hB
      obtain ⟨k, hk1, hk2, rfl, HR, HB⟩ := hrel
      by_cases hlt : k ≤ 3
      · have hlt' : decide ((k : Int) ≤ 3) = true := decide_eq_true (by omega)
        obtain ⟨u, v, q1, q2, q3, u0, uv⟩ := unhide hT k hk1 hlt
        have d1 : decide (u < 0) = false := decide_eq_false (by omega)
        have d2 : decide (v < u) = false := decide_eq_false (by omega)
        replace q1 := hide q1
        replace q2 := hide q2
        replace q3 := hide q3
        clear hT
        have c0 := (unhide HR).c0
        have c1 := (unhide HR).c1
        have c2 := (unhide HR).c2
        go_wp2_with fail
        clear c0 c1 c2
        refine (unhide q1 _).mono ?_
        rintro e w3 ⟨rfl, hb⟩
        replace HR := hide ((unhide HR).keep hb (unhide HR).lt)
        replace HB := hide (below_via (unhide HB) hb)
        clear hb
        have c0 := (unhide HR).c0
        have c1 := (unhide HR).c1
        have c2 := (unhide HR).c2
        go_wp2_with fail
        clear c0 c1 c2
        refine (unhide q2 _).mono ?_
        rintro e w4 ⟨rfl, hb⟩
        replace HR := hide ((unhide HR).keep hb (unhide HR).lt)
        replace HB := hide (below_via (unhide HB) hb)
        clear hb
        have c0 := (unhide HR).c0
        have c1 := (unhide HR).c1
        have c2 := (unhide HR).c2
        go_wp2_with fail
        clear c0 c1 c2
        refine (unhide q3 _).mono ?_
        rintro e w5 ⟨rfl, hb⟩
        replace HR := hide ((unhide HR).keep hb (unhide HR).lt)
        replace HB := hide (below_via (unhide HB) hb)
        clear hb
        go_wp2_with fail
        go_roundw
        case rel => exact ⟨k + 1, by omega, by omega, by go_num, HR, HB⟩
        case measure => simp [intOf]; omega
      · have hk : k = 4 := by omega
        subst hk
        clear hT
        go_wp2_with fail
        go_ret
        exact ⟨rfl, unhide HB⟩
set_option maxRecDepth 20000 in
set_option maxHeartbeats 4000000 in
theorem go_gg (x r a c y : Int) (M : Nat) (w : World) (hM : (M : Int) ≤ 65535) (hx : 10000000000000 < x) (hr : 1000000000000 < r) (hC : Hid (Case 10000000000000 1000000000000 a M)) : Good x r a c y M w := by
  unfold Good
  have hal := hide alive_any
  have hR := hide (R5.new w x r a c y)
  have hB := hide ((Below.refl w.heap.size w).alloc (Nat.le_refl _) (.cells #[.int .i64 x, .int .i64 r, .int .i64 a, .int .i64 c, .int .i64 y] 23))
  go_enter Try.func6, Try.ntmps6
  go_wp2_with fail
  generalize w.alloc (.cells #[.int .i64 x, .int .i64 r, .int .i64 a, .int .i64 c, .int .i64 y] 23) = W at hR hB ⊢
  refine (unhide hal _).mono ?_
  rintro e w1 ⟨rfl, hb⟩
  replace hR := hide ((unhide hR).keep hb (unhide hR).lt)
  replace hB := hide (below_via (unhide hB) hb)
  clear hb hal
  have c0 := (unhide hR).c0
  have c1 := (unhide hR).c1
  have f0 := (unhide hR).fr 0
  have f1 := (unhide hR).fr 1
  have HR := hide (((unhide hR).s0 (10000000000000)).s1 (1000000000000))
  have HB := hide (((unhide hB).setCell (p := ⟨w.heap.size, 0, none⟩) (Nat.le_refl _) (.int .i64 10000000000000)).setCell (p := ⟨w.heap.size, 1, none⟩) (Nat.le_refl _) (.int .i64 1000000000000))
  have c2 := (unhide HR).c2
  rcases unhide hC with t1 | ⟨t1, t2⟩ | ⟨t1, t2, a1, a2, hT⟩ <;> clear hC
  · go_wp2_with fail
    go_ret
    exact ⟨rfl, unhide HB⟩
  · go_wp2_with fail
    go_ret
    exact ⟨rfl, unhide HB⟩
  · go_wp2_with fail
    clear c0 c1 f0 f1 c2
    generalize (w1.setCell ⟨w.heap.size, 0, none⟩ (.int .i64 10000000000000)).setCell ⟨w.heap.size, 1, none⟩ (.int .i64 1000000000000) = W2 at HR HB ⊢
    go_loopw [5] (fun i wr => ∃ (k : Nat), 1 ≤ k ∧ k ≤ 4 ∧ i = .int .i64 k ∧ Hid (R5 wr w.heap.size (10000000000000) (1000000000000) a c y) ∧ Hid (Below w.heap.size w wr)) (fun i _ => 4 - (intOf i).toNat)
    case atStart => exact ⟨1, by omega, by omega, rfl, HR, HB⟩
    case round =>
      clear HR HB hR hB
      obtain ⟨k, hk1, hk2, rfl, HR, HB⟩ := hrel
      by_cases hlt : k ≤ 3
      · have hlt' : decide ((k : Int) ≤ 3) = true := decide_eq_true (by omega)
        obtain ⟨u, v, q1, q2, q3, u0, uv⟩ := unhide hT k hk1 hlt
        have d1 : decide (u < 0) = false := decide_eq_false (by omega)
        have d2 : decide (v < u) = false := decide_eq_false (by omega)
        replace q1 := hide q1
        replace q2 := hide q2
        replace q3 := hide q3
        clear hT
        have c0 := (unhide HR).c0
        have c1 := (unhide HR).c1
        have c2 := (unhide HR).c2
        go_wp2_with fail
        clear c0 c1 c2
        refine (unhide q1 _).mono ?_
        rintro e w3 ⟨rfl, hb⟩
        replace HR := hide ((unhide HR).keep hb (unhide HR).lt)
        replace HB := hide (below_via (unhide HB) hb)
        clear hb
        have c0 := (unhide HR).c0
        have c1 := (unhide HR).c1
        have c2 := (unhide HR).c2
        go_wp2_with fail
        clear c0 c1 c2
        refine (unhide q2 _).mono ?_
        rintro e w4 ⟨rfl, hb⟩
        replace HR := hide ((unhide HR).keep hb (unhide HR).lt)
        replace HB := hide (below_via (unhide HB) hb)
        clear hb
        have c0 := (unhide HR).c0
        have c1 := (unhide HR).c1
        have c2 := (unhide HR).c2
        go_wp2_with fail
        clear c0 c1 c2
        refine (unhide q3 _).mono ?_
        rintro e w5 ⟨rfl, hb⟩
        replace HR := hide ((unhide HR).keep hb (unhide HR).lt)
        replace HB := hide (below_via (unhide HB) hb)
        clear hb
        go_wp2_with fail
        go_roundw
        case rel => exact ⟨k + 1, by omega, by omega, by go_num, HR, HB⟩
        case measure => simp [intOf]; omega
      · have hk : k = 4 := by omega
        subst hk
        clear hT
        go_wp2_with fail
        go_ret
        exact ⟨rfl, unhide HB⟩
theorem bounds_u16 {a : Int} (h : (Lit.int .u16 a).wf = true) : 0 ≤ a ∧ a ≤ 65535 := by
  simp only [Lit.wf, IntKind.min, IntKind.max, IntKind.signed, IntKind.bits, Bool.and_eq_true, decide_eq_true_eq] at h
  exact ⟨by have := h.1; simp at this; omega, by have := h.2; simp at this; omega⟩
theorem case_of {X R : Int} (a : Int) (M : Nat) (x0 : 0 ≤ X) (x1 : X ≤ 10000000000000) (r0 : 0 ≤ R) (r1 : R ≤ 1000000000000) : Case X R a M := by
  by_cases h1 : a < 1
  · exact Or.inl (decide_eq_true h1)
  · by_cases h2 : 3000000 < a
    · exact Or.inr (Or.inl ⟨decide_eq_false h1, decide_eq_true h2⟩)
    · exact Or.inr (Or.inr ⟨decide_eq_false h1, decide_eq_false h2, by omega, by omega, hide (fun k k1 k2 => t3_all x0 x1 r0 r1 (by omega) (by omega) (by omega) (by omega) k k1 k2)⟩)
theorem walk (x r a c y m : Int) (w : World) (_w0 : (Lit.int .i64 x).wf = true) (_w1 : (Lit.int .i64 r).wf = true) (_w2 : (Lit.int .i64 a).wf = true) (_w3 : (Lit.int .i64 c).wf = true) (_w4 : (Lit.int .i64 y).wf = true) (wm : (Lit.int .u16 m).wf = true) : Calls Try.prog 6 #[.agg #[.int .i64 x, .int .i64 r, .int .i64 a, .int .i64 c, .int .i64 y], .int .u16 m] w fun e w' => e = .returned (.bool true) ∧ Below w.heap.size w w' := by
  have hm := bounds_u16 wm
  obtain ⟨M, rfl⟩ : ∃ M : Nat, m = (M : Int) := ⟨m.toNat, by omega⟩
  have hM := hm.2
  by_cases hx : x < 0
  · by_cases hr : r < 0
    · exact go_nn x r a c y M w hM hx hr (hide (case_of a M (by omega) (by omega) (by omega) (by omega)))
    · by_cases hr2 : r ≤ 1000000000000
      · exact go_nm x r a c y M w hM hx (by omega) hr2 (hide (case_of a M (by omega) (by omega) (by omega) (by omega)))
      · exact go_ng x r a c y M w hM hx (by omega) (hide (case_of a M (by omega) (by omega) (by omega) (by omega)))
  by_cases hx2 : x ≤ 10000000000000
  · by_cases hr : r < 0
    · exact go_mn x r a c y M w hM (by omega) hx2 hr (hide (case_of a M (by omega) (by omega) (by omega) (by omega)))
    · by_cases hr2 : r ≤ 1000000000000
      · exact go_mm x r a c y M w hM (by omega) hx2 (by omega) hr2 (hide (case_of a M (by omega) (by omega) (by omega) (by omega)))
      · exact go_mg x r a c y M w hM (by omega) hx2 (by omega) (hide (case_of a M (by omega) (by omega) (by omega) (by omega)))
  · by_cases hr : r < 0
    · exact go_gn x r a c y M w hM (by omega) hr (hide (case_of a M (by omega) (by omega) (by omega) (by omega)))
    · by_cases hr2 : r ≤ 1000000000000
      · exact go_gm x r a c y M w hM (by omega) (by omega) hr2 (hide (case_of a M (by omega) (by omega) (by omega) (by omega)))
      · exact go_gg x r a c y M w hM (by omega) (by omega) (hide (case_of a M (by omega) (by omega) (by omega) (by omega)))
theorem own : ownKnob Try.prog.godebug = none := by kernel_rfl
set_option linter.unusedVariables false in
set_option maxRecDepth 100000 in
theorem lifted (os : Os) (started : os.Started) (H : Type) (enc : TypeId × Value → H) :
    ReturnsInHanded {} Try.checked os 6 .any (Rows.countBringsSpec.pre6 enc Try.prog Try.f6 Rows.countBringsRow.domain false) (Rows.countBringsSpec.post enc Try.prog Try.f6 false true false false) := by
  refine returnsInHanded_of_change (C := Try.checked) own started (by kernel_rfl) Try.func6
    (ChangeSpec.witness6 (enc := enc) (C := Try.checked) false ⟨#[], #[.agg #[.int .i64 0, .int .i64 0, .int .i64 0, .int .i64 0, .int .i64 0], .int .u16 0], []⟩ 8 (by kernel_rfl) (by kernel_rfl) (by kernel_rfl) (by kernel_rfl)) ?_
  intro W base args ds gs before hval0 hW hcnd _
  have hval : ∀ (j : Nat) t v, Try.f6.params[j]? = some t → args[j]? = some v → Value.okWide Try.prog W .any base t v := hval0
  have hW' := hW
  obtain ⟨p, q, hA0, hV, rfl, hfz, hnd⟩ := hW
  have hA : DataW.TrodAll enc Try.prog W 0 (fun _ => true) true Try.f6.params.toList args.toList ds p := hA0
  rw [Try.params6] at hA hval
  obtain ⟨v0, vs0, d0, ds0, p0, q0, hargs, rfl, rfl, h0, r0⟩ := trodAll_cons hA
  obtain ⟨v1, vs1, d1, ds1, p1, q1, rfl, rfl, rfl, h1, r1⟩ := trodAll_cons r0
  obtain ⟨rfl, rfl, rfl⟩ := trodAll_nil r1
  obtain rfl : args = #[v0, v1] := by cases args; simp_all
  obtain ⟨rfl, rfl⟩ := trodVars_none hV
  obtain ⟨a00, a01, a02, a03, a04, rfl, rfl, rfl, w00, w01, w02, w03, w04⟩ := open_asked (hval 0 23 v0 rfl rfl) h0
  obtain ⟨a1, rfl, rfl, rfl, w1⟩ := open_int Try.underlying37 (hval 1 37 v1 rfl rfl) h1
  clear hA0 hval0
  simp only [List.append_nil] at hW'
  refine (walk a00 a01 a02 a03 a04 a1 W w00 w01 w02 w03 w04 w1).mono fun e W' ⟨he, bel⟩ => ?_
  subst he
  exact ⟨_, rfl, _, _, _, [], _, [], hW', trodAll_mk1 (shut_bool Try.underlying4 _), (trodAll_cons_mk (shut_asked w00 w01 w02 w03 w04) (trodAll_cons_mk (shut_int Try.underlying37 w1) trodAll_mk0)), rfl, bel.frame _, fun h => by cases h⟩
theorem over : Rows.countBringsRow.holds Try.pinned (OpenSpec.ofChange Rows.countBringsSpec) :=
  OpenClaim.holds_of_wide 6 Try.f6 rfl rfl rfl rfl rfl rfl rfl ⟨rfl, rfl, rfl, rfl, rfl⟩ rfl rfl rfl rfl rfl (by kernel_rfl) Try.func6 (by kernel_rfl)
    (of_decide_eq_true (by kernel_rfl)) (by unfold Func.isWrapper; first | (rw [if_pos (by decide +kernel)]; kernel_rfl) | (rw [if_neg (by decide +kernel)]; exact ⟨rfl, rfl⟩))
    (fun os started H enc _ => lifted os started H enc)
/-- The statement. -/
theorem proved : Rows.CountBringsSaid := over
#print axioms proved
end Go.Proofs.Ythlakemoiicdfaa.countBrings
namespace Go.Proofs.Ythlakemoiicdfaa
theorem countBrings_holds : Rows.CountBringsSaid := countBrings.proved
end Go.Proofs.Ythlakemoiicdfaa
