/- The walk of WideOrders. -/
import Derived.Test.YtaknjpddjofgeaaOrd
import Derived.Deep.RegionHeld3
import Derived.ProofKit
import Derived.OpenShut
import Derived.ShutString
import Derived.ChangeOld
import Derived.Below
namespace Go.Proofs.Ytaknjpddjofgeaa.wideOrders
open Go.ChangeShapes Go.WideShapes Go.ChangeAt Go.RowKit
set_option linter.unusedSimpArgs false
def Good (p q r s d : Int) (w : World) : Prop := Calls Try.prog 6 #[.agg #[.int .i64 p, .int .u64 q], .agg #[.int .i64 r, .int .u64 s], .int .i64 d] w fun e w' => e = .returned (.bool true) ∧ Below w.heap.size w w'
def AddAt (p q r s u v e : Int) : Prop := ∀ w : World, Calls Try.prog 10 #[.agg #[.int .i64 p, .int .u64 q], .agg #[.int .i64 r, .int .u64 s]] w fun x w' => x = .returned (.tuple #[.agg #[.int .i64 u, .int .u64 v], .int .i64 e]) ∧ Below w.heap.size w w'
def NegAt (p q u v e : Int) : Prop := ∀ w : World, Calls Try.prog 12 #[.agg #[.int .i64 p, .int .u64 q]] w fun x w' => x = .returned (.tuple #[.agg #[.int .i64 u, .int .u64 v], .int .i64 e]) ∧ Below w.heap.size w w'
def CmpAt (p q r s o : Int) : Prop := ∀ w : World, Calls Try.prog 14 #[.agg #[.int .i64 p, .int .u64 q], .agg #[.int .i64 r, .int .u64 s]] w fun x w' => x = .returned (.int .i64 o) ∧ Below w.heap.size w w'
def DivAt (p q d way n e : Int) : Prop := ∀ w : World, Calls Try.prog 20 #[.agg #[.int .i64 p, .int .u64 q], .int .i64 d, .int .i64 way] w fun x w' => x = .returned (.tuple #[.int .i64 n, .int .i64 e]) ∧ Below w.heap.size w w'
/-- The two numbers lie in their blocks. -/
structure C4 (w W : World) (p q r s : Int) : Prop where
  a0 : W.cell? ⟨w.heap.size, 0, none⟩ = some (.int .i64 p)
  a1 : W.cell? ⟨w.heap.size, 1, none⟩ = some (.int .u64 q)
  b0 : W.cell? ⟨w.heap.size + 1, 0, none⟩ = some (.int .i64 r)
  b1 : W.cell? ⟨w.heap.size + 1, 1, none⟩ = some (.int .u64 s)
  size : w.heap.size + 1 < W.heap.size
  size0 : w.heap.size < W.heap.size
  below : Below w.heap.size w W
theorem C4.keep {w W V : World} {p q r s : Int} (h : C4 w W p q r s) (hb : Below W.heap.size W V) : C4 w V p q r s :=
  ⟨kept hb (by have := h.size; omega) h.a0, kept hb (by have := h.size; omega) h.a1, kept hb h.size h.b0, kept hb h.size h.b1, Nat.lt_of_lt_of_le h.size hb.size, Nat.lt_of_lt_of_le h.size0 hb.size, below_via h.below hb⟩
theorem C4.alloc {w W : World} {p q r s : Int} (h : C4 w W p q r s) (o : Obj) : C4 w (W.alloc o) p q r s := h.keep ((Below.refl _ _).alloc (Nat.le_refl _) o)
theorem C4.start (w : World) (p q r s : Int) : C4 w ((w.alloc (.cells #[.int .i64 p, .int .u64 q] 24)).alloc (.cells #[.int .i64 r, .int .u64 s] 24)) p q r s :=
  ⟨by simp [go_sem], by simp [go_sem], by simp [go_sem], by simp [go_sem], by simp, by simp; omega, ((Below.refl _ _).alloc (Nat.le_refl _) _).alloc (by simp) _⟩
def C8 (w : World) (bs bt : Nat) (p q r s u v : Int) (W : World) : Prop :=
  W.cell? ⟨w.heap.size, 0, none⟩ = some (.int .i64 p) ∧ W.cell? ⟨w.heap.size, 1, none⟩ = some (.int .u64 q) ∧ W.cell? ⟨w.heap.size + 1, 0, none⟩ = some (.int .i64 r) ∧ W.cell? ⟨w.heap.size + 1, 1, none⟩ = some (.int .u64 s) ∧
  W.cell? ⟨bs, 0, none⟩ = some (.int .i64 u) ∧ W.cell? ⟨bs, 1, none⟩ = some (.int .u64 v) ∧ W.cell? ⟨bt, 0, none⟩ = some (.int .i64 u) ∧ W.cell? ⟨bt, 1, none⟩ = some (.int .u64 v) ∧ (bs < W.heap.size ∧ bt < W.heap.size) ∧ Hid (C4 w W p q r s)
theorem C8.keep {w W V : World} {bs bt : Nat} {p q r s u v : Int} (h : C8 w bs bt p q r s u v W) (hb : Below W.heap.size W V) : C8 w bs bt p q r s u v V := by
  obtain ⟨_, _, _, _, h4, h5, h6, h7, ⟨h8, h9⟩, h10⟩ := h
  have c := (unhide h10).keep hb
  exact ⟨c.a0, c.a1, c.b0, c.b1, kept hb h8 h4, kept hb h8 h5, kept hb h9 h6, kept hb h9 h7, ⟨Nat.lt_of_lt_of_le h8 hb.size, Nat.lt_of_lt_of_le h9 hb.size⟩, hide c⟩
theorem C8.drew {w W : World} {bs bt : Nat} {p q r s u v : Int} (h : C8 w bs bt p q r s u v W) : C8 w bs bt p q r s u v W.drew := h.keep (below_drew (Below.refl _ _))
set_option maxRecDepth 20000 in
set_option maxHeartbeats 4000000 in
theorem go (X Y : Int) (u v e d n1 n2 x0 y0 x1 y1 g0 h0 g1 h1 : Int) (be : Bool) (hX : In128 X) (hY : In128 Y) (ho : (ord X Y != IntKind.i64.wrap (-ord Y X)) = false) (ho3 : (ord X X != 0) = false) (hbe : (ord X Y == 0) = be) (w : World)
    (hq : ∀ w : World, (binOp .eql 24 (.agg #[.int .i64 (hi X), .int .u64 (lo X)]) (.agg #[.int .i64 (hi Y), .int .u64 (lo Y)])).run Try.prog w = .ok (.bool be) w)
    (ha1 : Hid (AddAt (hi X) (lo X) (hi Y) (lo Y) u v e)) (ha2 : Hid (AddAt (hi Y) (lo Y) (hi X) (lo X) u v e))
    (hN : Hid (Hid (NegAt (hi X) (lo X) n1 n2 3) ∨ Hid (NegAt (hi X) (lo X) n1 n2 0) ∧ Hid (AddAt (hi X) (lo X) n1 n2 0 0 0)))
    (hD : Hid (decide (d ≤ 0) = true ∨ decide (d ≤ 0) = false ∧ decide (0 < ord X Y) = true ∨ decide (d ≤ 0) = false ∧ decide (0 < ord X Y) = false ∧ Hid (DivAt (hi X) (lo X) d 0 x0 g0) ∧ Hid (DivAt (hi Y) (lo Y) d 0 y0 h0) ∧ Hid (DivAt (hi X) (lo X) d 1 x1 g1) ∧ Hid (DivAt (hi Y) (lo Y) d 1 y1 h1) ∧
      (g0 = 3 ∨ g0 = 0 ∧ h0 = 3 ∨ g0 = 0 ∧ h0 = 0 ∧ decide (y0 < x0) = false) ∧ (g1 = 3 ∨ g1 = 0 ∧ h1 = 3 ∨ g1 = 0 ∧ h1 = 0 ∧ decide (y1 < x1) = false))) : Good (hi X) (lo X) (hi Y) (lo Y) d w := by
  unfold Good
  have hal := hide alive_any
  have hc1 := hide (compare_any X Y hX hY)
  go_enter Try.func6, Try.ntmps6
  go_wp2_with fail
  refine (unhide hal _).mono ?_
  rintro x w1 ⟨rfl, hb1⟩
  have H4 := (C4.start w (hi X) (lo X) (hi Y) (lo Y)).keep hb1
  clear hb1
  obtain ⟨a0, a1, b0, b1, sz, sz0, _⟩ := id H4
  replace H4 := hide H4
  go_wp2_with fail
  refine (unhide ha1 _).mono ?_
  rintro x w2 ⟨rfl, hb2⟩
  clear a0 a1 b0 b1 sz sz0
  have K4 := (unhide H4).keep hb2
  clear H4 hb2
  obtain ⟨a0, a1, b0, b1, sz, sz0, _⟩ := id K4
  replace K4 := hide K4
  go_wp2_with fail
  refine (unhide ha2 _).mono ?_
  rintro x w3 ⟨rfl, hb3⟩
  clear a0 a1 b0 b1 sz sz0
  have H4 := ((unhide K4).alloc (.cells #[.int .i64 u, .int .u64 v] 24)).keep hb3
  have s0 : w3.cell? ⟨w2.heap.size, 0, none⟩ = some (.int .i64 u) := kept hb3 (by simp) (by simp [go_sem])
  have s1 : w3.cell? ⟨w2.heap.size, 1, none⟩ = some (.int .u64 v) := kept hb3 (by simp) (by simp [go_sem])
  have ss : w2.heap.size < w3.heap.size := Nat.lt_of_lt_of_le (by simp) hb3.size
  clear hb3 K4
  have H8 : C8 w w2.heap.size w3.heap.size (hi X) (lo X) (hi Y) (lo Y) u v (w3.alloc (.cells #[.int .i64 u, .int .u64 v] 24)) := by
    have c := H4.alloc (.cells #[.int .i64 u, .int .u64 v] 24)
    have k := (Below.refl w3.heap.size w3).alloc (Nat.le_refl _) (.cells #[.int .i64 u, .int .u64 v] 24)
    exact ⟨c.a0, c.a1, c.b0, c.b1, kept k ss s0, kept k ss s1, by simp [go_sem], by simp [go_sem], ⟨by simp; omega, by simp⟩, hide c⟩
  replace H4 := hide H4
  obtain ⟨a0, a1, b0, b1, sz, sz0, _⟩ := unhide H4
  go_wp2_with fail
  clear a0 a1 b0 b1 sz sz0 s0 s1
  go_region_held3 (fun w' => w'.cell? ⟨w.heap.size, 0, none⟩ = some (.int .i64 (hi X)) ∧ w'.cell? ⟨w.heap.size, 1, none⟩ = some (.int .u64 (lo X)) ∧ w'.cell? ⟨w.heap.size + 1, 0, none⟩ = some (.int .i64 (hi Y)) ∧ w'.cell? ⟨w.heap.size + 1, 1, none⟩ = some (.int .u64 (lo Y)) ∧ w'.cell? ⟨w2.heap.size, 0, none⟩ = some (.int .i64 u) ∧ w'.cell? ⟨w2.heap.size, 1, none⟩ = some (.int .u64 v) ∧ w'.cell? ⟨w3.heap.size, 0, none⟩ = some (.int .i64 u) ∧ w'.cell? ⟨w3.heap.size, 1, none⟩ = some (.int .u64 v) ∧ (w2.heap.size < w'.heap.size ∧ w3.heap.size < w'.heap.size) ∧ Hid (C4 w w' (hi X) (lo X) (hi Y) (lo Y)))
    (first
      | exact C8.keep (by assumption) hbA
      | exact C8.keep H8 hbA
      | exact C8.keep H8.drew hbA
      | exact H8.drew
      | exact H8)
    (first
      | (go_at_call 14; refine (compare_any _ _ ?_ ?_ _).mono ?_; (first | exact hX | exact hY); (first | exact hX | exact hY); rintro x wA ⟨rfl, hbA⟩))
  rename_i hH
  have C := hide (unhide hH.2.2.2.2.2.2.2.2.2)
  clear hH H8 H4 ss ho ho3 hbe hq ha1 ha2 hX hY
  obtain ⟨a0, a1, b0, b1, sz, sz0, _⟩ := unhide C
  rcases unhide hN with hM | ⟨hM, hA⟩ <;> clear hN
  · go_wp2_with fail
    refine (unhide hM _).mono ?_
    rintro x v5 ⟨rfl, hb⟩
    clear a0 a1 b0 b1 sz sz0
    have D := hide ((unhide C).keep hb)
    clear C hb
    have C := D
    clear D
    obtain ⟨a0, a1, b0, b1, sz, sz0, _⟩ := unhide C
    rcases unhide hD with t | ⟨t, o⟩ | ⟨t, o, D0, E0, D1, E1, c0, c1⟩ <;> clear hD
    · go_wp2_with fail
      go_ret
      exact ⟨rfl, by first | exact (unhide C).below | exact ((unhide C).alloc _).below⟩
    · go_wp2_with fail
      refine (unhide hc1 _).mono ?_
      rintro x v7 ⟨rfl, hb⟩
      clear a0 a1 b0 b1 sz sz0
      have D := hide (((unhide C).alloc _).keep hb)
      clear C hb
      have C := D
      clear D
      obtain ⟨a0, a1, b0, b1, sz, sz0, _⟩ := unhide C
      go_wp2_with fail
      go_ret
      exact ⟨rfl, by first | exact (unhide C).below | exact ((unhide C).alloc _).below⟩
    · go_wp2_with fail
      refine (unhide hc1 _).mono ?_
      rintro x v7 ⟨rfl, hb⟩
      clear a0 a1 b0 b1 sz sz0
      have D := hide (((unhide C).alloc _).keep hb)
      clear C hb
      have C := D
      clear D
      obtain ⟨a0, a1, b0, b1, sz, sz0, _⟩ := unhide C
      go_wp2_with fail
      refine wp_loop_rounds 3 ?_
      rw [rounds_succ]
      go_wp2_with fail
      refine (unhide D0 _).mono ?_
      rintro x v8 ⟨rfl, hb⟩
      clear a0 a1 b0 b1 sz sz0
      have D := hide ((unhide C).keep hb)
      clear C hb
      have C := D
      clear D
      obtain ⟨a0, a1, b0, b1, sz, sz0, _⟩ := unhide C
      go_wp2_with fail
      refine (unhide E0 _).mono ?_
      rintro x v9 ⟨rfl, hb⟩
      clear a0 a1 b0 b1 sz sz0
      have D := hide ((unhide C).keep hb)
      clear C hb
      have C := D
      clear D
      obtain ⟨a0, a1, b0, b1, sz, sz0, _⟩ := unhide C
      rcases c0 with rfl | ⟨rfl, rfl⟩ | ⟨rfl, rfl, t0⟩
      all_goals go_wp2_with fail
      all_goals rw [rounds_succ]
      · go_wp2_with fail
        refine (unhide D1 _).mono ?_
        rintro x v10 ⟨rfl, hb⟩
        clear a0 a1 b0 b1 sz sz0
        have D := hide ((unhide C).keep hb)
        clear C hb
        have C := D
        clear D
        obtain ⟨a0, a1, b0, b1, sz, sz0, _⟩ := unhide C
        go_wp2_with fail
        refine (unhide E1 _).mono ?_
        rintro x v11 ⟨rfl, hb⟩
        clear a0 a1 b0 b1 sz sz0
        have D := hide ((unhide C).keep hb)
        clear C hb
        have C := D
        clear D
        obtain ⟨a0, a1, b0, b1, sz, sz0, _⟩ := unhide C
        rcases c1 with rfl | ⟨rfl, rfl⟩ | ⟨rfl, rfl, t1⟩
        all_goals go_wp2_with fail
        all_goals rw [rounds_succ]
        all_goals go_wp2_with fail
        all_goals go_ret
        all_goals exact ⟨rfl, (unhide C).below⟩
      · go_wp2_with fail
        refine (unhide D1 _).mono ?_
        rintro x v10 ⟨rfl, hb⟩
        clear a0 a1 b0 b1 sz sz0
        have D := hide ((unhide C).keep hb)
        clear C hb
        have C := D
        clear D
        obtain ⟨a0, a1, b0, b1, sz, sz0, _⟩ := unhide C
        go_wp2_with fail
        refine (unhide E1 _).mono ?_
        rintro x v11 ⟨rfl, hb⟩
        clear a0 a1 b0 b1 sz sz0
        have D := hide ((unhide C).keep hb)
        clear C hb
        have C := D
        clear D
        obtain ⟨a0, a1, b0, b1, sz, sz0, _⟩ := unhide C
        rcases c1 with rfl | ⟨rfl, rfl⟩ | ⟨rfl, rfl, t1⟩
        all_goals go_wp2_with fail
        all_goals rw [rounds_succ]
        all_goals go_wp2_with fail
        all_goals go_ret
        all_goals exact ⟨rfl, (unhide C).below⟩
      · go_wp2_with fail
        refine (unhide D1 _).mono ?_
        rintro x v10 ⟨rfl, hb⟩
        clear a0 a1 b0 b1 sz sz0
        have D := hide ((unhide C).keep hb)
        clear C hb
        have C := D
        clear D
        obtain ⟨a0, a1, b0, b1, sz, sz0, _⟩ := unhide C
        go_wp2_with fail
        refine (unhide E1 _).mono ?_
        rintro x v11 ⟨rfl, hb⟩
        clear a0 a1 b0 b1 sz sz0
        have D := hide ((unhide C).keep hb)
        clear C hb
        have C := D
        clear D
        obtain ⟨a0, a1, b0, b1, sz, sz0, _⟩ := unhide C
        rcases c1 with rfl | ⟨rfl, rfl⟩ | ⟨rfl, rfl, t1⟩
        all_goals go_wp2_with fail
        all_goals rw [rounds_succ]
        all_goals go_wp2_with fail
        all_goals go_ret
        all_goals exact ⟨rfl, (unhide C).below⟩
  · go_wp2_with fail
    refine (unhide hM _).mono ?_
    rintro x v5 ⟨rfl, hb⟩
    clear a0 a1 b0 b1 sz sz0
    have D := hide ((unhide C).keep hb)
    clear C hb
    have C := D
    clear D
    obtain ⟨a0, a1, b0, b1, sz, sz0, _⟩ := unhide C
    go_wp2_with fail
    refine (unhide hA _).mono ?_
    rintro x v6 ⟨rfl, hb⟩
    clear a0 a1 b0 b1 sz sz0
    have D := hide (((unhide C).alloc _).keep hb)
    clear C hb
    have C := D
    clear D
    obtain ⟨a0, a1, b0, b1, sz, sz0, _⟩ := unhide C
    rcases unhide hD with t | ⟨t, o⟩ | ⟨t, o, D0, E0, D1, E1, c0, c1⟩ <;> clear hD
    · go_wp2_with fail
      go_ret
      exact ⟨rfl, by first | exact (unhide C).below | exact ((unhide C).alloc _).below⟩
    · go_wp2_with fail
      refine (unhide hc1 _).mono ?_
      rintro x v7 ⟨rfl, hb⟩
      clear a0 a1 b0 b1 sz sz0
      have D := hide (((unhide C).alloc _).keep hb)
      clear C hb
      have C := D
      clear D
      obtain ⟨a0, a1, b0, b1, sz, sz0, _⟩ := unhide C
      go_wp2_with fail
      go_ret
      exact ⟨rfl, by first | exact (unhide C).below | exact ((unhide C).alloc _).below⟩
    · go_wp2_with fail
      refine (unhide hc1 _).mono ?_
      rintro x v7 ⟨rfl, hb⟩
      clear a0 a1 b0 b1 sz sz0
      have D := hide (((unhide C).alloc _).keep hb)
      clear C hb
      have C := D
      clear D
      obtain ⟨a0, a1, b0, b1, sz, sz0, _⟩ := unhide C
      go_wp2_with fail
      refine wp_loop_rounds 3 ?_
      rw [rounds_succ]
      go_wp2_with fail
      refine (unhide D0 _).mono ?_
      rintro x v8 ⟨rfl, hb⟩
      clear a0 a1 b0 b1 sz sz0
      have D := hide ((unhide C).keep hb)
      clear C hb
      have C := D
      clear D
      obtain ⟨a0, a1, b0, b1, sz, sz0, _⟩ := unhide C
      go_wp2_with fail
      refine (unhide E0 _).mono ?_
      rintro x v9 ⟨rfl, hb⟩
      clear a0 a1 b0 b1 sz sz0
      have D := hide ((unhide C).keep hb)
      clear C hb
      have C := D
      clear D
      obtain ⟨a0, a1, b0, b1, sz, sz0, _⟩ := unhide C
      rcases c0 with rfl | ⟨rfl, rfl⟩ | ⟨rfl, rfl, t0⟩
      all_goals go_wp2_with fail
      all_goals rw [rounds_succ]
      · go_wp2_with fail
        refine (unhide D1 _).mono ?_
        rintro x v10 ⟨rfl, hb⟩
        clear a0 a1 b0 b1 sz sz0
        have D := hide ((unhide C).keep hb)
        clear C hb
        have C := D
        clear D
        obtain ⟨a0, a1, b0, b1, sz, sz0, _⟩ := unhide C
        go_wp2_with fail
        refine (unhide E1 _).mono ?_
        rintro x v11 ⟨rfl, hb⟩
        clear a0 a1 b0 b1 sz sz0
        have D := hide ((unhide C).keep hb)
        clear C hb
        have C := D
        clear D
        obtain ⟨a0, a1, b0, b1, sz, sz0, _⟩ := unhide C
        rcases c1 with rfl | ⟨rfl, rfl⟩ | ⟨rfl, rfl, t1⟩
        all_goals go_wp2_with fail
        all_goals rw [rounds_succ]
        all_goals go_wp2_with fail
        all_goals go_ret
        all_goals exact ⟨rfl, (unhide C).below⟩
      · go_wp2_with fail
        refine (unhide D1 _).mono ?_
        rintro x v10 ⟨rfl, hb⟩
        clear a0 a1 b0 b1 sz sz0
        have D := hide ((unhide C).keep hb)
        clear C hb
        have C := D
        clear D
        obtain ⟨a0, a1, b0, b1, sz, sz0, _⟩ := unhide C
        go_wp2_with fail
        refine (unhide E1 _).mono ?_
        rintro x v11 ⟨rfl, hb⟩
        clear a0 a1 b0 b1 sz sz0
        have D := hide ((unhide C).keep hb)
        clear C hb
        have C := D
        clear D
        obtain ⟨a0, a1, b0, b1, sz, sz0, _⟩ := unhide C
        rcases c1 with rfl | ⟨rfl, rfl⟩ | ⟨rfl, rfl, t1⟩
        all_goals go_wp2_with fail
        all_goals rw [rounds_succ]
        all_goals go_wp2_with fail
        all_goals go_ret
        all_goals exact ⟨rfl, (unhide C).below⟩
      · go_wp2_with fail
        refine (unhide D1 _).mono ?_
        rintro x v10 ⟨rfl, hb⟩
        clear a0 a1 b0 b1 sz sz0
        have D := hide ((unhide C).keep hb)
        clear C hb
        have C := D
        clear D
        obtain ⟨a0, a1, b0, b1, sz, sz0, _⟩ := unhide C
        go_wp2_with fail
        refine (unhide E1 _).mono ?_
        rintro x v11 ⟨rfl, hb⟩
        clear a0 a1 b0 b1 sz sz0
        have D := hide ((unhide C).keep hb)
        clear C hb
        have C := D
        clear D
        obtain ⟨a0, a1, b0, b1, sz, sz0, _⟩ := unhide C
        rcases c1 with rfl | ⟨rfl, rfl⟩ | ⟨rfl, rfl, t1⟩
        all_goals go_wp2_with fail
        all_goals rw [rounds_succ]
        all_goals go_wp2_with fail
        all_goals go_ret
        all_goals exact ⟨rfl, (unhide C).below⟩
end Go.Proofs.Ytaknjpddjofgeaa.wideOrders
