/- What count's inner functions answer: the list of ways, and the one that is found in it. -/
import Derived.Test.YthlakemoiicdfaaDTo
import Derived.Test.YthlakemoiicdfaaWide3
import Derived.WalkKit
import Derived.WalkSpells
import Derived.Laws.EntriesVeiled
import Derived.Handy
namespace Go.Proofs.Ythlakemoiicdfaa
open Go.RowKit
open Dy (R3 below_new)
set_option linter.unusedSimpArgs false
/-- Block b holds one way of counting. -/
def K3 (w : World) (b : Nat) (x y z : Value) : Prop := w.heap[b]? = some (.cells #[x, y, z] 42 (0, 0))
theorem K3.c0 {w : World} {b : Nat} {x y z : Value} (h : K3 w b x y z) : w.cell? ⟨b, 0, none⟩ = some x := by rw [cell_of_row w b 0 _ _ _ h]; rfl
theorem K3.c1 {w : World} {b : Nat} {x y z : Value} (h : K3 w b x y z) : w.cell? ⟨b, 1, none⟩ = some y := by rw [cell_of_row w b 1 _ _ _ h]; rfl
theorem K3.c2 {w : World} {b : Nat} {x y z : Value} (h : K3 w b x y z) : w.cell? ⟨b, 2, none⟩ = some z := by rw [cell_of_row w b 2 _ _ _ h]; rfl
theorem K3.fr {w : World} {b : Nat} {x y z : Value} (h : K3 w b x y z) (i : Nat) : w.frozen? ⟨b, i, none⟩ = false := frozen_of_row w b i _ _ h
theorem K3.lt {w : World} {b : Nat} {x y z : Value} (h : K3 w b x y z) : b < w.heap.size := (Array.getElem?_eq_some_iff.1 h).1
theorem K3.s0 {w : World} {b : Nat} {x y z : Value} (h : K3 w b x y z) (u : Value) : K3 (w.setCell ⟨b, 0, none⟩ u) b u y z := by unfold K3; rw [Go.heap_setCell_same w b 0 _ _ _ h]; rfl
theorem K3.s1 {w : World} {b : Nat} {x y z : Value} (h : K3 w b x y z) (u : Value) : K3 (w.setCell ⟨b, 1, none⟩ u) b x u z := by unfold K3; rw [Go.heap_setCell_same w b 1 _ _ _ h]; rfl
theorem K3.s2 {w : World} {b : Nat} {x y z : Value} (h : K3 w b x y z) (u : Value) : K3 (w.setCell ⟨b, 2, none⟩ u) b x y u := by unfold K3; rw [Go.heap_setCell_same w b 2 _ _ _ h]; rfl
theorem K3.other {w : World} {b : Nat} {x y z : Value} (h : K3 w b x y z) {a : Addr} (ha : b ≠ a.block) (v : Value) : K3 (w.setCell a v) b x y z := (heap_setCell_other w a b v ha).trans h
theorem K3.alloc {w : World} {b : Nat} {x y z : Value} (h : K3 w b x y z) (o : Obj) : K3 (w.alloc o) b x y z := (Below.heap_alloc w o b h.lt).trans h
theorem K3.keep {w w' : World} {B b : Nat} {x y z : Value} (h : K3 w b x y z) (hb : Below B w w') (hB : b < B) : K3 w' b x y z := (hb.block b hB).trans h
theorem K3.new (w : World) (x y z : Value) : K3 (w.alloc (.cells #[x, y, z] 42)) w.heap.size x y z := heap_alloc_new w _
theorem K3.new3 (w : World) (o1 o2 o3 x y z : Value) : K3 ((((w.alloc (.cells #[o1, o2, o3] 42)).setCell ⟨w.heap.size, 0, none⟩ x).setCell ⟨w.heap.size, 1, none⟩ y).setCell ⟨w.heap.size, 2, none⟩ z) w.heap.size x y z := (((K3.new w o1 o2 o3).s0 x).s1 y).s2 z
theorem resultsK {fn : Func} {p q : Tmp} (h : fn.results = #[.cell p 42, .tmp q]) (tmps : Array Value) {w : World} {b : Nat} {x y z : Value} {v : Value} (hp : tmps.getD p undef = .pointer (some ⟨b, 0, none⟩)) (hq : tmps.getD q undef = v) (hr : K3 w b x y z) :
    (results fn tmps).run Try.prog w = .ok (.tuple #[.agg #[x, y, z], v]) w := by
  have e1 : tmps[p]?.getD undef = .pointer (some ⟨b, 0, none⟩) := by simpa using hp
  have e2 : tmps[q]?.getD undef = v := by simpa using hq
  have c0 := hr.c0
  have c1 := hr.c1
  have c2 := hr.c2
  simp [results, h, e1, e2, go_sem, c0, c1, c2]
def listed : Array Value := #[.int .i64 1, .int .i64 360, .func (.func 27) #[] #[], .int .i64 2, .int .i64 360, .func (.func 28) #[] #[], .int .i64 3, .int .i64 365, .func (.func 28) #[] #[]]
/-- Block b holds the list of ways. -/
def K9 (w : World) (b : Nat) : Prop := w.heap[b]? = some (.cells listed 42 (0, 0))
theorem K9.lt {w : World} {b : Nat} (h : K9 w b) : b < w.heap.size := (Array.getElem?_eq_some_iff.1 h).1
theorem K9.keep {w w' : World} {B b : Nat} (h : K9 w b) (hb : Below B w w') (hB : b < B) : K9 w' b := (hb.block b hB).trans h
theorem K9.c {w : World} {b : Nat} (h : K9 w b) (i : Nat) (v : Value) (hv : listed[i]? = some v) : w.cell? ⟨b, i, none⟩ = some v := by rw [cell_of_row w b i _ _ _ h]; exact hv
theorem so_any (k b way : Int) (F : Value) (p : Nat) (w : World) (hc : w.cell? ⟨p, 0, none⟩ = some (.int .i64 way)) (hp : p < w.heap.size) : Calls Try.prog 30 #[.agg #[.int .i64 k, .int .i64 b, F], .pointer (some ⟨p, 0, none⟩)] w fun e w' => e = .returned (.bool (k == way)) ∧ Below w.heap.size w w' := by
  go_enter Try.func30, Try.ntmps30
  go_wp2_with fail
  go_ret
  exact ⟨rfl, (Below.refl _ _).alloc (Nat.le_refl _) _⟩
/-- In the midst of the search. -/
structure Fs (w wr : World) (b p : Nat) (way : Int) : Prop where
  res : K3 wr w.heap.size (.int .i64 0) (.int .i64 0) .nilFunc
  row : K9 wr b
  ptr : wr.cell? ⟨p, 0, none⟩ = some (.int .i64 way)
  bel : Below w.heap.size w wr
  pl : p < w.heap.size
  bl : b < w.heap.size
theorem Fs.keep {w wr w2 : World} {b p : Nat} {way : Int} (h : Fs w wr b p way) (hb : Below wr.heap.size wr w2) : Fs w w2 b p way :=
  ⟨h.res.keep hb h.res.lt, h.row.keep hb h.row.lt, (hb.cell (p := ⟨p, 0, none⟩) (Nat.lt_of_lt_of_le h.pl h.bel.size)).trans h.ptr, below_via h.bel hb, h.pl, h.bl⟩
theorem Fs.lt {w wr : World} {b p : Nat} {way : Int} (h : Fs w wr b p way) : p < wr.heap.size := Nat.lt_of_lt_of_le h.pl h.bel.size
theorem below_new42 (w : World) (o1 o2 o3 x y z : Value) : Below w.heap.size w ((((w.alloc (.cells #[o1, o2, o3] 42)).setCell ⟨w.heap.size, 0, none⟩ x).setCell ⟨w.heap.size, 1, none⟩ y).setCell ⟨w.heap.size, 2, none⟩ z) := below_new _ _ _ _
set_option maxRecDepth 20000 in
set_option maxHeartbeats 2000000 in
theorem find_1 (p b : Nat) (w : World) (hw : w.cell? ⟨p, 0, none⟩ = some (.int .i64 1)) (hp : p < w.heap.size) (hr : K9 w b) : Calls Try.prog 29 #[.slice (some ⟨b, 0, none⟩) 3 3, .func (.func 30) #[] #[.pointer (some ⟨p, 0, none⟩)]] w fun z w' => z = .returned (.tuple #[.agg #[.int .i64 1, .int .i64 360, .func (.func 27) #[] #[]], .bool true]) ∧ Below w.heap.size w w' := by
  have A := hide (show Fs w (w.alloc (.cells #[.int .i64 0, .int .i64 0, .nilFunc] 42)) b p 1 from ⟨K3.new w _ _ _, hr.keep ((Below.refl w.heap.size w).alloc (Nat.le_refl _) _) hr.lt, (((Below.refl w.heap.size w).alloc (Nat.le_refl _) _).cell (p := ⟨p, 0, none⟩) hp).trans hw, (Below.refl w.heap.size w).alloc (Nat.le_refl _) _, hp, hr.lt⟩)
  clear hr hw hp
  go_enter Try.func29, Try.ntmps29
  go_wp2_with fail
  generalize w.alloc (.cells #[.int .i64 0, .int .i64 0, .nilFunc] 42) = W at A ⊢
  go_loopw [11] (fun i wr => ∃ (k : Nat), k ≤ 0 ∧ i = .int .i64 k ∧ Hid (Fs w wr b p 1)) (fun i _ => 3 - (intOf i).toNat)
  case atStart => exact ⟨0, by omega, rfl, A⟩
  case round =>
    obtain ⟨k, hk, rfl, hF⟩ := hrel
    clear A W
    obtain rfl : k = 0 := by omega
    have x0 := (unhide hF).row.c 0 (.int .i64 1) rfl
    have x1 := (unhide hF).row.c 1 (.int .i64 360) rfl
    have x2 := (unhide hF).row.c 2 (.func (.func 27) #[] #[]) rfl
    have hN := hide ((unhide hF).keep ((Below.refl _ _).alloc (Nat.le_refl _) (.cells #[.int .i64 1, .int .i64 360, .func (.func 27) #[] #[]] 42)))
    have hV := hide (K3.new wr (.int .i64 1) (.int .i64 360) (.func (.func 27) #[] #[]))
    go_wp2_with fail
    clear x0 x1 x2
    generalize wr.alloc (.cells #[.int .i64 1, .int .i64 360, .func (.func 27) #[] #[]] 42) = W1 at hN hV ⊢
    refine (so_any 1 360 1 _ p W1 (unhide hN).ptr (unhide hN).lt).mono ?_
    rintro e w2 ⟨rfl, hb⟩
    replace hV := hide ((unhide hV).keep hb (unhide hV).lt)
    replace hN := hide ((unhide hN).keep hb)
    clear hb hF
    rw [show ((1 : Int) == 1) = true from rfl]
    have v0 := (unhide hV).c0
    have v1 := (unhide hV).c1
    have v2 := (unhide hV).c2
    have R0 := (unhide hN).res
    have r0 := R0.c0
    have r1 := R0.c1
    have r2 := R0.c2
    have f0 := R0.fr 0
    have f1 := R0.fr 1
    have f2 := R0.fr 2
    have R3 := hide (((R0.s0 (.int .i64 1)).s1 (.int .i64 360)).s2 (.func (.func 27) #[] #[]))
    have BB := hide ((((unhide hN).bel.setCell (p := ⟨w.heap.size, 0, none⟩) (Nat.le_refl _) (.int .i64 1)).setCell (p := ⟨w.heap.size, 1, none⟩) (Nat.le_refl _) (.int .i64 360)).setCell (p := ⟨w.heap.size, 2, none⟩) (Nat.le_refl _) (.func (.func 27) #[] #[]))
    replace R0 := hide R0
    go_wp2_with fail
    exact bodyPost_ret (resultsK rfl _ rfl rfl (unhide R3)) rfl ⟨rfl, unhide BB⟩
set_option maxRecDepth 20000 in
set_option maxHeartbeats 2000000 in
theorem find_2 (p b : Nat) (w : World) (hw : w.cell? ⟨p, 0, none⟩ = some (.int .i64 2)) (hp : p < w.heap.size) (hr : K9 w b) : Calls Try.prog 29 #[.slice (some ⟨b, 0, none⟩) 3 3, .func (.func 30) #[] #[.pointer (some ⟨p, 0, none⟩)]] w fun z w' => z = .returned (.tuple #[.agg #[.int .i64 2, .int .i64 360, .func (.func 28) #[] #[]], .bool true]) ∧ Below w.heap.size w w' := by
  have A := hide (show Fs w (w.alloc (.cells #[.int .i64 0, .int .i64 0, .nilFunc] 42)) b p 2 from ⟨K3.new w _ _ _, hr.keep ((Below.refl w.heap.size w).alloc (Nat.le_refl _) _) hr.lt, (((Below.refl w.heap.size w).alloc (Nat.le_refl _) _).cell (p := ⟨p, 0, none⟩) hp).trans hw, (Below.refl w.heap.size w).alloc (Nat.le_refl _) _, hp, hr.lt⟩)
  clear hr hw hp
  go_enter Try.func29, Try.ntmps29
  go_wp2_with fail
  generalize w.alloc (.cells #[.int .i64 0, .int .i64 0, .nilFunc] 42) = W at A ⊢
  go_loopw [11] (fun i wr => ∃ (k : Nat), k ≤ 1 ∧ i = .int .i64 k ∧ Hid (Fs w wr b p 2)) (fun i _ => 3 - (intOf i).toNat)
  case atStart => exact ⟨0, by omega, rfl, A⟩
  case round =>
    obtain ⟨k, hk, rfl, hF⟩ := hrel
    clear A W
    rcases (show k = 0 ∨ k = 1 by omega) with rfl | rfl
    · have x0 := (unhide hF).row.c 0 (.int .i64 1) rfl
      have x1 := (unhide hF).row.c 1 (.int .i64 360) rfl
      have x2 := (unhide hF).row.c 2 (.func (.func 27) #[] #[]) rfl
      have hN := hide ((unhide hF).keep ((Below.refl _ _).alloc (Nat.le_refl _) (.cells #[.int .i64 1, .int .i64 360, .func (.func 27) #[] #[]] 42)))
      have hV := hide (K3.new wr (.int .i64 1) (.int .i64 360) (.func (.func 27) #[] #[]))
      go_wp2_with fail
      clear x0 x1 x2
      generalize wr.alloc (.cells #[.int .i64 1, .int .i64 360, .func (.func 27) #[] #[]] 42) = W1 at hN hV ⊢
      refine (so_any 1 360 2 _ p W1 (unhide hN).ptr (unhide hN).lt).mono ?_
      rintro e w2 ⟨rfl, hb⟩
      replace hV := hide ((unhide hV).keep hb (unhide hV).lt)
      replace hN := hide ((unhide hN).keep hb)
      clear hb hF
      rw [show ((1 : Int) == 2) = false from rfl]
      go_wp2_with fail
      go_roundw
      case rel => exact ⟨1, by omega, rfl, hN⟩
      case measure => decide
    · have x0 := (unhide hF).row.c 3 (.int .i64 2) rfl
      have x1 := (unhide hF).row.c 4 (.int .i64 360) rfl
      have x2 := (unhide hF).row.c 5 (.func (.func 28) #[] #[]) rfl
      have hN := hide ((unhide hF).keep ((Below.refl _ _).alloc (Nat.le_refl _) (.cells #[.int .i64 2, .int .i64 360, .func (.func 28) #[] #[]] 42)))
      have hV := hide (K3.new wr (.int .i64 2) (.int .i64 360) (.func (.func 28) #[] #[]))
      go_wp2_with fail
      clear x0 x1 x2
      generalize wr.alloc (.cells #[.int .i64 2, .int .i64 360, .func (.func 28) #[] #[]] 42) = W1 at hN hV ⊢
      refine (so_any 2 360 2 _ p W1 (unhide hN).ptr (unhide hN).lt).mono ?_
      rintro e w2 ⟨rfl, hb⟩
      replace hV := hide ((unhide hV).keep hb (unhide hV).lt)
      replace hN := hide ((unhide hN).keep hb)
      clear hb hF
      rw [show ((2 : Int) == 2) = true from rfl]
      have v0 := (unhide hV).c0
      have v1 := (unhide hV).c1
      have v2 := (unhide hV).c2
      have R0 := (unhide hN).res
      have r0 := R0.c0
      have r1 := R0.c1
      have r2 := R0.c2
      have f0 := R0.fr 0
      have f1 := R0.fr 1
      have f2 := R0.fr 2
      have R3 := hide (((R0.s0 (.int .i64 2)).s1 (.int .i64 360)).s2 (.func (.func 28) #[] #[]))
      have BB := hide ((((unhide hN).bel.setCell (p := ⟨w.heap.size, 0, none⟩) (Nat.le_refl _) (.int .i64 2)).setCell (p := ⟨w.heap.size, 1, none⟩) (Nat.le_refl _) (.int .i64 360)).setCell (p := ⟨w.heap.size, 2, none⟩) (Nat.le_refl _) (.func (.func 28) #[] #[]))
      replace R0 := hide R0
      go_wp2_with fail
      exact bodyPost_ret (resultsK rfl _ rfl rfl (unhide R3)) rfl ⟨rfl, unhide BB⟩
set_option maxRecDepth 20000 in
set_option maxHeartbeats 2000000 in
theorem find_3 (p b : Nat) (w : World) (hw : w.cell? ⟨p, 0, none⟩ = some (.int .i64 3)) (hp : p < w.heap.size) (hr : K9 w b) : Calls Try.prog 29 #[.slice (some ⟨b, 0, none⟩) 3 3, .func (.func 30) #[] #[.pointer (some ⟨p, 0, none⟩)]] w fun z w' => z = .returned (.tuple #[.agg #[.int .i64 3, .int .i64 365, .func (.func 28) #[] #[]], .bool true]) ∧ Below w.heap.size w w' := by
  have A := hide (show Fs w (w.alloc (.cells #[.int .i64 0, .int .i64 0, .nilFunc] 42)) b p 3 from ⟨K3.new w _ _ _, hr.keep ((Below.refl w.heap.size w).alloc (Nat.le_refl _) _) hr.lt, (((Below.refl w.heap.size w).alloc (Nat.le_refl _) _).cell (p := ⟨p, 0, none⟩) hp).trans hw, (Below.refl w.heap.size w).alloc (Nat.le_refl _) _, hp, hr.lt⟩)
  clear hr hw hp
  go_enter Try.func29, Try.ntmps29
  go_wp2_with fail
  generalize w.alloc (.cells #[.int .i64 0, .int .i64 0, .nilFunc] 42) = W at A ⊢
  go_loopw [11] (fun i wr => ∃ (k : Nat), k ≤ 2 ∧ i = .int .i64 k ∧ Hid (Fs w wr b p 3)) (fun i _ => 3 - (intOf i).toNat)
  case atStart => exact ⟨0, by omega, rfl, A⟩
  case round =>
    obtain ⟨k, hk, rfl, hF⟩ := hrel
    clear A W
    rcases (show k = 0 ∨ k = 1 ∨ k = 2 by omega) with rfl | rfl | rfl
    · have x0 := (unhide hF).row.c 0 (.int .i64 1) rfl
      have x1 := (unhide hF).row.c 1 (.int .i64 360) rfl
      have x2 := (unhide hF).row.c 2 (.func (.func 27) #[] #[]) rfl
      have hN := hide ((unhide hF).keep ((Below.refl _ _).alloc (Nat.le_refl _) (.cells #[.int .i64 1, .int .i64 360, .func (.func 27) #[] #[]] 42)))
      have hV := hide (K3.new wr (.int .i64 1) (.int .i64 360) (.func (.func 27) #[] #[]))
      go_wp2_with fail
      clear x0 x1 x2
      generalize wr.alloc (.cells #[.int .i64 1, .int .i64 360, .func (.func 27) #[] #[]] 42) = W1 at hN hV ⊢
      refine (so_any 1 360 3 _ p W1 (unhide hN).ptr (unhide hN).lt).mono ?_
      rintro e w2 ⟨rfl, hb⟩
      replace hV := hide ((unhide hV).keep hb (unhide hV).lt)
      replace hN := hide ((unhide hN).keep hb)
      clear hb hF
      rw [show ((1 : Int) == 3) = false from rfl]
      go_wp2_with fail
      go_roundw
      case rel => exact ⟨1, by omega, rfl, hN⟩
      case measure => decide
    · have x0 := (unhide hF).row.c 3 (.int .i64 2) rfl
      have x1 := (unhide hF).row.c 4 (.int .i64 360) rfl
      have x2 := (unhide hF).row.c 5 (.func (.func 28) #[] #[]) rfl
      have hN := hide ((unhide hF).keep ((Below.refl _ _).alloc (Nat.le_refl _) (.cells #[.int .i64 2, .int .i64 360, .func (.func 28) #[] #[]] 42)))
      have hV := hide (K3.new wr (.int .i64 2) (.int .i64 360) (.func (.func 28) #[] #[]))
      go_wp2_with fail
      clear x0 x1 x2
      generalize wr.alloc (.cells #[.int .i64 2, .int .i64 360, .func (.func 28) #[] #[]] 42) = W1 at hN hV ⊢
      refine (so_any 2 360 3 _ p W1 (unhide hN).ptr (unhide hN).lt).mono ?_
      rintro e w2 ⟨rfl, hb⟩
      replace hV := hide ((unhide hV).keep hb (unhide hV).lt)
      replace hN := hide ((unhide hN).keep hb)
      clear hb hF
      rw [show ((2 : Int) == 3) = false from rfl]
      go_wp2_with fail
      go_roundw
      case rel => exact ⟨2, by omega, rfl, hN⟩
      case measure => decide
    · have x0 := (unhide hF).row.c 6 (.int .i64 3) rfl
      have x1 := (unhide hF).row.c 7 (.int .i64 365) rfl
      have x2 := (unhide hF).row.c 8 (.func (.func 28) #[] #[]) rfl
      have hN := hide ((unhide hF).keep ((Below.refl _ _).alloc (Nat.le_refl _) (.cells #[.int .i64 3, .int .i64 365, .func (.func 28) #[] #[]] 42)))
      have hV := hide (K3.new wr (.int .i64 3) (.int .i64 365) (.func (.func 28) #[] #[]))
      go_wp2_with fail
      clear x0 x1 x2
      generalize wr.alloc (.cells #[.int .i64 3, .int .i64 365, .func (.func 28) #[] #[]] 42) = W1 at hN hV ⊢
      refine (so_any 3 365 3 _ p W1 (unhide hN).ptr (unhide hN).lt).mono ?_
      rintro e w2 ⟨rfl, hb⟩
      replace hV := hide ((unhide hV).keep hb (unhide hV).lt)
      replace hN := hide ((unhide hN).keep hb)
      clear hb hF
      rw [show ((3 : Int) == 3) = true from rfl]
      have v0 := (unhide hV).c0
      have v1 := (unhide hV).c1
      have v2 := (unhide hV).c2
      have R0 := (unhide hN).res
      have r0 := R0.c0
      have r1 := R0.c1
      have r2 := R0.c2
      have f0 := R0.fr 0
      have f1 := R0.fr 1
      have f2 := R0.fr 2
      have R3 := hide (((R0.s0 (.int .i64 3)).s1 (.int .i64 365)).s2 (.func (.func 28) #[] #[]))
      have BB := hide ((((unhide hN).bel.setCell (p := ⟨w.heap.size, 0, none⟩) (Nat.le_refl _) (.int .i64 3)).setCell (p := ⟨w.heap.size, 1, none⟩) (Nat.le_refl _) (.int .i64 365)).setCell (p := ⟨w.heap.size, 2, none⟩) (Nat.le_refl _) (.func (.func 28) #[] #[]))
      replace R0 := hide R0
      go_wp2_with fail
      exact bodyPost_ret (resultsK rfl _ rfl rfl (unhide R3)) rfl ⟨rfl, unhide BB⟩
set_option maxRecDepth 20000 in
set_option maxHeartbeats 2000000 in
theorem find_0 (way : Int) (n1 : ((1 : Int) == way) = false) (n2 : ((2 : Int) == way) = false) (n3 : ((3 : Int) == way) = false) (p b : Nat) (w : World) (hw : w.cell? ⟨p, 0, none⟩ = some (.int .i64 way)) (hp : p < w.heap.size) (hr : K9 w b) : Calls Try.prog 29 #[.slice (some ⟨b, 0, none⟩) 3 3, .func (.func 30) #[] #[.pointer (some ⟨p, 0, none⟩)]] w fun z w' => z = .returned (.tuple #[.agg #[.int .i64 0, .int .i64 0, .nilFunc], .bool false]) ∧ Below w.heap.size w w' := by
  have A := hide (show Fs w (w.alloc (.cells #[.int .i64 0, .int .i64 0, .nilFunc] 42)) b p way from ⟨K3.new w _ _ _, hr.keep ((Below.refl w.heap.size w).alloc (Nat.le_refl _) _) hr.lt, (((Below.refl w.heap.size w).alloc (Nat.le_refl _) _).cell (p := ⟨p, 0, none⟩) hp).trans hw, (Below.refl w.heap.size w).alloc (Nat.le_refl _) _, hp, hr.lt⟩)
  clear hr hw hp
  go_enter Try.func29, Try.ntmps29
  go_wp2_with fail
  generalize w.alloc (.cells #[.int .i64 0, .int .i64 0, .nilFunc] 42) = W at A ⊢
  go_loopw [11] (fun i wr => ∃ (k : Nat), k ≤ 3 ∧ i = .int .i64 k ∧ Hid (Fs w wr b p way)) (fun i _ => 3 - (intOf i).toNat)
  case atStart => exact ⟨0, by omega, rfl, A⟩
  case round =>
    obtain ⟨k, hk, rfl, hF⟩ := hrel
    clear A W
    rcases (show k = 0 ∨ k = 1 ∨ k = 2 ∨ k = 3 by omega) with rfl | rfl | rfl | rfl
    · have x0 := (unhide hF).row.c 0 (.int .i64 1) rfl
      have x1 := (unhide hF).row.c 1 (.int .i64 360) rfl
      have x2 := (unhide hF).row.c 2 (.func (.func 27) #[] #[]) rfl
      have hN := hide ((unhide hF).keep ((Below.refl _ _).alloc (Nat.le_refl _) (.cells #[.int .i64 1, .int .i64 360, .func (.func 27) #[] #[]] 42)))
      have hV := hide (K3.new wr (.int .i64 1) (.int .i64 360) (.func (.func 27) #[] #[]))
      go_wp2_with fail
      clear x0 x1 x2
      generalize wr.alloc (.cells #[.int .i64 1, .int .i64 360, .func (.func 27) #[] #[]] 42) = W1 at hN hV ⊢
      refine (so_any 1 360 way _ p W1 (unhide hN).ptr (unhide hN).lt).mono ?_
      rintro e w2 ⟨rfl, hb⟩
      replace hV := hide ((unhide hV).keep hb (unhide hV).lt)
      replace hN := hide ((unhide hN).keep hb)
      clear hb hF
      rw [n1]
      go_wp2_with fail
      go_roundw
      case rel => exact ⟨1, by omega, rfl, hN⟩
      case measure => decide
    · have x0 := (unhide hF).row.c 3 (.int .i64 2) rfl
      have x1 := (unhide hF).row.c 4 (.int .i64 360) rfl
      have x2 := (unhide hF).row.c 5 (.func (.func 28) #[] #[]) rfl
      have hN := hide ((unhide hF).keep ((Below.refl _ _).alloc (Nat.le_refl _) (.cells #[.int .i64 2, .int .i64 360, .func (.func 28) #[] #[]] 42)))
      have hV := hide (K3.new wr (.int .i64 2) (.int .i64 360) (.func (.func 28) #[] #[]))
      go_wp2_with fail
      clear x0 x1 x2
      generalize wr.alloc (.cells #[.int .i64 2, .int .i64 360, .func (.func 28) #[] #[]] 42) = W1 at hN hV ⊢
      refine (so_any 2 360 way _ p W1 (unhide hN).ptr (unhide hN).lt).mono ?_
      rintro e w2 ⟨rfl, hb⟩
      replace hV := hide ((unhide hV).keep hb (unhide hV).lt)
      replace hN := hide ((unhide hN).keep hb)
      clear hb hF
      rw [n2]
      go_wp2_with fail
      go_roundw
      case rel => exact ⟨2, by omega, rfl, hN⟩
      case measure => decide
    · have x0 := (unhide hF).row.c 6 (.int .i64 3) rfl
      have x1 := (unhide hF).row.c 7 (.int .i64 365) rfl
      have x2 := (unhide hF).row.c 8 (.func (.func 28) #[] #[]) rfl
      have hN := hide ((unhide hF).keep ((Below.refl _ _).alloc (Nat.le_refl _) (.cells #[.int .i64 3, .int .i64 365, .func (.func 28) #[] #[]] 42)))
      have hV := hide (K3.new wr (.int .i64 3) (.int .i64 365) (.func (.func 28) #[] #[]))
      go_wp2_with fail
      clear x0 x1 x2
      generalize wr.alloc (.cells #[.int .i64 3, .int .i64 365, .func (.func 28) #[] #[]] 42) = W1 at hN hV ⊢
      refine (so_any 3 365 way _ p W1 (unhide hN).ptr (unhide hN).lt).mono ?_
      rintro e w2 ⟨rfl, hb⟩
      replace hV := hide ((unhide hV).keep hb (unhide hV).lt)
      replace hN := hide ((unhide hN).keep hb)
      clear hb hF
      rw [n3]
      go_wp2_with fail
      go_roundw
      case rel => exact ⟨3, by omega, rfl, hN⟩
      case measure => decide
    · have hN := hide ((unhide hF).keep ((Below.refl _ _).alloc (Nat.le_refl _) (.cells #[.int .i64 0, .int .i64 0, .nilFunc] 42)))
      have R0 := (unhide hN).res
      have r0 := R0.c0
      have r1 := R0.c1
      have r2 := R0.c2
      have f0 := R0.fr 0
      have f1 := R0.fr 1
      have f2 := R0.fr 2
      have R3 := hide (((R0.s0 (.int .i64 0)).s1 (.int .i64 0)).s2 (.nilFunc))
      have BB := hide ((((unhide hN).bel.setCell (p := ⟨w.heap.size, 0, none⟩) (Nat.le_refl _) (.int .i64 0)).setCell (p := ⟨w.heap.size, 1, none⟩) (Nat.le_refl _) (.int .i64 0)).setCell (p := ⟨w.heap.size, 2, none⟩) (Nat.le_refl _) (.nilFunc))
      replace R0 := hide R0
      go_wp2_with fail
      exact bodyPost_ret (resultsK rfl _ rfl rfl (unhide R3)) rfl ⟨rfl, unhide BB⟩
/-- countingOf answers. -/
def Cnt (way : Int) (x y z : Value) (ok : Bool) : Prop := ∀ w : World, Calls Try.prog 16 #[.int .i64 way] w fun e w' => e = .returned (.tuple #[.agg #[x, y, z], .bool ok]) ∧ Below w.heap.size w w'
set_option maxRecDepth 20000 in
set_option maxHeartbeats 2000000 in
theorem cnt_1 : Cnt 1 (.int .i64 1) (.int .i64 360) (.func (.func 27) #[] #[]) true := by
  intro w
  have A1 : (w.alloc (.cells #[.int .i64 1] 3)).cell? ⟨w.heap.size, 0, none⟩ = some (.int .i64 1) := by rw [cell_of_row _ _ 0 _ _ _ (heap_alloc_new w _)]; rfl
  have A2 := K3.new (w.alloc (.cells #[.int .i64 1] 3)) (.int .i64 0) (.int .i64 0) .nilFunc
  have A3 : K9 (((w.alloc (.cells #[.int .i64 1] 3)).alloc (.cells #[.int .i64 0, .int .i64 0, .nilFunc] 42)).alloc (.cells listed 42)) ((w.alloc (.cells #[.int .i64 1] 3)).alloc (.cells #[.int .i64 0, .int .i64 0, .nilFunc] 42)).heap.size := heap_alloc_new _ _
  replace A2 := A2.alloc (.cells listed 42)
  replace A1 := (((Below.refl (w.heap.size + 1) (w.alloc (.cells #[.int .i64 1] 3))).alloc (by simp) (.cells #[.int .i64 0, .int .i64 0, .nilFunc] 42)).alloc (by simp) (.cells listed 42)).cell (p := ⟨w.heap.size, 0, none⟩) (by show w.heap.size < w.heap.size + 1; omega) |>.trans A1
  have A4 := (((Below.refl w.heap.size w).alloc (Nat.le_refl _) (.cells #[.int .i64 1] 3)).alloc (by simp) (.cells #[.int .i64 0, .int .i64 0, .nilFunc] 42)).alloc (by simp; omega) (.cells listed 42)
  rw [show ∀ o : Obj, (w.alloc o).heap.size = w.heap.size + 1 from fun o => by simp] at A2
  rw [show ∀ o o2 : Obj, ((w.alloc o).alloc o2).heap.size = w.heap.size + 1 + 1 from fun o o2 => by simp] at A3
  have l1 := A2.lt
  replace A1 := hide A1
  replace A2 := hide A2
  replace A3 := hide A3
  replace A4 := hide A4
  go_enter Try.func16, Try.ntmps16
  go_wp2_with fail
  change Calls Try.prog 29 _ (((w.alloc (.cells #[.int .i64 1] 3)).alloc (.cells #[.int .i64 0, .int .i64 0, .nilFunc] 42)).alloc (.cells listed 42)) _
  generalize ((w.alloc (.cells #[.int .i64 1] 3)).alloc (.cells #[.int .i64 0, .int .i64 0, .nilFunc] 42)).alloc (.cells listed 42) = W3 at A1 A2 A3 A4 l1 ⊢
  refine (find_1 _ _ W3 (unhide A1) (by omega) (unhide A3)).mono ?_
  rintro e w2 ⟨rfl, hb⟩
  have R0 := (unhide A2).keep hb (unhide A2).lt
  replace A4 := hide (below_via (unhide A4) hb)
  clear A1 A2 A3 hb l1
  have r0 := R0.c0
  have r1 := R0.c1
  have r2 := R0.c2
  have f0 := R0.fr 0
  have f1 := R0.fr 1
  have f2 := R0.fr 2
  have R3 := hide (((R0.s0 (.int .i64 1)).s1 (.int .i64 360)).s2 (.func (.func 27) #[] #[]))
  have BB := hide ((((unhide A4).setCell (p := ⟨w.heap.size + 1, 0, none⟩) (Nat.le_succ _) (.int .i64 1)).setCell (p := ⟨w.heap.size + 1, 1, none⟩) (Nat.le_succ _) (.int .i64 360)).setCell (p := ⟨w.heap.size + 1, 2, none⟩) (Nat.le_succ _) (.func (.func 27) #[] #[]))
  replace R0 := hide R0
  go_wp2_with fail
  exact bodyPost_ret (resultsK rfl _ rfl rfl (unhide R3)) rfl ⟨rfl, unhide BB⟩
set_option maxRecDepth 20000 in
set_option maxHeartbeats 2000000 in
theorem cnt_2 : Cnt 2 (.int .i64 2) (.int .i64 360) (.func (.func 28) #[] #[]) true := by
  intro w
  have A1 : (w.alloc (.cells #[.int .i64 2] 3)).cell? ⟨w.heap.size, 0, none⟩ = some (.int .i64 2) := by rw [cell_of_row _ _ 0 _ _ _ (heap_alloc_new w _)]; rfl
  have A2 := K3.new (w.alloc (.cells #[.int .i64 2] 3)) (.int .i64 0) (.int .i64 0) .nilFunc
  have A3 : K9 (((w.alloc (.cells #[.int .i64 2] 3)).alloc (.cells #[.int .i64 0, .int .i64 0, .nilFunc] 42)).alloc (.cells listed 42)) ((w.alloc (.cells #[.int .i64 2] 3)).alloc (.cells #[.int .i64 0, .int .i64 0, .nilFunc] 42)).heap.size := heap_alloc_new _ _
  replace A2 := A2.alloc (.cells listed 42)
  replace A1 := (((Below.refl (w.heap.size + 1) (w.alloc (.cells #[.int .i64 2] 3))).alloc (by simp) (.cells #[.int .i64 0, .int .i64 0, .nilFunc] 42)).alloc (by simp) (.cells listed 42)).cell (p := ⟨w.heap.size, 0, none⟩) (by show w.heap.size < w.heap.size + 1; omega) |>.trans A1
  have A4 := (((Below.refl w.heap.size w).alloc (Nat.le_refl _) (.cells #[.int .i64 2] 3)).alloc (by simp) (.cells #[.int .i64 0, .int .i64 0, .nilFunc] 42)).alloc (by simp; omega) (.cells listed 42)
  rw [show ∀ o : Obj, (w.alloc o).heap.size = w.heap.size + 1 from fun o => by simp] at A2
  rw [show ∀ o o2 : Obj, ((w.alloc o).alloc o2).heap.size = w.heap.size + 1 + 1 from fun o o2 => by simp] at A3
  have l1 := A2.lt
  replace A1 := hide A1
  replace A2 := hide A2
  replace A3 := hide A3
  replace A4 := hide A4
  go_enter Try.func16, Try.ntmps16
  go_wp2_with fail
  change Calls Try.prog 29 _ (((w.alloc (.cells #[.int .i64 2] 3)).alloc (.cells #[.int .i64 0, .int .i64 0, .nilFunc] 42)).alloc (.cells listed 42)) _
  generalize ((w.alloc (.cells #[.int .i64 2] 3)).alloc (.cells #[.int .i64 0, .int .i64 0, .nilFunc] 42)).alloc (.cells listed 42) = W3 at A1 A2 A3 A4 l1 ⊢
  refine (find_2 _ _ W3 (unhide A1) (by omega) (unhide A3)).mono ?_
  rintro e w2 ⟨rfl, hb⟩
  have R0 := (unhide A2).keep hb (unhide A2).lt
  replace A4 := hide (below_via (unhide A4) hb)
  clear A1 A2 A3 hb l1
  have r0 := R0.c0
  have r1 := R0.c1
  have r2 := R0.c2
  have f0 := R0.fr 0
  have f1 := R0.fr 1
  have f2 := R0.fr 2
  have R3 := hide (((R0.s0 (.int .i64 2)).s1 (.int .i64 360)).s2 (.func (.func 28) #[] #[]))
  have BB := hide ((((unhide A4).setCell (p := ⟨w.heap.size + 1, 0, none⟩) (Nat.le_succ _) (.int .i64 2)).setCell (p := ⟨w.heap.size + 1, 1, none⟩) (Nat.le_succ _) (.int .i64 360)).setCell (p := ⟨w.heap.size + 1, 2, none⟩) (Nat.le_succ _) (.func (.func 28) #[] #[]))
  replace R0 := hide R0
  go_wp2_with fail
  exact bodyPost_ret (resultsK rfl _ rfl rfl (unhide R3)) rfl ⟨rfl, unhide BB⟩
set_option maxRecDepth 20000 in
set_option maxHeartbeats 2000000 in
theorem cnt_3 : Cnt 3 (.int .i64 3) (.int .i64 365) (.func (.func 28) #[] #[]) true := by
  intro w
  have A1 : (w.alloc (.cells #[.int .i64 3] 3)).cell? ⟨w.heap.size, 0, none⟩ = some (.int .i64 3) := by rw [cell_of_row _ _ 0 _ _ _ (heap_alloc_new w _)]; rfl
  have A2 := K3.new (w.alloc (.cells #[.int .i64 3] 3)) (.int .i64 0) (.int .i64 0) .nilFunc
  have A3 : K9 (((w.alloc (.cells #[.int .i64 3] 3)).alloc (.cells #[.int .i64 0, .int .i64 0, .nilFunc] 42)).alloc (.cells listed 42)) ((w.alloc (.cells #[.int .i64 3] 3)).alloc (.cells #[.int .i64 0, .int .i64 0, .nilFunc] 42)).heap.size := heap_alloc_new _ _
  replace A2 := A2.alloc (.cells listed 42)
  replace A1 := (((Below.refl (w.heap.size + 1) (w.alloc (.cells #[.int .i64 3] 3))).alloc (by simp) (.cells #[.int .i64 0, .int .i64 0, .nilFunc] 42)).alloc (by simp) (.cells listed 42)).cell (p := ⟨w.heap.size, 0, none⟩) (by show w.heap.size < w.heap.size + 1; omega) |>.trans A1
  have A4 := (((Below.refl w.heap.size w).alloc (Nat.le_refl _) (.cells #[.int .i64 3] 3)).alloc (by simp) (.cells #[.int .i64 0, .int .i64 0, .nilFunc] 42)).alloc (by simp; omega) (.cells listed 42)
  rw [show ∀ o : Obj, (w.alloc o).heap.size = w.heap.size + 1 from fun o => by simp] at A2
  rw [show ∀ o o2 : Obj, ((w.alloc o).alloc o2).heap.size = w.heap.size + 1 + 1 from fun o o2 => by simp] at A3
  have l1 := A2.lt
  replace A1 := hide A1
  replace A2 := hide A2
  replace A3 := hide A3
  replace A4 := hide A4
  go_enter Try.func16, Try.ntmps16
  go_wp2_with fail
  change Calls Try.prog 29 _ (((w.alloc (.cells #[.int .i64 3] 3)).alloc (.cells #[.int .i64 0, .int .i64 0, .nilFunc] 42)).alloc (.cells listed 42)) _
  generalize ((w.alloc (.cells #[.int .i64 3] 3)).alloc (.cells #[.int .i64 0, .int .i64 0, .nilFunc] 42)).alloc (.cells listed 42) = W3 at A1 A2 A3 A4 l1 ⊢
  refine (find_3 _ _ W3 (unhide A1) (by omega) (unhide A3)).mono ?_
  rintro e w2 ⟨rfl, hb⟩
  have R0 := (unhide A2).keep hb (unhide A2).lt
  replace A4 := hide (below_via (unhide A4) hb)
  clear A1 A2 A3 hb l1
  have r0 := R0.c0
  have r1 := R0.c1
  have r2 := R0.c2
  have f0 := R0.fr 0
  have f1 := R0.fr 1
  have f2 := R0.fr 2
  have R3 := hide (((R0.s0 (.int .i64 3)).s1 (.int .i64 365)).s2 (.func (.func 28) #[] #[]))
  have BB := hide ((((unhide A4).setCell (p := ⟨w.heap.size + 1, 0, none⟩) (Nat.le_succ _) (.int .i64 3)).setCell (p := ⟨w.heap.size + 1, 1, none⟩) (Nat.le_succ _) (.int .i64 365)).setCell (p := ⟨w.heap.size + 1, 2, none⟩) (Nat.le_succ _) (.func (.func 28) #[] #[]))
  replace R0 := hide R0
  go_wp2_with fail
  exact bodyPost_ret (resultsK rfl _ rfl rfl (unhide R3)) rfl ⟨rfl, unhide BB⟩
set_option maxRecDepth 20000 in
set_option maxHeartbeats 2000000 in
theorem cnt_0 (way : Int) (n1 : ((1 : Int) == way) = false) (n2 : ((2 : Int) == way) = false) (n3 : ((3 : Int) == way) = false) : Cnt way (.int .i64 0) (.int .i64 0) (.nilFunc) false := by
  intro w
  have A1 : (w.alloc (.cells #[.int .i64 way] 3)).cell? ⟨w.heap.size, 0, none⟩ = some (.int .i64 way) := by rw [cell_of_row _ _ 0 _ _ _ (heap_alloc_new w _)]; rfl
  have A2 := K3.new (w.alloc (.cells #[.int .i64 way] 3)) (.int .i64 0) (.int .i64 0) .nilFunc
  have A3 : K9 (((w.alloc (.cells #[.int .i64 way] 3)).alloc (.cells #[.int .i64 0, .int .i64 0, .nilFunc] 42)).alloc (.cells listed 42)) ((w.alloc (.cells #[.int .i64 way] 3)).alloc (.cells #[.int .i64 0, .int .i64 0, .nilFunc] 42)).heap.size := heap_alloc_new _ _
  replace A2 := A2.alloc (.cells listed 42)
  replace A1 := (((Below.refl (w.heap.size + 1) (w.alloc (.cells #[.int .i64 way] 3))).alloc (by simp) (.cells #[.int .i64 0, .int .i64 0, .nilFunc] 42)).alloc (by simp) (.cells listed 42)).cell (p := ⟨w.heap.size, 0, none⟩) (by show w.heap.size < w.heap.size + 1; omega) |>.trans A1
  have A4 := (((Below.refl w.heap.size w).alloc (Nat.le_refl _) (.cells #[.int .i64 way] 3)).alloc (by simp) (.cells #[.int .i64 0, .int .i64 0, .nilFunc] 42)).alloc (by simp; omega) (.cells listed 42)
  rw [show ∀ o : Obj, (w.alloc o).heap.size = w.heap.size + 1 from fun o => by simp] at A2
  rw [show ∀ o o2 : Obj, ((w.alloc o).alloc o2).heap.size = w.heap.size + 1 + 1 from fun o o2 => by simp] at A3
  have l1 := A2.lt
  replace A1 := hide A1
  replace A2 := hide A2
  replace A3 := hide A3
  replace A4 := hide A4
  go_enter Try.func16, Try.ntmps16
  go_wp2_with fail
  change Calls Try.prog 29 _ (((w.alloc (.cells #[.int .i64 way] 3)).alloc (.cells #[.int .i64 0, .int .i64 0, .nilFunc] 42)).alloc (.cells listed 42)) _
  generalize ((w.alloc (.cells #[.int .i64 way] 3)).alloc (.cells #[.int .i64 0, .int .i64 0, .nilFunc] 42)).alloc (.cells listed 42) = W3 at A1 A2 A3 A4 l1 ⊢
  refine (find_0 way n1 n2 n3 _ _ W3 (unhide A1) (by omega) (unhide A3)).mono ?_
  rintro e w2 ⟨rfl, hb⟩
  have R0 := (unhide A2).keep hb (unhide A2).lt
  replace A4 := hide (below_via (unhide A4) hb)
  clear A1 A2 A3 hb l1
  have r0 := R0.c0
  have r1 := R0.c1
  have r2 := R0.c2
  have f0 := R0.fr 0
  have f1 := R0.fr 1
  have f2 := R0.fr 2
  have R3 := hide (((R0.s0 (.int .i64 0)).s1 (.int .i64 0)).s2 (.nilFunc))
  have BB := hide ((((unhide A4).setCell (p := ⟨w.heap.size + 1, 0, none⟩) (Nat.le_succ _) (.int .i64 0)).setCell (p := ⟨w.heap.size + 1, 1, none⟩) (Nat.le_succ _) (.int .i64 0)).setCell (p := ⟨w.heap.size + 1, 2, none⟩) (Nat.le_succ _) (.nilFunc))
  replace R0 := hide R0
  go_wp2_with fail
  exact bodyPost_ret (resultsK rfl _ rfl rfl (unhide R3)) rfl ⟨rfl, unhide BB⟩
end Go.Proofs.Ythlakemoiicdfaa
