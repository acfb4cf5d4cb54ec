/- A loan as it stands: whether it may be (first part). -/
import Derived.Test.YtpeoabopeihadaaNQJ
import Derived.Laws.IdiomCopy
import Derived.Deep.RegionLaw
import Derived.Test.YtpeoabopeihadaaNQK
import Derived.Deep.MidRow
set_option linter.unusedVariables false
set_option linter.unusedSimpArgs false
set_option linter.unusedSectionVars false
set_option maxHeartbeats 8000000
namespace Go.Proofs.Ytpeoabopeihadaa.Mn
open Go.RowKit
attribute [local simp] Tri.typeInfo Tri.sizeOf Tri.underlying Tri.runUnderlying Tri.isAgg Tri.zeroValue Tri.depth Tri.stoodInHeld Tri.eqGuardType Tri.call15 Tri.call16 Tri.call26 Tri.call27 Tri.call28 Tri.call29 Tri.call30 Tri.call31 Tri.call46 Tri.call49 Tri.call50 Tri.call51 Tri.call52 Tri.call53 Tri.call54 Tri.call65 Tri.call66 Tri.call68 Tri.call69 Tri.call70 Tri.call71 Tri.call72 Tri.call73 Tri.call74 Tri.call75 Tri.call82 Tri.call84 Tri.call85 Tri.call86 Tri.call95 Tri.call101 Tri.call106 Tri.call107 Tri.call116 Tri.call117 Tri.call118 Tri.call119 Tri.call120 Tri.call122 Tri.call123 Tri.call124 Tri.call125 Tri.call126 Tri.call135 Tri.call137 Tri.call143 Tri.call144 Tri.call145 Tri.call146 Tri.call147 Tri.call149 Tri.call150 Tri.call151 Tri.call152 Tri.call156 Tri.call157 Tri.call159 Tri.call160 Tri.call161 Tri.call162 Tri.call163 Tri.call164 Tri.call165 Tri.call166 Tri.call167 Tri.call175 Tri.call176 Tri.call178 Tri.call179 Tri.call180 Tri.call181 Tri.call182 Tri.call183 Tri.call186 Tri.call187 Tri.call188 Tri.call205
structure Ln where
 id : Int
 st : Int
 be : Int
 out : Int
 rt : Int
 gr : Int
 due : Int
 inc : Int
 got : Int
 adj : Int
 wri : Int
 rcv : Int
abbrev lnB (a b c d e f g h i j k l : Int) (s : Value) : Array Value := #[.int .i64 a, .int .i64 b, .int .i64 c, .int .i64 d, .int .i64 e, .int .i64 f, .int .i64 g, .int .i64 h, .int .i64 i, .int .i64 j, .int .i64 k, .int .i64 l, s]
abbrev lnA (L : Ln) (s : Value) : Array Value := #[.int .i64 L.id, .int .i64 L.st, .int .i64 L.be, .int .i64 L.out, .int .i64 L.rt, .int .i64 L.gr, .int .i64 L.due, .int .i64 L.inc, .int .i64 L.got, .int .i64 L.adj, .int .i64 L.wri, .int .i64 L.rcv, s]
abbrev lnZ : Array Value := #[.int .i64 0, .int .i64 0, .int .i64 0, .int .i64 0, .int .i64 0, .int .i64 0, .int .i64 0, .int .i64 0, .int .i64 0, .int .i64 0, .int .i64 0, .int .i64 0, .slice none 0 0]
def inB (lo n hi : Int) : Bool := decide (lo ≤ n) && decide (n ≤ hi)
theorem inB_yes {lo n hi : Int} (h : inB lo n hi = true) : lo ≤ n ∧ n ≤ hi := by
 unfold inB at h
 simpa using h
theorem inB_of {lo n hi : Int} (h : lo ≤ n ∧ n ≤ hi) : inB lo n hi = true := by
 unfold inB
 simpa using h
def LB (w : World) (b : Nat) (T : TypeId) (L : Ln) (s : Value) : Prop := w.heap[b]? = some (.cells (lnA L s) T (0, 0))
section
variable {w w' : World} {b : Nat} {T : TypeId} {L : Ln} {s : Value}
theorem LB.c0 (h : LB w b T L s) : w.cell? ⟨b, 0, none⟩ = some (.int .i64 L.id) := by rw [cell_of_row w b 0 _ _ _ h]; rfl
theorem LB.c1 (h : LB w b T L s) : w.cell? ⟨b, 1, none⟩ = some (.int .i64 L.st) := by rw [cell_of_row w b 1 _ _ _ h]; rfl
theorem LB.c2 (h : LB w b T L s) : w.cell? ⟨b, 2, none⟩ = some (.int .i64 L.be) := by rw [cell_of_row w b 2 _ _ _ h]; rfl
theorem LB.c3 (h : LB w b T L s) : w.cell? ⟨b, 3, none⟩ = some (.int .i64 L.out) := by rw [cell_of_row w b 3 _ _ _ h]; rfl
theorem LB.c4 (h : LB w b T L s) : w.cell? ⟨b, 4, none⟩ = some (.int .i64 L.rt) := by rw [cell_of_row w b 4 _ _ _ h]; rfl
theorem LB.c5 (h : LB w b T L s) : w.cell? ⟨b, 5, none⟩ = some (.int .i64 L.gr) := by rw [cell_of_row w b 5 _ _ _ h]; rfl
theorem LB.c6 (h : LB w b T L s) : w.cell? ⟨b, 6, none⟩ = some (.int .i64 L.due) := by rw [cell_of_row w b 6 _ _ _ h]; rfl
theorem LB.c7 (h : LB w b T L s) : w.cell? ⟨b, 7, none⟩ = some (.int .i64 L.inc) := by rw [cell_of_row w b 7 _ _ _ h]; rfl
theorem LB.c8 (h : LB w b T L s) : w.cell? ⟨b, 8, none⟩ = some (.int .i64 L.got) := by rw [cell_of_row w b 8 _ _ _ h]; rfl
theorem LB.c9 (h : LB w b T L s) : w.cell? ⟨b, 9, none⟩ = some (.int .i64 L.adj) := by rw [cell_of_row w b 9 _ _ _ h]; rfl
theorem LB.c10 (h : LB w b T L s) : w.cell? ⟨b, 10, none⟩ = some (.int .i64 L.wri) := by rw [cell_of_row w b 10 _ _ _ h]; rfl
theorem LB.c11 (h : LB w b T L s) : w.cell? ⟨b, 11, none⟩ = some (.int .i64 L.rcv) := by rw [cell_of_row w b 11 _ _ _ h]; rfl
theorem LB.c12 (h : LB w b T L s) : w.cell? ⟨b, 12, none⟩ = some s := by rw [cell_of_row w b 12 _ _ _ h]; rfl
theorem LB.lt (h : LB w b T L s) : b < w.heap.size := (Array.getElem?_eq_some_iff.1 h).1
theorem LB.keep (h : LB w b T L s) (hb : Below w.heap.size w w') : LB w' b T L s := (hb.block b h.lt).trans h
theorem LB.alloc (h : LB w b T L s) (o : Obj) : LB (w.alloc o) b T L s := (Below.heap_alloc w o b h.lt).trans h
theorem LB.new (w : World) (T : TypeId) (L : Ln) (s : Value) : LB (w.alloc (.cells (lnA L s) T)) w.heap.size T L s := heap_alloc_new w _
end
theorem below1L (w : World) (o : Obj) : Below w.heap.size w (w.alloc o) := (Below.refl _ _).alloc (Nat.le_refl _) _
def Tells (f : Nat) (w : World) (args : Array Value) (b : Bool) : Prop := Calls (Tri Try.prog) f args w fun z w' => z = .returned (.bool b) ∧ Below w.heap.size w w'
theorem within_any (n lo hi : Int) (w : World) : Calls (Tri Try.prog) 126 #[.int .i64 n, .int .i64 lo, .int .i64 hi] w fun z w' => z = .returned (.bool (inB lo n hi)) ∧ w' = w := by
 unfold inB
 by_cases h : lo ≤ n
 ·have d : decide (lo ≤ n) = true := decide_eq_true h
  rw [d, Bool.true_and]
  by_cases h2 : n ≤ hi
  ·have d2 : decide (n ≤ hi) = true := decide_eq_true h2
   rw [d2]
   go_enter (Tri.at (by decide) Try.func126), Try.ntmps126
   go_wp2_with fail
   go_ret
   exact ⟨rfl, rfl⟩
  ·have d2 : decide (n ≤ hi) = false := decide_eq_false h2
   rw [d2]
   go_enter (Tri.at (by decide) Try.func126), Try.ntmps126
   go_wp2_with fail
   go_ret
   exact ⟨rfl, rfl⟩
 ·have d : decide (lo ≤ n) = false := decide_eq_false h
  rw [d, Bool.false_and]
  go_enter (Tri.at (by decide) Try.func126), Try.ntmps126
  go_wp2_with fail
  go_ret
  exact ⟨rfl, rfl⟩
theorem within_is {n lo hi : Int} {B : Bool} (h : inB lo n hi = B) (w : World) : Calls (Tri Try.prog) 126 #[.int .i64 n, .int .i64 lo, .int .i64 hi] w fun z w' => z = .returned (.bool B) ∧ w' = w := h ▸ within_any n lo hi w
theorem name_is {id : Int} {B : Bool} (h : inB 0 id 2147483647 = B) (w : World) : Calls (Tri Try.prog) 69 #[.int .i64 id] w fun z w' => z = .returned (.bool B) ∧ w' = w := by
 have H := hide (within_is h)
 go_enter (Tri.at (by decide) Try.func69), Try.ntmps69
 go_wp2_with fail
 refine (uh H _).mono ?_
 rintro e w1 ⟨rfl, rfl⟩
 go_wp2_with fail
 go_ret
 exact ⟨rfl, rfl⟩
def mayBeB (L : Ln) : Bool := (inB 0 L.id 2147483647) && (inB 1 L.st 4) && (inB 0 L.be 600) && (inB 1 L.out 10000000000000) && (mayB L.rt)
theorem mayBe_any (L : Ln) (s : Value) (w : World) : Tells 72 w #[.agg (lnA L s)] (mayBeB L) := by
 unfold Tells mayBeB
 have HB := hide (below1L w (.cells (lnA L s) 53))
 by_cases t0 : (inB 0 L.id 2147483647) = true
 case neg =>
  replace t0 := Bool.eq_false_iff.2 t0
  rw [t0]
  have H0 := hide (name_is t0)
  clear t0
  go_enter (Tri.at (by decide) Try.func72), Try.ntmps72
  go_wp2_with fail
  refine (uh H0 _).mono ?_
  rintro e w1 ⟨rfl, rfl⟩
  go_wp2_with fail
  go_ret
  exact ⟨rfl, uh HB⟩
 by_cases t1 : (inB 1 L.st 4) = true
 case neg =>
  replace t1 := Bool.eq_false_iff.2 t1
  rw [t0, t1]
  have H0 := hide (name_is t0)
  have H1 := hide (within_is t1)
  clear t0 t1
  go_enter (Tri.at (by decide) Try.func72), Try.ntmps72
  go_wp2_with fail
  refine (uh H0 _).mono ?_
  rintro e w1 ⟨rfl, rfl⟩
  go_wp2_with fail
  refine (uh H1 _).mono ?_
  rintro e w1 ⟨rfl, rfl⟩
  go_wp2_with fail
  go_ret
  exact ⟨rfl, uh HB⟩
 by_cases t2 : (inB 0 L.be 600) = true
 case neg =>
  replace t2 := Bool.eq_false_iff.2 t2
  rw [t0, t1, t2]
  have H0 := hide (name_is t0)
  have H1 := hide (within_is t1)
  have H2 := hide (within_is t2)
  clear t0 t1 t2
  go_enter (Tri.at (by decide) Try.func72), Try.ntmps72
  go_wp2_with fail
  refine (uh H0 _).mono ?_
  rintro e w1 ⟨rfl, rfl⟩
  go_wp2_with fail
  refine (uh H1 _).mono ?_
  rintro e w1 ⟨rfl, rfl⟩
  go_wp2_with fail
  refine (uh H2 _).mono ?_
  rintro e w1 ⟨rfl, rfl⟩
  go_wp2_with fail
  go_ret
  exact ⟨rfl, uh HB⟩
 by_cases t3 : (inB 1 L.out 10000000000000) = true
 case neg =>
  replace t3 := Bool.eq_false_iff.2 t3
  rw [t0, t1, t2, t3]
  have H0 := hide (name_is t0)
  have H1 := hide (within_is t1)
  have H2 := hide (within_is t2)
  have H3 := hide (within_is t3)
  clear t0 t1 t2 t3
  go_enter (Tri.at (by decide) Try.func72), Try.ntmps72
  go_wp2_with fail
  refine (uh H0 _).mono ?_
  rintro e w1 ⟨rfl, rfl⟩
  go_wp2_with fail
  refine (uh H1 _).mono ?_
  rintro e w1 ⟨rfl, rfl⟩
  go_wp2_with fail
  refine (uh H2 _).mono ?_
  rintro e w1 ⟨rfl, rfl⟩
  go_wp2_with fail
  refine (uh H3 _).mono ?_
  rintro e w1 ⟨rfl, rfl⟩
  go_wp2_with fail
  go_ret
  exact ⟨rfl, uh HB⟩
 by_cases t4 : (mayB L.rt) = true
 case neg =>
  replace t4 := Bool.eq_false_iff.2 t4
  rw [t0, t1, t2, t3, t4]
  have H0 := hide (name_is t0)
  have H1 := hide (within_is t1)
  have H2 := hide (within_is t2)
  have H3 := hide (within_is t3)
  have H4 := hide (rate_no t4)
  clear t0 t1 t2 t3 t4
  go_enter (Tri.at (by decide) Try.func72), Try.ntmps72
  go_wp2_with fail
  refine (uh H0 _).mono ?_
  rintro e w1 ⟨rfl, rfl⟩
  go_wp2_with fail
  refine (uh H1 _).mono ?_
  rintro e w1 ⟨rfl, rfl⟩
  go_wp2_with fail
  refine (uh H2 _).mono ?_
  rintro e w1 ⟨rfl, rfl⟩
  go_wp2_with fail
  refine (uh H3 _).mono ?_
  rintro e w1 ⟨rfl, rfl⟩
  go_wp2_with fail
  refine (uh H4 _).mono ?_
  rintro e w1 ⟨rfl, rfl⟩
  go_wp2_with fail
  go_ret
  exact ⟨rfl, uh HB⟩
 rw [t0, t1, t2, t3, t4]
 have H0 := hide (name_is t0)
 have H1 := hide (within_is t1)
 have H2 := hide (within_is t2)
 have H3 := hide (within_is t3)
 have H4 := hide (rate_yes t4)
 clear t0 t1 t2 t3 t4
 go_enter (Tri.at (by decide) Try.func72), Try.ntmps72
 go_wp2_with fail
 refine (uh H0 _).mono ?_
 rintro e w1 ⟨rfl, rfl⟩
 go_wp2_with fail
 refine (uh H1 _).mono ?_
 rintro e w1 ⟨rfl, rfl⟩
 go_wp2_with fail
 refine (uh H2 _).mono ?_
 rintro e w1 ⟨rfl, rfl⟩
 go_wp2_with fail
 refine (uh H3 _).mono ?_
 rintro e w1 ⟨rfl, rfl⟩
 go_wp2_with fail
 refine (uh H4 _).mono ?_
 rintro e w1 ⟨rfl, rfl⟩
 go_wp2_with fail
 go_ret
 exact ⟨rfl, uh HB⟩
def amtL (l : List Int) : Bool := decide (l.length ≤ 600) && l.all (fun x => inB 0 x 10000000000000)
def sumB (L : Ln) : Bool := (inB 0 L.gr 1125899906842624 && inB 0 L.got 1125899906842624 && inB 0 L.wri 1125899906842624 && inB 0 L.rcv 1125899906842624) && (inB (-1125899906842624) L.due 1125899906842624 && inB (-1125899906842624) L.inc 1125899906842624 && inB (-1125899906842624) L.adj 1125899906842624)
def endB (L : Ln) (l : List Int) : Bool := decide (L.st = 1) || (decide (L.gr = 0) && (decide (L.due = 0) && decide (l.length = 0)))
def rightB (L : Ln) (l : List Int) : Bool := mayBeB L && (amtL l && (sumB L && (endB L l && decide (L.gr = L.out + L.inc + L.adj - L.got - L.wri))))
theorem come_long (a : Option Addr) (len cap : Nat) (w : World) (h : 600 < len) : Calls (Tri Try.prog) 73 #[.slice a len cap] w fun z w' => z = .returned (.bool false) ∧ w' = w := by
 have d : decide ((600 : Int) < (len : Int)) = true := decide_eq_true (by omega)
 go_enter (Tri.at (by decide) Try.func73), Try.ntmps73
 go_wp2_with fail
 go_ret
 exact ⟨rfl, rfl⟩
theorem come_row (b off cap len : Nat) (l : List Int) (e : Bool) (w : World) (hl : ¬ 600 < len) (hc : ∀ j, j < len → w.cell? ⟨b, off + j, none⟩ = some (.int .i64 (l.getD j 0)))
  (he : (e = false ∧ ∃ j, j < len ∧ inB 0 (l.getD j 0) 10000000000000 = false) ∨ (e = true ∧ ∀ j, j < len → inB 0 (l.getD j 0) 10000000000000 = true)) : Calls (Tri Try.prog) 73 #[.slice (some ⟨b, off, none⟩) len cap] w fun z w' => z = .returned (.bool e) ∧ w' = w := by
 have HC := hide hc
 have HE := hide he
 clear hc he
 have HW : Hid (∀ (n : Int) (B : Bool) (w : World), inB 0 n 10000000000000 = B → Calls (Tri Try.prog) 126 #[.int .i64 n, .int .i64 0, .int .i64 10000000000000] w fun z w' => z = .returned (.bool B) ∧ w' = w) := hide (fun n B w h => within_is h w)
 have d3 : decide ((600 : Int) < (len : Int)) = false := decide_eq_false (by omega)
 go_enter (Tri.at (by decide) Try.func73), Try.ntmps73
 go_wp2_with fail
 go_loop [10] (fun i => ∃ (k : Nat), k ≤ len ∧ i = .int .i64 k ∧ Hid (∀ j, j < k → inB 0 (l.getD j 0) 10000000000000 = true)) (fun i => len - (intOf i).toNat)
 case atStart => exact ⟨0, Nat.zero_le _, rfl, hide (fun j hj => absurd hj (Nat.not_lt_zero j))⟩
 case round =>
  obtain ⟨k, hk, rfl, HP⟩ := hrel
  by_cases hlt : k < len
  ·have d0 := uh HC k hlt
   have k1 : (k : Int) < (len : Int) := by omega
   have HK := hide (fun (h : ∀ j, j < k + 1 → inB 0 (l.getD j 0) 10000000000000 = true) => h)
   have HN : Hid (inB 0 (l.getD k 0) 10000000000000 = false → e = false) := hide (fun h => by
    rcases uh HE with ⟨e1, _⟩ | ⟨_, e2⟩
    ·exact e1
    ·rw [e2 k hlt] at h; cases h)
   have HS : Hid (inB 0 (l.getD k 0) 10000000000000 = true → ∀ j, j < k + 1 → inB 0 (l.getD j 0) 10000000000000 = true) := hide (fun h j hj => by
    rcases Nat.lt_or_ge j k with h2 | h2
    ·exact uh HP j h2
    ·rw [show j = k by omega]; exact h)
   generalize l.getD k 0 = x at d0 HN HS
   by_cases hx : inB 0 x 10000000000000 = true
   ·have HX := hide (uh HW x true)
    have HS2 := hide (uh HS hx)
    have H1 : Hid (∀ w, Calls (Tri Try.prog) 126 #[.int .i64 x, .int .i64 0, .int .i64 10000000000000] w fun z w' => z = .returned (.bool true) ∧ w' = w) := hide (fun w => uh HX w hx)
    clear hx HX HN HS
    go_wp2_with fail
    refine (uh H1 _).mono ?_
    rintro e1 w1 ⟨rfl, rfl⟩
    go_wp2_with fail
    go_round
    case rel => exact ⟨k + 1, by omega, by go_num, HS2⟩
    case measure => simp [intOf]; omega
   ·have hx := Bool.eq_false_iff.2 hx
    have HX := hide (uh HW x false)
    have H1 : Hid (∀ w, Calls (Tri Try.prog) 126 #[.int .i64 x, .int .i64 0, .int .i64 10000000000000] w fun z w' => z = .returned (.bool false) ∧ w' = w) := hide (fun w => uh HX w hx)
    obtain rfl := uh HN hx
    clear hx HX HN HS
    go_wp2_with fail
    refine (uh H1 _).mono ?_
    rintro e1 w1 ⟨rfl, rfl⟩
    go_wp2_with fail
    go_ret
    exact ⟨rfl, rfl⟩
  ·have ek : k = len := by omega
   subst ek
   have e1 : e = true := by
    rcases uh HE with ⟨_, j, hj, h⟩ | ⟨h, _⟩
    ·rw [uh HP j hj] at h; cases h
    ·exact h
   subst e1
   clear HE HP HC
   go_wp2_with fail
   go_ret
   exact ⟨rfl, rfl⟩
theorem sum_0 (L : Ln) (s : Value) (w : World) (t0 : inB 0 L.gr 1125899906842624 = false) : Tells 74 w #[.agg (lnA L s)] false := by
 unfold Tells
 have HB := hide (below1L w (.cells (lnA L s) 53))
 have x138_0 : ∀ w : World, (Instr.index 158 (.agg #[.int .i64 L.gr, .int .i64 L.got, .int .i64 L.wri, .int .i64 L.rcv]) (.int .i64 0)).run (Tri Try.prog) w = .ok (.int .i64 L.gr) w := fun w => by kernel_rfl
 have x138_1 : ∀ w : World, (Instr.index 158 (.agg #[.int .i64 L.gr, .int .i64 L.got, .int .i64 L.wri, .int .i64 L.rcv]) (.int .i64 1)).run (Tri Try.prog) w = .ok (.int .i64 L.got) w := fun w => by kernel_rfl
 have x138_2 : ∀ w : World, (Instr.index 158 (.agg #[.int .i64 L.gr, .int .i64 L.got, .int .i64 L.wri, .int .i64 L.rcv]) (.int .i64 2)).run (Tri Try.prog) w = .ok (.int .i64 L.wri) w := fun w => by kernel_rfl
 have x138_3 : ∀ w : World, (Instr.index 158 (.agg #[.int .i64 L.gr, .int .i64 L.got, .int .i64 L.wri, .int .i64 L.rcv]) (.int .i64 3)).run (Tri Try.prog) w = .ok (.int .i64 L.rcv) w := fun w => by kernel_rfl
 have x139_0 : ∀ w : World, (Instr.index 159 (.agg #[.int .i64 L.due, .int .i64 L.inc, .int .i64 L.adj]) (.int .i64 0)).run (Tri Try.prog) w = .ok (.int .i64 L.due) w := fun w => by kernel_rfl
 have x139_1 : ∀ w : World, (Instr.index 159 (.agg #[.int .i64 L.due, .int .i64 L.inc, .int .i64 L.adj]) (.int .i64 1)).run (Tri Try.prog) w = .ok (.int .i64 L.inc) w := fun w => by kernel_rfl
 have x139_2 : ∀ w : World, (Instr.index 159 (.agg #[.int .i64 L.due, .int .i64 L.inc, .int .i64 L.adj]) (.int .i64 2)).run (Tri Try.prog) w = .ok (.int .i64 L.adj) w := fun w => by kernel_rfl
 have H0 := hide (within_is t0)
 clear t0
 go_enter (Tri.at (by decide) Try.func74), Try.ntmps74
 go_wp2_with fail
 refine wp_loop_rounds 5 ?_
 rw [rounds_succ]
 go_wp2_with fail
 refine (uh H0 _).mono ?_
 rintro e w1 ⟨rfl, rfl⟩
 go_wp2_with fail
 go_ret
 exact ⟨rfl, uh HB⟩
theorem sum_1 (L : Ln) (s : Value) (w : World) (t0 : inB 0 L.gr 1125899906842624 = true) (t1 : inB 0 L.got 1125899906842624 = false) : Tells 74 w #[.agg (lnA L s)] false := by
 unfold Tells
 have HB := hide (below1L w (.cells (lnA L s) 53))
 have x138_0 : ∀ w : World, (Instr.index 158 (.agg #[.int .i64 L.gr, .int .i64 L.got, .int .i64 L.wri, .int .i64 L.rcv]) (.int .i64 0)).run (Tri Try.prog) w = .ok (.int .i64 L.gr) w := fun w => by kernel_rfl
 have x138_1 : ∀ w : World, (Instr.index 158 (.agg #[.int .i64 L.gr, .int .i64 L.got, .int .i64 L.wri, .int .i64 L.rcv]) (.int .i64 1)).run (Tri Try.prog) w = .ok (.int .i64 L.got) w := fun w => by kernel_rfl
 have x138_2 : ∀ w : World, (Instr.index 158 (.agg #[.int .i64 L.gr, .int .i64 L.got, .int .i64 L.wri, .int .i64 L.rcv]) (.int .i64 2)).run (Tri Try.prog) w = .ok (.int .i64 L.wri) w := fun w => by kernel_rfl
 have x138_3 : ∀ w : World, (Instr.index 158 (.agg #[.int .i64 L.gr, .int .i64 L.got, .int .i64 L.wri, .int .i64 L.rcv]) (.int .i64 3)).run (Tri Try.prog) w = .ok (.int .i64 L.rcv) w := fun w => by kernel_rfl
 have x139_0 : ∀ w : World, (Instr.index 159 (.agg #[.int .i64 L.due, .int .i64 L.inc, .int .i64 L.adj]) (.int .i64 0)).run (Tri Try.prog) w = .ok (.int .i64 L.due) w := fun w => by kernel_rfl
 have x139_1 : ∀ w : World, (Instr.index 159 (.agg #[.int .i64 L.due, .int .i64 L.inc, .int .i64 L.adj]) (.int .i64 1)).run (Tri Try.prog) w = .ok (.int .i64 L.inc) w := fun w => by kernel_rfl
 have x139_2 : ∀ w : World, (Instr.index 159 (.agg #[.int .i64 L.due, .int .i64 L.inc, .int .i64 L.adj]) (.int .i64 2)).run (Tri Try.prog) w = .ok (.int .i64 L.adj) w := fun w => by kernel_rfl
 have H0 := hide (within_is t0)
 have H1 := hide (within_is t1)
 clear t0 t1
 go_enter (Tri.at (by decide) Try.func74), Try.ntmps74
 go_wp2_with fail
 refine wp_loop_rounds 5 ?_
 rw [rounds_succ]
 go_wp2_with fail
 refine (uh H0 _).mono ?_
 rintro e w1 ⟨rfl, rfl⟩
 go_wp2_with fail
 rw [rounds_succ]
 go_wp2_with fail
 refine (uh H1 _).mono ?_
 rintro e w1 ⟨rfl, rfl⟩
 go_wp2_with fail
 go_ret
 exact ⟨rfl, uh HB⟩
theorem sum_2 (L : Ln) (s : Value) (w : World) (t0 : inB 0 L.gr 1125899906842624 = true) (t1 : inB 0 L.got 1125899906842624 = true) (t2 : inB 0 L.wri 1125899906842624 = false) : Tells 74 w #[.agg (lnA L s)] false := by
 unfold Tells
 have HB := hide (below1L w (.cells (lnA L s) 53))
 have x138_0 : ∀ w : World, (Instr.index 158 (.agg #[.int .i64 L.gr, .int .i64 L.got, .int .i64 L.wri, .int .i64 L.rcv]) (.int .i64 0)).run (Tri Try.prog) w = .ok (.int .i64 L.gr) w := fun w => by kernel_rfl
 have x138_1 : ∀ w : World, (Instr.index 158 (.agg #[.int .i64 L.gr, .int .i64 L.got, .int .i64 L.wri, .int .i64 L.rcv]) (.int .i64 1)).run (Tri Try.prog) w = .ok (.int .i64 L.got) w := fun w => by kernel_rfl
 have x138_2 : ∀ w : World, (Instr.index 158 (.agg #[.int .i64 L.gr, .int .i64 L.got, .int .i64 L.wri, .int .i64 L.rcv]) (.int .i64 2)).run (Tri Try.prog) w = .ok (.int .i64 L.wri) w := fun w => by kernel_rfl
 have x138_3 : ∀ w : World, (Instr.index 158 (.agg #[.int .i64 L.gr, .int .i64 L.got, .int .i64 L.wri, .int .i64 L.rcv]) (.int .i64 3)).run (Tri Try.prog) w = .ok (.int .i64 L.rcv) w := fun w => by kernel_rfl
 have x139_0 : ∀ w : World, (Instr.index 159 (.agg #[.int .i64 L.due, .int .i64 L.inc, .int .i64 L.adj]) (.int .i64 0)).run (Tri Try.prog) w = .ok (.int .i64 L.due) w := fun w => by kernel_rfl
 have x139_1 : ∀ w : World, (Instr.index 159 (.agg #[.int .i64 L.due, .int .i64 L.inc, .int .i64 L.adj]) (.int .i64 1)).run (Tri Try.prog) w = .ok (.int .i64 L.inc) w := fun w => by kernel_rfl
 have x139_2 : ∀ w : World, (Instr.index 159 (.agg #[.int .i64 L.due, .int .i64 L.inc, .int .i64 L.adj]) (.int .i64 2)).run (Tri Try.prog) w = .ok (.int .i64 L.adj) w := fun w => by kernel_rfl
 have H0 := hide (within_is t0)
 have H1 := hide (within_is t1)
 have H2 := hide (within_is t2)
 clear t0 t1 t2
 go_enter (Tri.at (by decide) Try.func74), Try.ntmps74
 go_wp2_with fail
 refine wp_loop_rounds 5 ?_
 rw [rounds_succ]
 go_wp2_with fail
 refine (uh H0 _).mono ?_
 rintro e w1 ⟨rfl, rfl⟩
 go_wp2_with fail
 rw [rounds_succ]
 go_wp2_with fail
 refine (uh H1 _).mono ?_
 rintro e w1 ⟨rfl, rfl⟩
 go_wp2_with fail
 rw [rounds_succ]
 go_wp2_with fail
 refine (uh H2 _).mono ?_
 rintro e w1 ⟨rfl, rfl⟩
 go_wp2_with fail
 go_ret
 exact ⟨rfl, uh HB⟩
theorem sum_3 (L : Ln) (s : Value) (w : World) (t0 : inB 0 L.gr 1125899906842624 = true) (t1 : inB 0 L.got 1125899906842624 = true) (t2 : inB 0 L.wri 1125899906842624 = true) (t3 : inB 0 L.rcv 1125899906842624 = false) : Tells 74 w #[.agg (lnA L s)] false := by
 unfold Tells
 have HB := hide (below1L w (.cells (lnA L s) 53))
 have x138_0 : ∀ w : World, (Instr.index 158 (.agg #[.int .i64 L.gr, .int .i64 L.got, .int .i64 L.wri, .int .i64 L.rcv]) (.int .i64 0)).run (Tri Try.prog) w = .ok (.int .i64 L.gr) w := fun w => by kernel_rfl
 have x138_1 : ∀ w : World, (Instr.index 158 (.agg #[.int .i64 L.gr, .int .i64 L.got, .int .i64 L.wri, .int .i64 L.rcv]) (.int .i64 1)).run (Tri Try.prog) w = .ok (.int .i64 L.got) w := fun w => by kernel_rfl
 have x138_2 : ∀ w : World, (Instr.index 158 (.agg #[.int .i64 L.gr, .int .i64 L.got, .int .i64 L.wri, .int .i64 L.rcv]) (.int .i64 2)).run (Tri Try.prog) w = .ok (.int .i64 L.wri) w := fun w => by kernel_rfl
 have x138_3 : ∀ w : World, (Instr.index 158 (.agg #[.int .i64 L.gr, .int .i64 L.got, .int .i64 L.wri, .int .i64 L.rcv]) (.int .i64 3)).run (Tri Try.prog) w = .ok (.int .i64 L.rcv) w := fun w => by kernel_rfl
 have x139_0 : ∀ w : World, (Instr.index 159 (.agg #[.int .i64 L.due, .int .i64 L.inc, .int .i64 L.adj]) (.int .i64 0)).run (Tri Try.prog) w = .ok (.int .i64 L.due) w := fun w => by kernel_rfl
 have x139_1 : ∀ w : World, (Instr.index 159 (.agg #[.int .i64 L.due, .int .i64 L.inc, .int .i64 L.adj]) (.int .i64 1)).run (Tri Try.prog) w = .ok (.int .i64 L.inc) w := fun w => by kernel_rfl
 have x139_2 : ∀ w : World, (Instr.index 159 (.agg #[.int .i64 L.due, .int .i64 L.inc, .int .i64 L.adj]) (.int .i64 2)).run (Tri Try.prog) w = .ok (.int .i64 L.adj) w := fun w => by kernel_rfl
 have H0 := hide (within_is t0)
 have H1 := hide (within_is t1)
 have H2 := hide (within_is t2)
 have H3 := hide (within_is t3)
 clear t0 t1 t2 t3
 go_enter (Tri.at (by decide) Try.func74), Try.ntmps74
 go_wp2_with fail
 refine wp_loop_rounds 5 ?_
 rw [rounds_succ]
 go_wp2_with fail
 refine (uh H0 _).mono ?_
 rintro e w1 ⟨rfl, rfl⟩
 go_wp2_with fail
 rw [rounds_succ]
 go_wp2_with fail
 refine (uh H1 _).mono ?_
 rintro e w1 ⟨rfl, rfl⟩
 go_wp2_with fail
 rw [rounds_succ]
 go_wp2_with fail
 refine (uh H2 _).mono ?_
 rintro e w1 ⟨rfl, rfl⟩
 go_wp2_with fail
 rw [rounds_succ]
 go_wp2_with fail
 refine (uh H3 _).mono ?_
 rintro e w1 ⟨rfl, rfl⟩
 go_wp2_with fail
 go_ret
 exact ⟨rfl, uh HB⟩
theorem sum_4 (L : Ln) (s : Value) (w : World) (t0 : inB 0 L.gr 1125899906842624 = true) (t1 : inB 0 L.got 1125899906842624 = true) (t2 : inB 0 L.wri 1125899906842624 = true) (t3 : inB 0 L.rcv 1125899906842624 = true) (t4 : inB (-1125899906842624) L.due 1125899906842624 = false) : Tells 74 w #[.agg (lnA L s)] false := by
 unfold Tells
 have HB := hide (below1L w (.cells (lnA L s) 53))
 have x138_0 : ∀ w : World, (Instr.index 158 (.agg #[.int .i64 L.gr, .int .i64 L.got, .int .i64 L.wri, .int .i64 L.rcv]) (.int .i64 0)).run (Tri Try.prog) w = .ok (.int .i64 L.gr) w := fun w => by kernel_rfl
 have x138_1 : ∀ w : World, (Instr.index 158 (.agg #[.int .i64 L.gr, .int .i64 L.got, .int .i64 L.wri, .int .i64 L.rcv]) (.int .i64 1)).run (Tri Try.prog) w = .ok (.int .i64 L.got) w := fun w => by kernel_rfl
 have x138_2 : ∀ w : World, (Instr.index 158 (.agg #[.int .i64 L.gr, .int .i64 L.got, .int .i64 L.wri, .int .i64 L.rcv]) (.int .i64 2)).run (Tri Try.prog) w = .ok (.int .i64 L.wri) w := fun w => by kernel_rfl
 have x138_3 : ∀ w : World, (Instr.index 158 (.agg #[.int .i64 L.gr, .int .i64 L.got, .int .i64 L.wri, .int .i64 L.rcv]) (.int .i64 3)).run (Tri Try.prog) w = .ok (.int .i64 L.rcv) w := fun w => by kernel_rfl
 have x139_0 : ∀ w : World, (Instr.index 159 (.agg #[.int .i64 L.due, .int .i64 L.inc, .int .i64 L.adj]) (.int .i64 0)).run (Tri Try.prog) w = .ok (.int .i64 L.due) w := fun w => by kernel_rfl
 have x139_1 : ∀ w : World, (Instr.index 159 (.agg #[.int .i64 L.due, .int .i64 L.inc, .int .i64 L.adj]) (.int .i64 1)).run (Tri Try.prog) w = .ok (.int .i64 L.inc) w := fun w => by kernel_rfl
 have x139_2 : ∀ w : World, (Instr.index 159 (.agg #[.int .i64 L.due, .int .i64 L.inc, .int .i64 L.adj]) (.int .i64 2)).run (Tri Try.prog) w = .ok (.int .i64 L.adj) w := fun w => by kernel_rfl
 have H0 := hide (within_is t0)
 have H1 := hide (within_is t1)
 have H2 := hide (within_is t2)
 have H3 := hide (within_is t3)
 have H4 := hide (within_is t4)
 clear t0 t1 t2 t3 t4
 go_enter (Tri.at (by decide) Try.func74), Try.ntmps74
 go_wp2_with fail
 refine wp_loop_rounds 5 ?_
 rw [rounds_succ]
 go_wp2_with fail
 refine (uh H0 _).mono ?_
 rintro e w1 ⟨rfl, rfl⟩
 go_wp2_with fail
 rw [rounds_succ]
 go_wp2_with fail
 refine (uh H1 _).mono ?_
 rintro e w1 ⟨rfl, rfl⟩
 go_wp2_with fail
 rw [rounds_succ]
 go_wp2_with fail
 refine (uh H2 _).mono ?_
 rintro e w1 ⟨rfl, rfl⟩
 go_wp2_with fail
 rw [rounds_succ]
 go_wp2_with fail
 refine (uh H3 _).mono ?_
 rintro e w1 ⟨rfl, rfl⟩
 go_wp2_with fail
 rw [rounds_succ]
 go_wp2_with fail
 refine wp_loop_rounds 4 ?_
 rw [rounds_succ]
 go_wp2_with fail
 refine (uh H4 _).mono ?_
 rintro e w1 ⟨rfl, rfl⟩
 go_wp2_with fail
 go_ret
 exact ⟨rfl, uh HB⟩
theorem sum_5 (L : Ln) (s : Value) (w : World) (t0 : inB 0 L.gr 1125899906842624 = true) (t1 : inB 0 L.got 1125899906842624 = true) (t2 : inB 0 L.wri 1125899906842624 = true) (t3 : inB 0 L.rcv 1125899906842624 = true) (t4 : inB (-1125899906842624) L.due 1125899906842624 = true) (t5 : inB (-1125899906842624) L.inc 1125899906842624 = false) : Tells 74 w #[.agg (lnA L s)] false := by
 unfold Tells
 have HB := hide (below1L w (.cells (lnA L s) 53))
 have x138_0 : ∀ w : World, (Instr.index 158 (.agg #[.int .i64 L.gr, .int .i64 L.got, .int .i64 L.wri, .int .i64 L.rcv]) (.int .i64 0)).run (Tri Try.prog) w = .ok (.int .i64 L.gr) w := fun w => by kernel_rfl
 have x138_1 : ∀ w : World, (Instr.index 158 (.agg #[.int .i64 L.gr, .int .i64 L.got, .int .i64 L.wri, .int .i64 L.rcv]) (.int .i64 1)).run (Tri Try.prog) w = .ok (.int .i64 L.got) w := fun w => by kernel_rfl
 have x138_2 : ∀ w : World, (Instr.index 158 (.agg #[.int .i64 L.gr, .int .i64 L.got, .int .i64 L.wri, .int .i64 L.rcv]) (.int .i64 2)).run (Tri Try.prog) w = .ok (.int .i64 L.wri) w := fun w => by kernel_rfl
 have x138_3 : ∀ w : World, (Instr.index 158 (.agg #[.int .i64 L.gr, .int .i64 L.got, .int .i64 L.wri, .int .i64 L.rcv]) (.int .i64 3)).run (Tri Try.prog) w = .ok (.int .i64 L.rcv) w := fun w => by kernel_rfl
 have x139_0 : ∀ w : World, (Instr.index 159 (.agg #[.int .i64 L.due, .int .i64 L.inc, .int .i64 L.adj]) (.int .i64 0)).run (Tri Try.prog) w = .ok (.int .i64 L.due) w := fun w => by kernel_rfl
 have x139_1 : ∀ w : World, (Instr.index 159 (.agg #[.int .i64 L.due, .int .i64 L.inc, .int .i64 L.adj]) (.int .i64 1)).run (Tri Try.prog) w = .ok (.int .i64 L.inc) w := fun w => by kernel_rfl
 have x139_2 : ∀ w : World, (Instr.index 159 (.agg #[.int .i64 L.due, .int .i64 L.inc, .int .i64 L.adj]) (.int .i64 2)).run (Tri Try.prog) w = .ok (.int .i64 L.adj) w := fun w => by kernel_rfl
 have H0 := hide (within_is t0)
 have H1 := hide (within_is t1)
 have H2 := hide (within_is t2)
 have H3 := hide (within_is t3)
 have H4 := hide (within_is t4)
 have H5 := hide (within_is t5)
 clear t0 t1 t2 t3 t4 t5
 go_enter (Tri.at (by decide) Try.func74), Try.ntmps74
 go_wp2_with fail
 refine wp_loop_rounds 5 ?_
 rw [rounds_succ]
 go_wp2_with fail
 refine (uh H0 _).mono ?_
 rintro e w1 ⟨rfl, rfl⟩
 go_wp2_with fail
 rw [rounds_succ]
 go_wp2_with fail
 refine (uh H1 _).mono ?_
 rintro e w1 ⟨rfl, rfl⟩
 go_wp2_with fail
 rw [rounds_succ]
 go_wp2_with fail
 refine (uh H2 _).mono ?_
 rintro e w1 ⟨rfl, rfl⟩
 go_wp2_with fail
 rw [rounds_succ]
 go_wp2_with fail
 refine (uh H3 _).mono ?_
 rintro e w1 ⟨rfl, rfl⟩
 go_wp2_with fail
 rw [rounds_succ]
 go_wp2_with fail
 refine wp_loop_rounds 4 ?_
 rw [rounds_succ]
 go_wp2_with fail
 refine (uh H4 _).mono ?_
 rintro e w1 ⟨rfl, rfl⟩
 go_wp2_with fail
 rw [rounds_succ]
 go_wp2_with fail
 refine (uh H5 _).mono ?_
 rintro e w1 ⟨rfl, rfl⟩
 go_wp2_with fail
 go_ret
 exact ⟨rfl, uh HB⟩
theorem sum_6 (L : Ln) (s : Value) (w : World) (t0 : inB 0 L.gr 1125899906842624 = true) (t1 : inB 0 L.got 1125899906842624 = true) (t2 : inB 0 L.wri 1125899906842624 = true) (t3 : inB 0 L.rcv 1125899906842624 = true) (t4 : inB (-1125899906842624) L.due 1125899906842624 = true) (t5 : inB (-1125899906842624) L.inc 1125899906842624 = true) (t6 : inB (-1125899906842624) L.adj 1125899906842624 = false) : Tells 74 w #[.agg (lnA L s)] false := by
 unfold Tells
 have HB := hide (below1L w (.cells (lnA L s) 53))
 have x138_0 : ∀ w : World, (Instr.index 158 (.agg #[.int .i64 L.gr, .int .i64 L.got, .int .i64 L.wri, .int .i64 L.rcv]) (.int .i64 0)).run (Tri Try.prog) w = .ok (.int .i64 L.gr) w := fun w => by kernel_rfl
 have x138_1 : ∀ w : World, (Instr.index 158 (.agg #[.int .i64 L.gr, .int .i64 L.got, .int .i64 L.wri, .int .i64 L.rcv]) (.int .i64 1)).run (Tri Try.prog) w = .ok (.int .i64 L.got) w := fun w => by kernel_rfl
 have x138_2 : ∀ w : World, (Instr.index 158 (.agg #[.int .i64 L.gr, .int .i64 L.got, .int .i64 L.wri, .int .i64 L.rcv]) (.int .i64 2)).run (Tri Try.prog) w = .ok (.int .i64 L.wri) w := fun w => by kernel_rfl
 have x138_3 : ∀ w : World, (Instr.index 158 (.agg #[.int .i64 L.gr, .int .i64 L.got, .int .i64 L.wri, .int .i64 L.rcv]) (.int .i64 3)).run (Tri Try.prog) w = .ok (.int .i64 L.rcv) w := fun w => by kernel_rfl
 have x139_0 : ∀ w : World, (Instr.index 159 (.agg #[.int .i64 L.due, .int .i64 L.inc, .int .i64 L.adj]) (.int .i64 0)).run (Tri Try.prog) w = .ok (.int .i64 L.due) w := fun w => by kernel_rfl
 have x139_1 : ∀ w : World, (Instr.index 159 (.agg #[.int .i64 L.due, .int .i64 L.inc, .int .i64 L.adj]) (.int .i64 1)).run (Tri Try.prog) w = .ok (.int .i64 L.inc) w := fun w => by kernel_rfl
 have x139_2 : ∀ w : World, (Instr.index 159 (.agg #[.int .i64 L.due, .int .i64 L.inc, .int .i64 L.adj]) (.int .i64 2)).run (Tri Try.prog) w = .ok (.int .i64 L.adj) w := fun w => by kernel_rfl
 have H0 := hide (within_is t0)
 have H1 := hide (within_is t1)
 have H2 := hide (within_is t2)
 have H3 := hide (within_is t3)
 have H4 := hide (within_is t4)
 have H5 := hide (within_is t5)
 have H6 := hide (within_is t6)
 clear t0 t1 t2 t3 t4 t5 t6
 go_enter (Tri.at (by decide) Try.func74), Try.ntmps74
 go_wp2_with fail
 refine wp_loop_rounds 5 ?_
 rw [rounds_succ]
 go_wp2_with fail
 refine (uh H0 _).mono ?_
 rintro e w1 ⟨rfl, rfl⟩
 go_wp2_with fail
 rw [rounds_succ]
 go_wp2_with fail
 refine (uh H1 _).mono ?_
 rintro e w1 ⟨rfl, rfl⟩
 go_wp2_with fail
 rw [rounds_succ]
 go_wp2_with fail
 refine (uh H2 _).mono ?_
 rintro e w1 ⟨rfl, rfl⟩
 go_wp2_with fail
 rw [rounds_succ]
 go_wp2_with fail
 refine (uh H3 _).mono ?_
 rintro e w1 ⟨rfl, rfl⟩
 go_wp2_with fail
 rw [rounds_succ]
 go_wp2_with fail
 refine wp_loop_rounds 4 ?_
 rw [rounds_succ]
 go_wp2_with fail
 refine (uh H4 _).mono ?_
 rintro e w1 ⟨rfl, rfl⟩
 go_wp2_with fail
 rw [rounds_succ]
 go_wp2_with fail
 refine (uh H5 _).mono ?_
 rintro e w1 ⟨rfl, rfl⟩
 go_wp2_with fail
 rw [rounds_succ]
 go_wp2_with fail
 refine (uh H6 _).mono ?_
 rintro e w1 ⟨rfl, rfl⟩
 go_wp2_with fail
 go_ret
 exact ⟨rfl, uh HB⟩
theorem sum_7 (L : Ln) (s : Value) (w : World) (t0 : inB 0 L.gr 1125899906842624 = true) (t1 : inB 0 L.got 1125899906842624 = true) (t2 : inB 0 L.wri 1125899906842624 = true) (t3 : inB 0 L.rcv 1125899906842624 = true) (t4 : inB (-1125899906842624) L.due 1125899906842624 = true) (t5 : inB (-1125899906842624) L.inc 1125899906842624 = true) (t6 : inB (-1125899906842624) L.adj 1125899906842624 = true) : Tells 74 w #[.agg (lnA L s)] true := by
 unfold Tells
 have HB := hide (below1L w (.cells (lnA L s) 53))
 have x138_0 : ∀ w : World, (Instr.index 158 (.agg #[.int .i64 L.gr, .int .i64 L.got, .int .i64 L.wri, .int .i64 L.rcv]) (.int .i64 0)).run (Tri Try.prog) w = .ok (.int .i64 L.gr) w := fun w => by kernel_rfl
 have x138_1 : ∀ w : World, (Instr.index 158 (.agg #[.int .i64 L.gr, .int .i64 L.got, .int .i64 L.wri, .int .i64 L.rcv]) (.int .i64 1)).run (Tri Try.prog) w = .ok (.int .i64 L.got) w := fun w => by kernel_rfl
 have x138_2 : ∀ w : World, (Instr.index 158 (.agg #[.int .i64 L.gr, .int .i64 L.got, .int .i64 L.wri, .int .i64 L.rcv]) (.int .i64 2)).run (Tri Try.prog) w = .ok (.int .i64 L.wri) w := fun w => by kernel_rfl
 have x138_3 : ∀ w : World, (Instr.index 158 (.agg #[.int .i64 L.gr, .int .i64 L.got, .int .i64 L.wri, .int .i64 L.rcv]) (.int .i64 3)).run (Tri Try.prog) w = .ok (.int .i64 L.rcv) w := fun w => by kernel_rfl
 have x139_0 : ∀ w : World, (Instr.index 159 (.agg #[.int .i64 L.due, .int .i64 L.inc, .int .i64 L.adj]) (.int .i64 0)).run (Tri Try.prog) w = .ok (.int .i64 L.due) w := fun w => by kernel_rfl
 have x139_1 : ∀ w : World, (Instr.index 159 (.agg #[.int .i64 L.due, .int .i64 L.inc, .int .i64 L.adj]) (.int .i64 1)).run (Tri Try.prog) w = .ok (.int .i64 L.inc) w := fun w => by kernel_rfl
 have x139_2 : ∀ w : World, (Instr.index 159 (.agg #[.int .i64 L.due, .int .i64 L.inc, .int .i64 L.adj]) (.int .i64 2)).run (Tri Try.prog) w = .ok (.int .i64 L.adj) w := fun w => by kernel_rfl
 have H0 := hide (within_is t0)
 have H1 := hide (within_is t1)
 have H2 := hide (within_is t2)
 have H3 := hide (within_is t3)
 have H4 := hide (within_is t4)
 have H5 := hide (within_is t5)
 have H6 := hide (within_is t6)
 clear t0 t1 t2 t3 t4 t5 t6
 go_enter (Tri.at (by decide) Try.func74), Try.ntmps74
 go_wp2_with fail
 refine wp_loop_rounds 5 ?_
 rw [rounds_succ]
 go_wp2_with fail
 refine (uh H0 _).mono ?_
 rintro e w1 ⟨rfl, rfl⟩
 go_wp2_with fail
 rw [rounds_succ]
 go_wp2_with fail
 refine (uh H1 _).mono ?_
 rintro e w1 ⟨rfl, rfl⟩
 go_wp2_with fail
 rw [rounds_succ]
 go_wp2_with fail
 refine (uh H2 _).mono ?_
 rintro e w1 ⟨rfl, rfl⟩
 go_wp2_with fail
 rw [rounds_succ]
 go_wp2_with fail
 refine (uh H3 _).mono ?_
 rintro e w1 ⟨rfl, rfl⟩
 go_wp2_with fail
 rw [rounds_succ]
 go_wp2_with fail
 refine wp_loop_rounds 4 ?_
 rw [rounds_succ]
 go_wp2_with fail
 refine (uh H4 _).mono ?_
 rintro e w1 ⟨rfl, rfl⟩
 go_wp2_with fail
 rw [rounds_succ]
 go_wp2_with fail
 refine (uh H5 _).mono ?_
 rintro e w1 ⟨rfl, rfl⟩
 go_wp2_with fail
 rw [rounds_succ]
 go_wp2_with fail
 refine (uh H6 _).mono ?_
 rintro e w1 ⟨rfl, rfl⟩
 go_wp2_with fail
 rw [rounds_succ]
 go_wp2_with fail
 go_ret
 exact ⟨rfl, uh HB⟩
theorem come_nil (a : Option Addr) (cap : Nat) (w : World) : Calls (Tri Try.prog) 73 #[.slice a 0 cap] w fun z w' => z = .returned (.bool (([] : List Int).all (fun x => inB 0 x 10000000000000))) ∧ w' = w := by
 go_enter (Tri.at (by decide) Try.func73), Try.ntmps73
 go_wp2_with fail
 refine wp_loop_rounds 1 ?_
 rw [rounds_succ]
 go_wp2_with fail
 go_ret
 exact ⟨rfl, rfl⟩
theorem sum_any (L : Ln) (s : Value) (w : World) : Tells 74 w #[.agg (lnA L s)] (sumB L) := by
 unfold sumB
 by_cases t0 : inB 0 L.gr 1125899906842624 = true
 case neg =>
  replace t0 := Bool.eq_false_iff.2 t0
  have h := sum_0 L s w t0
  simpa only [t0, Bool.true_and, Bool.and_true, Bool.false_and, Bool.and_false] using h
 by_cases t1 : inB 0 L.got 1125899906842624 = true
 case neg =>
  replace t1 := Bool.eq_false_iff.2 t1
  have h := sum_1 L s w t0 t1
  simpa only [t0, t1, Bool.true_and, Bool.and_true, Bool.false_and, Bool.and_false] using h
 by_cases t2 : inB 0 L.wri 1125899906842624 = true
 case neg =>
  replace t2 := Bool.eq_false_iff.2 t2
  have h := sum_2 L s w t0 t1 t2
  simpa only [t0, t1, t2, Bool.true_and, Bool.and_true, Bool.false_and, Bool.and_false] using h
 by_cases t3 : inB 0 L.rcv 1125899906842624 = true
 case neg =>
  replace t3 := Bool.eq_false_iff.2 t3
  have h := sum_3 L s w t0 t1 t2 t3
  simpa only [t0, t1, t2, t3, Bool.true_and, Bool.and_true, Bool.false_and, Bool.and_false] using h
 by_cases t4 : inB (-1125899906842624) L.due 1125899906842624 = true
 case neg =>
  replace t4 := Bool.eq_false_iff.2 t4
  have h := sum_4 L s w t0 t1 t2 t3 t4
  simpa only [t0, t1, t2, t3, t4, Bool.true_and, Bool.and_true, Bool.false_and, Bool.and_false] using h
 by_cases t5 : inB (-1125899906842624) L.inc 1125899906842624 = true
 case neg =>
  replace t5 := Bool.eq_false_iff.2 t5
  have h := sum_5 L s w t0 t1 t2 t3 t4 t5
  simpa only [t0, t1, t2, t3, t4, t5, Bool.true_and, Bool.and_true, Bool.false_and, Bool.and_false] using h
 by_cases t6 : inB (-1125899906842624) L.adj 1125899906842624 = true
 case neg =>
  replace t6 := Bool.eq_false_iff.2 t6
  have h := sum_6 L s w t0 t1 t2 t3 t4 t5 t6
  simpa only [t0, t1, t2, t3, t4, t5, t6, Bool.true_and, Bool.and_true, Bool.false_and, Bool.and_false] using h
 have h := sum_7 L s w t0 t1 t2 t3 t4 t5 t6
 simpa only [t0, t1, t2, t3, t4, t5, t6, Bool.true_and, Bool.and_true] using h
theorem ends_a (L : Ln) (a : Option Addr) (len cap : Nat) (w : World) (t0 : (L.st == 1) = true) : Tells 75 w #[.agg (lnA L (.slice a len cap))] true := by
 unfold Tells
 have HB := hide (below1L w (.cells (lnA L (.slice a len cap)) 53))
 go_enter (Tri.at (by decide) Try.func75), Try.ntmps75
 go_wp2_with fail
 go_ret
 exact ⟨rfl, uh HB⟩
theorem ends_b (L : Ln) (a : Option Addr) (len cap : Nat) (w : World) (t0 : (L.st == 1) = false) (t1 : (L.gr == 0) = false) : Tells 75 w #[.agg (lnA L (.slice a len cap))] false := by
 unfold Tells
 have HB := hide (below1L w (.cells (lnA L (.slice a len cap)) 53))
 go_enter (Tri.at (by decide) Try.func75), Try.ntmps75
 go_wp2_with fail
 go_ret
 exact ⟨rfl, uh HB⟩
theorem ends_c (L : Ln) (a : Option Addr) (len cap : Nat) (w : World) (t0 : (L.st == 1) = false) (t1 : (L.gr == 0) = true) (t2 : (L.due == 0) = false) : Tells 75 w #[.agg (lnA L (.slice a len cap))] false := by
 unfold Tells
 have HB := hide (below1L w (.cells (lnA L (.slice a len cap)) 53))
 go_enter (Tri.at (by decide) Try.func75), Try.ntmps75
 go_wp2_with fail
 go_ret
 exact ⟨rfl, uh HB⟩
theorem ends_d (L : Ln) (a : Option Addr) (len cap : Nat) (w : World) (t0 : (L.st == 1) = false) (t1 : (L.gr == 0) = true) (t2 : (L.due == 0) = true) (t3 : ((len : Int) == 0) = false) : Tells 75 w #[.agg (lnA L (.slice a len cap))] false := by
 unfold Tells
 have HB := hide (below1L w (.cells (lnA L (.slice a len cap)) 53))
 go_enter (Tri.at (by decide) Try.func75), Try.ntmps75
 go_wp2_with fail
 go_ret
 exact ⟨rfl, uh HB⟩
theorem ends_e (L : Ln) (a : Option Addr) (len cap : Nat) (w : World) (t0 : (L.st == 1) = false) (t1 : (L.gr == 0) = true) (t2 : (L.due == 0) = true) (t3 : ((len : Int) == 0) = true) : Tells 75 w #[.agg (lnA L (.slice a len cap))] true := by
 unfold Tells
 have HB := hide (below1L w (.cells (lnA L (.slice a len cap)) 53))
 go_enter (Tri.at (by decide) Try.func75), Try.ntmps75
 go_wp2_with fail
 go_ret
 exact ⟨rfl, uh HB⟩
theorem ends_any (L : Ln) (a : Option Addr) (cap : Nat) (l : List Int) (w : World) : Tells 75 w #[.agg (lnA L (.slice a l.length cap))] (endB L l) := by
 unfold endB
 by_cases h0 : L.st = 1
 ·rw [decide_eq_true h0, Bool.true_or]
  exact ends_a L a _ cap w (by simpa using h0)
 have t0 : (L.st == 1) = false := by simpa using h0
 rw [decide_eq_false h0, Bool.false_or]
 by_cases h1 : L.gr = 0
 case neg =>
  rw [decide_eq_false h1, Bool.false_and]
  exact ends_b L a _ cap w t0 (by simpa using h1)
 have t1 : (L.gr == 0) = true := by simpa using h1
 rw [decide_eq_true h1, Bool.true_and]
 by_cases h2 : L.due = 0
 case neg =>
  rw [decide_eq_false h2, Bool.false_and]
  exact ends_c L a _ cap w t0 t1 (by simpa using h2)
 have t2 : (L.due == 0) = true := by simpa using h2
 rw [decide_eq_true h2, Bool.true_and]
 by_cases h3 : l.length = 0
 case neg =>
  rw [decide_eq_false h3]
  exact ends_d L a _ cap w t0 t1 t2 (by simpa using h3)
 rw [decide_eq_true h3]
 exact ends_e L a _ cap w t0 t1 t2 (by simpa using h3)
theorem come_any {w : World} {v : Value} {l : List Int} (hR : Row w v l) : Calls (Tri Try.prog) 73 #[v] w fun z w' => z = .returned (.bool (amtL l)) ∧ w' = w := by
 unfold amtL
 by_cases hl : 600 < l.length
 ·obtain ⟨a, cap, rfl⟩ := row_slice hR
  rw [decide_eq_false (by omega), Bool.false_and]
  exact come_long a _ cap w hl
 rw [decide_eq_true (by omega), Bool.true_and]
 rcases hR with ⟨a, cap, rfl, rfl⟩ | ⟨rb, ro, cap, rfl, h0, _, hc, _⟩
 ·exact come_nil a cap w
 refine come_row rb ro cap _ l _ w hl hc ?_
 cases e : l.all (fun x => inB 0 x 10000000000000) with
 | true =>
  refine .inr ⟨rfl, fun j hj => ?_⟩
  have := List.all_eq_true.1 e (l[j]) (List.getElem_mem hj)
  rw [show l.getD j 0 = l[j] by simp [List.getD, hj]]
  exact this
 | false =>
  refine .inl ⟨rfl, ?_⟩
  refine Classical.byContradiction fun hn => ?_
  have : l.all (fun x => inB 0 x 10000000000000) = true := List.all_eq_true.2 (fun x hx => by
   obtain ⟨j, hj, rfl⟩ := List.getElem_of_mem hx
   cases e2 : inB 0 (l[j]) 10000000000000 with
   | true => rfl
   | false => exact absurd ⟨j, hj, by rw [show l.getD j 0 = l[j] by simp [List.getD, hj]]; exact e2⟩ hn)
  rw [e] at this
  cases this
theorem right_0 (L : Ln) (a : Option Addr) (cap : Nat) (l : List Int) (w : World) (hR : Row w (.slice a l.length cap) l) (t0 : mayBeB L = false) : Tells 31 w #[.agg (lnA L (.slice a l.length cap))] false := by
 unfold Tells
 have HL := hide (LB.new w 53 L (.slice a l.length cap))
 have HB := hide (below1L w (.cells (lnA L (.slice a l.length cap)) 53))
 have HR := hide (hR.alloc (.cells (lnA L (.slice a l.length cap)) 53))
 clear hR
 have H0 : Hid (∀ w1, Tells 72 w1 #[.agg (lnA L (.slice a l.length cap))] false) := hide (fun w1 => t0 ▸ mayBe_any L (.slice a l.length cap) w1)
 unfold Tells at H0
 clear t0
 go_enter (Tri.at (by decide) Try.func31), Try.ntmps31
 go_wp2_with fail
 refine (uh H0 _).mono ?_
 rintro e w1 ⟨rfl, hb⟩
 replace HL := hide ((uh HL).keep hb)
 replace HB := hide (below_via (uh HB) hb)
 replace HR := hide ((uh HR).below hb (Nat.le_refl _))
 clear hb
 have c12 := (uh HL).c12
 have c0x := (uh HL).c0
 have c1x := (uh HL).c1
 have c2x := (uh HL).c2
 have c3x := (uh HL).c3
 have c4x := (uh HL).c4
 have c5x := (uh HL).c5
 have c6x := (uh HL).c6
 have c7x := (uh HL).c7
 have c8x := (uh HL).c8
 have c9x := (uh HL).c9
 have c10x := (uh HL).c10
 have c11x := (uh HL).c11
 have c12x := (uh HL).c12
 go_wp2_with fail
 go_ret
 exact ⟨rfl, uh HB⟩
theorem right_1 (L : Ln) (a : Option Addr) (cap : Nat) (l : List Int) (w : World) (hR : Row w (.slice a l.length cap) l) (t0 : mayBeB L = true) (t1 : amtL l = false) : Tells 31 w #[.agg (lnA L (.slice a l.length cap))] false := by
 unfold Tells
 have HL := hide (LB.new w 53 L (.slice a l.length cap))
 have HB := hide (below1L w (.cells (lnA L (.slice a l.length cap)) 53))
 have HR := hide (hR.alloc (.cells (lnA L (.slice a l.length cap)) 53))
 clear hR
 have H0 : Hid (∀ w1, Tells 72 w1 #[.agg (lnA L (.slice a l.length cap))] true) := hide (fun w1 => t0 ▸ mayBe_any L (.slice a l.length cap) w1)
 unfold Tells at H0
 have H1 : Hid (∀ w1, Row w1 (.slice a l.length cap) l → Calls (Tri Try.prog) 73 #[.slice a l.length cap] w1 fun z w2 => z = .returned (.bool false) ∧ w2 = w1) := hide (fun w1 h => t1 ▸ come_any h)
 clear t0 t1
 go_enter (Tri.at (by decide) Try.func31), Try.ntmps31
 go_wp2_with fail
 refine (uh H0 _).mono ?_
 rintro e w1 ⟨rfl, hb⟩
 replace HL := hide ((uh HL).keep hb)
 replace HB := hide (below_via (uh HB) hb)
 replace HR := hide ((uh HR).below hb (Nat.le_refl _))
 clear hb
 have c12 := (uh HL).c12
 have c0x := (uh HL).c0
 have c1x := (uh HL).c1
 have c2x := (uh HL).c2
 have c3x := (uh HL).c3
 have c4x := (uh HL).c4
 have c5x := (uh HL).c5
 have c6x := (uh HL).c6
 have c7x := (uh HL).c7
 have c8x := (uh HL).c8
 have c9x := (uh HL).c9
 have c10x := (uh HL).c10
 have c11x := (uh HL).c11
 have c12x := (uh HL).c12
 go_wp2_with fail
 refine (uh H1 _ (uh HR)).mono ?_
 rintro e w1 ⟨rfl, rfl⟩
 go_wp2_with fail
 go_ret
 exact ⟨rfl, uh HB⟩
theorem right_2 (L : Ln) (a : Option Addr) (cap : Nat) (l : List Int) (w : World) (hR : Row w (.slice a l.length cap) l) (t0 : mayBeB L = true) (t1 : amtL l = true) (t2 : sumB L = false) : Tells 31 w #[.agg (lnA L (.slice a l.length cap))] false := by
 unfold Tells
 have HL := hide (LB.new w 53 L (.slice a l.length cap))
 have HB := hide (below1L w (.cells (lnA L (.slice a l.length cap)) 53))
 have HR := hide (hR.alloc (.cells (lnA L (.slice a l.length cap)) 53))
 clear hR
 have H0 : Hid (∀ w1, Tells 72 w1 #[.agg (lnA L (.slice a l.length cap))] true) := hide (fun w1 => t0 ▸ mayBe_any L (.slice a l.length cap) w1)
 unfold Tells at H0
 have H1 : Hid (∀ w1, Row w1 (.slice a l.length cap) l → Calls (Tri Try.prog) 73 #[.slice a l.length cap] w1 fun z w2 => z = .returned (.bool true) ∧ w2 = w1) := hide (fun w1 h => t1 ▸ come_any h)
 have H2 : Hid (∀ w1, Tells 74 w1 #[.agg (lnA L (.slice a l.length cap))] false) := hide (fun w1 => t2 ▸ sum_any L (.slice a l.length cap) w1)
 unfold Tells at H2
 clear t0 t1 t2
 go_enter (Tri.at (by decide) Try.func31), Try.ntmps31
 go_wp2_with fail
 refine (uh H0 _).mono ?_
 rintro e w1 ⟨rfl, hb⟩
 replace HL := hide ((uh HL).keep hb)
 replace HB := hide (below_via (uh HB) hb)
 replace HR := hide ((uh HR).below hb (Nat.le_refl _))
 clear hb
 have c12 := (uh HL).c12
 have c0x := (uh HL).c0
 have c1x := (uh HL).c1
 have c2x := (uh HL).c2
 have c3x := (uh HL).c3
 have c4x := (uh HL).c4
 have c5x := (uh HL).c5
 have c6x := (uh HL).c6
 have c7x := (uh HL).c7
 have c8x := (uh HL).c8
 have c9x := (uh HL).c9
 have c10x := (uh HL).c10
 have c11x := (uh HL).c11
 have c12x := (uh HL).c12
 go_wp2_with fail
 refine (uh H1 _ (uh HR)).mono ?_
 rintro e w1 ⟨rfl, rfl⟩
 go_wp2_with fail
 refine (uh H2 _).mono ?_
 rintro e w3 ⟨rfl, hb⟩
 replace HL := hide ((uh HL).keep hb)
 replace HB := hide (below_via (uh HB) hb)
 replace HR := hide ((uh HR).below hb (Nat.le_refl _))
 clear hb
 have c0xxx := (uh HL).c0
 have c1xxx := (uh HL).c1
 have c2xxx := (uh HL).c2
 have c3xxx := (uh HL).c3
 have c4xxx := (uh HL).c4
 have c5xxx := (uh HL).c5
 have c6xxx := (uh HL).c6
 have c7xxx := (uh HL).c7
 have c8xxx := (uh HL).c8
 have c9xxx := (uh HL).c9
 have c10xxx := (uh HL).c10
 have c11xxx := (uh HL).c11
 have c12xxx := (uh HL).c12
 go_wp2_with fail
 go_ret
 exact ⟨rfl, uh HB⟩
theorem right_3 (L : Ln) (a : Option Addr) (cap : Nat) (l : List Int) (w : World) (hR : Row w (.slice a l.length cap) l) (t0 : mayBeB L = true) (t1 : amtL l = true) (t2 : sumB L = true) (t3 : endB L l = false) : Tells 31 w #[.agg (lnA L (.slice a l.length cap))] false := by
 unfold Tells
 have HL := hide (LB.new w 53 L (.slice a l.length cap))
 have HB := hide (below1L w (.cells (lnA L (.slice a l.length cap)) 53))
 have HR := hide (hR.alloc (.cells (lnA L (.slice a l.length cap)) 53))
 clear hR
 have H0 : Hid (∀ w1, Tells 72 w1 #[.agg (lnA L (.slice a l.length cap))] true) := hide (fun w1 => t0 ▸ mayBe_any L (.slice a l.length cap) w1)
 unfold Tells at H0
 have H1 : Hid (∀ w1, Row w1 (.slice a l.length cap) l → Calls (Tri Try.prog) 73 #[.slice a l.length cap] w1 fun z w2 => z = .returned (.bool true) ∧ w2 = w1) := hide (fun w1 h => t1 ▸ come_any h)
 have H2 : Hid (∀ w1, Tells 74 w1 #[.agg (lnA L (.slice a l.length cap))] true) := hide (fun w1 => t2 ▸ sum_any L (.slice a l.length cap) w1)
 unfold Tells at H2
 have H3 : Hid (∀ w1, Tells 75 w1 #[.agg (lnA L (.slice a l.length cap))] false) := hide (fun w1 => t3 ▸ ends_any L a cap l w1)
 unfold Tells at H3
 clear t0 t1 t2 t3
 go_enter (Tri.at (by decide) Try.func31), Try.ntmps31
 go_wp2_with fail
 refine (uh H0 _).mono ?_
 rintro e w1 ⟨rfl, hb⟩
 replace HL := hide ((uh HL).keep hb)
 replace HB := hide (below_via (uh HB) hb)
 replace HR := hide ((uh HR).below hb (Nat.le_refl _))
 clear hb
 have c12 := (uh HL).c12
 have c0x := (uh HL).c0
 have c1x := (uh HL).c1
 have c2x := (uh HL).c2
 have c3x := (uh HL).c3
 have c4x := (uh HL).c4
 have c5x := (uh HL).c5
 have c6x := (uh HL).c6
 have c7x := (uh HL).c7
 have c8x := (uh HL).c8
 have c9x := (uh HL).c9
 have c10x := (uh HL).c10
 have c11x := (uh HL).c11
 have c12x := (uh HL).c12
 go_wp2_with fail
 refine (uh H1 _ (uh HR)).mono ?_
 rintro e w1 ⟨rfl, rfl⟩
 go_wp2_with fail
 refine (uh H2 _).mono ?_
 rintro e w3 ⟨rfl, hb⟩
 replace HL := hide ((uh HL).keep hb)
 replace HB := hide (below_via (uh HB) hb)
 replace HR := hide ((uh HR).below hb (Nat.le_refl _))
 clear hb
 have c0xxx := (uh HL).c0
 have c1xxx := (uh HL).c1
 have c2xxx := (uh HL).c2
 have c3xxx := (uh HL).c3
 have c4xxx := (uh HL).c4
 have c5xxx := (uh HL).c5
 have c6xxx := (uh HL).c6
 have c7xxx := (uh HL).c7
 have c8xxx := (uh HL).c8
 have c9xxx := (uh HL).c9
 have c10xxx := (uh HL).c10
 have c11xxx := (uh HL).c11
 have c12xxx := (uh HL).c12
 go_wp2_with fail
 refine (uh H3 _).mono ?_
 rintro e w4 ⟨rfl, hb⟩
 replace HL := hide ((uh HL).keep hb)
 replace HB := hide (below_via (uh HB) hb)
 replace HR := hide ((uh HR).below hb (Nat.le_refl _))
 clear hb
 have c0xxxx := (uh HL).c0
 have c1xxxx := (uh HL).c1
 have c2xxxx := (uh HL).c2
 have c3xxxx := (uh HL).c3
 have c4xxxx := (uh HL).c4
 have c5xxxx := (uh HL).c5
 have c6xxxx := (uh HL).c6
 have c7xxxx := (uh HL).c7
 have c8xxxx := (uh HL).c8
 have c9xxxx := (uh HL).c9
 have c10xxxx := (uh HL).c10
 have c11xxxx := (uh HL).c11
 have c12xxxx := (uh HL).c12
 go_wp2_with fail
 go_ret
 exact ⟨rfl, uh HB⟩
theorem right_4t (L : Ln) (a : Option Addr) (cap : Nat) (l : List Int) (w : World) (hR : Row w (.slice a l.length cap) l) (t0 : mayBeB L = true) (t1 : amtL l = true) (t2 : sumB L = true) (t3 : endB L l = true) (g : (L.gr == L.out + L.inc + L.adj - L.got - L.wri) = true) (binc1 : -1125899906842624 ≤ L.inc) (binc2 : L.inc ≤ 1125899906842624) (badj1 : -1125899906842624 ≤ L.adj) (badj2 : L.adj ≤ 1125899906842624) (bgot1 : 0 ≤ L.got) (bgot2 : L.got ≤ 1125899906842624) (bwri1 : 0 ≤ L.wri) (bwri2 : L.wri ≤ 1125899906842624) (bo1 : 1 ≤ L.out) (bo2 : L.out ≤ 10000000000000) : Tells 31 w #[.agg (lnA L (.slice a l.length cap))] true := by
 unfold Tells
 have HL := hide (LB.new w 53 L (.slice a l.length cap))
 have HB := hide (below1L w (.cells (lnA L (.slice a l.length cap)) 53))
 have HR := hide (hR.alloc (.cells (lnA L (.slice a l.length cap)) 53))
 clear hR
 have H0 : Hid (∀ w1, Tells 72 w1 #[.agg (lnA L (.slice a l.length cap))] true) := hide (fun w1 => t0 ▸ mayBe_any L (.slice a l.length cap) w1)
 unfold Tells at H0
 have H1 : Hid (∀ w1, Row w1 (.slice a l.length cap) l → Calls (Tri Try.prog) 73 #[.slice a l.length cap] w1 fun z w2 => z = .returned (.bool true) ∧ w2 = w1) := hide (fun w1 h => t1 ▸ come_any h)
 have H2 : Hid (∀ w1, Tells 74 w1 #[.agg (lnA L (.slice a l.length cap))] true) := hide (fun w1 => t2 ▸ sum_any L (.slice a l.length cap) w1)
 unfold Tells at H2
 have H3 : Hid (∀ w1, Tells 75 w1 #[.agg (lnA L (.slice a l.length cap))] true) := hide (fun w1 => t3 ▸ ends_any L a cap l w1)
 unfold Tells at H3
 clear t0 t1 t2 t3
 go_enter (Tri.at (by decide) Try.func31), Try.ntmps31
 go_wp2_with fail
 refine (uh H0 _).mono ?_
 rintro e w1 ⟨rfl, hb⟩
 replace HL := hide ((uh HL).keep hb)
 replace HB := hide (below_via (uh HB) hb)
 replace HR := hide ((uh HR).below hb (Nat.le_refl _))
 clear hb
 have c12 := (uh HL).c12
 have c0x := (uh HL).c0
 have c1x := (uh HL).c1
 have c2x := (uh HL).c2
 have c3x := (uh HL).c3
 have c4x := (uh HL).c4
 have c5x := (uh HL).c5
 have c6x := (uh HL).c6
 have c7x := (uh HL).c7
 have c8x := (uh HL).c8
 have c9x := (uh HL).c9
 have c10x := (uh HL).c10
 have c11x := (uh HL).c11
 have c12x := (uh HL).c12
 go_wp2_with fail
 refine (uh H1 _ (uh HR)).mono ?_
 rintro e w1 ⟨rfl, rfl⟩
 go_wp2_with fail
 refine (uh H2 _).mono ?_
 rintro e w3 ⟨rfl, hb⟩
 replace HL := hide ((uh HL).keep hb)
 replace HB := hide (below_via (uh HB) hb)
 replace HR := hide ((uh HR).below hb (Nat.le_refl _))
 clear hb
 have c0xxx := (uh HL).c0
 have c1xxx := (uh HL).c1
 have c2xxx := (uh HL).c2
 have c3xxx := (uh HL).c3
 have c4xxx := (uh HL).c4
 have c5xxx := (uh HL).c5
 have c6xxx := (uh HL).c6
 have c7xxx := (uh HL).c7
 have c8xxx := (uh HL).c8
 have c9xxx := (uh HL).c9
 have c10xxx := (uh HL).c10
 have c11xxx := (uh HL).c11
 have c12xxx := (uh HL).c12
 go_wp2_with fail
 refine (uh H3 _).mono ?_
 rintro e w4 ⟨rfl, hb⟩
 replace HL := hide ((uh HL).keep hb)
 replace HB := hide (below_via (uh HB) hb)
 replace HR := hide ((uh HR).below hb (Nat.le_refl _))
 clear hb
 have c0xxxx := (uh HL).c0
 have c1xxxx := (uh HL).c1
 have c2xxxx := (uh HL).c2
 have c3xxxx := (uh HL).c3
 have c4xxxx := (uh HL).c4
 have c5xxxx := (uh HL).c5
 have c6xxxx := (uh HL).c6
 have c7xxxx := (uh HL).c7
 have c8xxxx := (uh HL).c8
 have c9xxxx := (uh HL).c9
 have c10xxxx := (uh HL).c10
 have c11xxxx := (uh HL).c11
 have c12xxxx := (uh HL).c12
 go_wp2_with fail
 go_ret
 exact ⟨rfl, uh HB⟩
theorem right_4f (L : Ln) (a : Option Addr) (cap : Nat) (l : List Int) (w : World) (hR : Row w (.slice a l.length cap) l) (t0 : mayBeB L = true) (t1 : amtL l = true) (t2 : sumB L = true) (t3 : endB L l = true) (g : (L.gr == L.out + L.inc + L.adj - L.got - L.wri) = false) (binc1 : -1125899906842624 ≤ L.inc) (binc2 : L.inc ≤ 1125899906842624) (badj1 : -1125899906842624 ≤ L.adj) (badj2 : L.adj ≤ 1125899906842624) (bgot1 : 0 ≤ L.got) (bgot2 : L.got ≤ 1125899906842624) (bwri1 : 0 ≤ L.wri) (bwri2 : L.wri ≤ 1125899906842624) (bo1 : 1 ≤ L.out) (bo2 : L.out ≤ 10000000000000) : Tells 31 w #[.agg (lnA L (.slice a l.length cap))] false := by
 unfold Tells
 have HL := hide (LB.new w 53 L (.slice a l.length cap))
 have HB := hide (below1L w (.cells (lnA L (.slice a l.length cap)) 53))
 have HR := hide (hR.alloc (.cells (lnA L (.slice a l.length cap)) 53))
 clear hR
 have H0 : Hid (∀ w1, Tells 72 w1 #[.agg (lnA L (.slice a l.length cap))] true) := hide (fun w1 => t0 ▸ mayBe_any L (.slice a l.length cap) w1)
 unfold Tells at H0
 have H1 : Hid (∀ w1, Row w1 (.slice a l.length cap) l → Calls (Tri Try.prog) 73 #[.slice a l.length cap] w1 fun z w2 => z = .returned (.bool true) ∧ w2 = w1) := hide (fun w1 h => t1 ▸ come_any h)
 have H2 : Hid (∀ w1, Tells 74 w1 #[.agg (lnA L (.slice a l.length cap))] true) := hide (fun w1 => t2 ▸ sum_any L (.slice a l.length cap) w1)
 unfold Tells at H2
 have H3 : Hid (∀ w1, Tells 75 w1 #[.agg (lnA L (.slice a l.length cap))] true) := hide (fun w1 => t3 ▸ ends_any L a cap l w1)
 unfold Tells at H3
 clear t0 t1 t2 t3
 go_enter (Tri.at (by decide) Try.func31), Try.ntmps31
 go_wp2_with fail
 refine (uh H0 _).mono ?_
 rintro e w1 ⟨rfl, hb⟩
 replace HL := hide ((uh HL).keep hb)
 replace HB := hide (below_via (uh HB) hb)
 replace HR := hide ((uh HR).below hb (Nat.le_refl _))
 clear hb
 have c12 := (uh HL).c12
 have c0x := (uh HL).c0
 have c1x := (uh HL).c1
 have c2x := (uh HL).c2
 have c3x := (uh HL).c3
 have c4x := (uh HL).c4
 have c5x := (uh HL).c5
 have c6x := (uh HL).c6
 have c7x := (uh HL).c7
 have c8x := (uh HL).c8
 have c9x := (uh HL).c9
 have c10x := (uh HL).c10
 have c11x := (uh HL).c11
 have c12x := (uh HL).c12
 go_wp2_with fail
 refine (uh H1 _ (uh HR)).mono ?_
 rintro e w1 ⟨rfl, rfl⟩
 go_wp2_with fail
 refine (uh H2 _).mono ?_
 rintro e w3 ⟨rfl, hb⟩
 replace HL := hide ((uh HL).keep hb)
 replace HB := hide (below_via (uh HB) hb)
 replace HR := hide ((uh HR).below hb (Nat.le_refl _))
 clear hb
 have c0xxx := (uh HL).c0
 have c1xxx := (uh HL).c1
 have c2xxx := (uh HL).c2
 have c3xxx := (uh HL).c3
 have c4xxx := (uh HL).c4
 have c5xxx := (uh HL).c5
 have c6xxx := (uh HL).c6
 have c7xxx := (uh HL).c7
 have c8xxx := (uh HL).c8
 have c9xxx := (uh HL).c9
 have c10xxx := (uh HL).c10
 have c11xxx := (uh HL).c11
 have c12xxx := (uh HL).c12
 go_wp2_with fail
 refine (uh H3 _).mono ?_
 rintro e w4 ⟨rfl, hb⟩
 replace HL := hide ((uh HL).keep hb)
 replace HB := hide (below_via (uh HB) hb)
 replace HR := hide ((uh HR).below hb (Nat.le_refl _))
 clear hb
 have c0xxxx := (uh HL).c0
 have c1xxxx := (uh HL).c1
 have c2xxxx := (uh HL).c2
 have c3xxxx := (uh HL).c3
 have c4xxxx := (uh HL).c4
 have c5xxxx := (uh HL).c5
 have c6xxxx := (uh HL).c6
 have c7xxxx := (uh HL).c7
 have c8xxxx := (uh HL).c8
 have c9xxxx := (uh HL).c9
 have c10xxxx := (uh HL).c10
 have c11xxxx := (uh HL).c11
 have c12xxxx := (uh HL).c12
 go_wp2_with fail
 go_ret
 exact ⟨rfl, uh HB⟩
theorem row_len {w : World} {a : Option Addr} {n c : Nat} {zs : List Int} (h : Row w (.slice a n c) zs) : n = zs.length := by
 obtain ⟨a', c', e⟩ := row_slice h
 cases e
 rfl
theorem row_cell {w : World} {b off n c : Nat} {zs : List Int} (h : Row w (.slice (some ⟨b, off, none⟩) n c) zs) {j : Nat} (hj : j < zs.length) : w.cell? ⟨b, off + j, none⟩ = some (.int .i64 (zs.getD j 0)) := by
 rcases h with ⟨a, cap, h1, h2⟩ | ⟨b', off', cap, h1, _, _, hc, _⟩
 ·rw [h2] at hj; exact absurd hj (Nat.not_lt_zero j)
 ·cases h1
  exact hc j hj
theorem row_in {w : World} {v : Value} {zs : List Int} (h : Row w v zs) : ∀ z ∈ zs, In64 z := by
 rcases h with ⟨a, cap, _, h2⟩ | ⟨b', off', cap, h1, _, _, _, h⟩
 ·rw [h2]; intro z hz; cases hz
 ·exact h
theorem row_open' {w : World} {v : Value} {zs : List Int} (h : Row w v zs) (h0 : 0 < zs.length) : ∃ b off cap, v = .slice (some ⟨b, off, none⟩) zs.length cap := by
 rcases h with ⟨a, cap, _, h2⟩ | ⟨b', off', cap, h1, _⟩
 ·rw [h2] at h0; exact absurd h0 (Nat.not_lt_zero 0)
 ·exact ⟨_, _, _, h1⟩
def From (W : World) (x : Value) (ys : List Int) : Prop :=
 (x = .slice none 0 0 ∧ ys = []) ∨ ∃ ad c, x = .slice (some ad) ys.length c ∧ ∀ j, j < ys.length → W.cell? (ad.add j) = some (.int .i64 (ys.getD j 0))
theorem wp_from {o : Oper} {a : Act} {K : Act → World → Prop} {Q : Exit → Act → World → Prop} (s x : Operand)
  (ho : o.op = .call { callee := .builtin .append, args := #[s, x], argTypes := #[22, 22] })
  (w W : World) (v u : Value) (zs ys : List Int) (hG : Grow 2 w W v zs) (hF : From W u ys) (hs : a.eval s = v) (hx : a.eval x = u)
  (hlen : zs.length + ys.length ≤ 17592186044000) (hy : ∀ y ∈ ys, In64 y)
  (h : ∀ v' W', Grow 2 w W' v' (zs ++ ys) → K (a.put o.dst v') W') : o.wp (Tri Try.prog) a W K Q := by
 obtain ⟨i0, hi, hz0, hz1, hz2⟩ := info_parts info2
 have hsize := hG.below.size
 rcases hF with ⟨rfl, rfl⟩ | ⟨ad, c, rfl, hc⟩
 ·have hrun := run_append_owned_none (P := (Tri Try.prog)) W w.heap.size 22 o.type 2 i0 1 (Tri.und Try.underlying22) hi v zs.length _ hG.owns
  unfold Oper.wp
  simp [execOp, ho, resolve, invoke, builtin, hs, hx, hrun, Result.andThen]
  have := h v W (by simpa using hG)
  exact this
 ·refine wp_append_own W s x 22 ho w.heap.size 2 i0 (.int .i64 0) 1 8 (Tri.und Try.underlying22) hi hz0 hz1 hz2 rfl (by decide) v zs.length _ hs hG.owns ad ys.length c (ys.map (Value.int .i64)) hx (by simp) ?_ (ints_oneCell _ _) (by unfold maxLen; omega) (by omega) hsize ?_
  ·intro j y hj
   have hjl : j < ys.length := by
    have := (List.getElem?_eq_some_iff.1 hj).1
    simpa using this
   rw [hc j hjl]
   rw [List.getElem?_map] at hj
   simpa [List.getD, hjl] using hj
  ·intro v' W' hown hgrow _
   refine h v' W' ⟨?_, ?_, ?_⟩
   ·exact hG.below.grown hgrow hsize (fun k hk => (hG.owns.lt k hk).1)
   ·simpa using hown
   ·intro y hy'
    rcases List.mem_append.1 hy' with h1 | h1
    ·exact hG.small y h1
    ·exact hy y h1
theorem list_from {ops : Array Oper} {rest : List Oper} {o : Oper} {a : Act} {Q : Exit → Act → World → Prop} (hgd : o.guard = none) (s x : Operand)
  (ho : o.op = .call { callee := .builtin .append, args := #[s, x], argTypes := #[22, 22] })
  (w W : World) (v u : Value) (zs ys : List Int) (hG : Grow 2 w W v zs) (hF : From W u ys) (hs : a.eval s = v) (hx : a.eval x = u)
  (hlen : zs.length + ys.length ≤ 17592186044000) (hy : ∀ y ∈ ys, In64 y)
  (h : ∀ v' W', Grow 2 w W' v' (zs ++ ys) → wpList (Tri Try.prog) ops Q rest (a.put o.dst v') W') : wpList (Tri Try.prog) ops Q (o :: rest) a W :=
 wpList_plain hgd fun _ hK => wp_from s x ho w W v u zs ys hG hF hs hx hlen hy fun v' W' h2 => hK _ _ (h v' W' h2)
theorem Grow.empty (w W : World) (h : Below w.heap.size w W) : Grow 2 w (W.alloc (.cells #[] 2)) (.slice (some ⟨W.heap.size, 0, none⟩) 0 0) [] :=
 ⟨h.alloc h.size _, W.ownsRow_lit #[] 0 h.size (by decide) rfl, fun z hz => (by cases hz)⟩
theorem from_row {W : World} {a : Option Addr} {n c : Nat} {zs : List Int} (h : Row W (.slice a n c) zs) (hn : a = none → c = 0) : From W (.slice a n c) zs := by
 have hl := row_len h
 rcases h with ⟨a', c', e, rfl⟩ | ⟨b, off, c', e, _, _, hc, _⟩
 ·injection e with e1 e2 e3
  subst e1 e2 e3
  cases a with
  | none =>
   rw [hn rfl]
   exact Or.inl ⟨rfl, rfl⟩
  | some x => exact Or.inr ⟨x, c, rfl, fun j hj => absurd hj (Nat.not_lt_zero j)⟩
 ·injection e with e1 e2 e3
  subst e1 e2 e3
  refine Or.inr ⟨_, _, rfl, fun j hj => ?_⟩
  rw [← hc j hj, Addr.add_lit]
theorem wrap_small (n : Nat) (h : n ≤ 255) : IntKind.i64.wrap (n : Int) = (n : Int) := by rw [IntKind.wrap_i64]; omega
theorem interest_yes (x r : Int) (hx : In64 x) (h : May r) : Ans 66 x r (okN (near (x * r) 1000000000000)) (okE (near (x * r) 1000000000000)) := by
 intro w
 have hm := hide (may_yes h)
 have hd := hide (md_near x r 1000000000000 hx (may64 h) ⟨by omega, by omega⟩ (by omega))
 go_enter (Tri.at (by decide) Try.func66), Try.ntmps66
 go_wp2_with fail
 refine (uh hm _).mono ?_
 rintro e w1 ⟨rfl, rfl⟩
 go_wp2_with fail
 refine (uh hd _).mono ?_
 rintro e w2 ⟨rfl, hb⟩
 go_wp2_with fail
 go_ret2
 exact ⟨rfl, hb⟩
def qI (x r : Int) : Int := near (x * r) 1000000000000
theorem interest_ok {x r : Int} (hx : In64 x) (h : May r) : Ans 66 x r (okN (qI x r)) (okE (qI x r)) := interest_yes x r hx h
theorem right_any (L : Ln) (a : Option Addr) (n c : Nat) (l : List Int) (w : World) (hR : Row w (.slice a n c) l) : Tells 31 w #[.agg (lnA L (.slice a n c))] (rightB L l) := by
 have hn : n = l.length := by
  obtain ⟨a', c', e⟩ := row_slice hR
  injection e
 subst hn
 unfold rightB
 by_cases t0 : mayBeB L = true
 case neg =>
  replace t0 := Bool.eq_false_iff.2 t0
  rw [t0, Bool.false_and]
  exact right_0 L a c l w hR t0
 rw [t0, Bool.true_and]
 by_cases t1 : amtL l = true
 case neg =>
  replace t1 := Bool.eq_false_iff.2 t1
  rw [t1, Bool.false_and]
  exact right_1 L a c l w hR t0 t1
 rw [t1, Bool.true_and]
 by_cases t2 : sumB L = true
 case neg =>
  replace t2 := Bool.eq_false_iff.2 t2
  rw [t2, Bool.false_and]
  exact right_2 L a c l w hR t0 t1 t2
 rw [t2, Bool.true_and]
 by_cases t3 : endB L l = true
 case neg =>
  replace t3 := Bool.eq_false_iff.2 t3
  rw [t3, Bool.false_and]
  exact right_3 L a c l w hR t0 t1 t2 t3
 rw [t3, Bool.true_and]
 have h0 := t0
 have h2 := t2
 unfold mayBeB at h0
 unfold sumB at h2
 simp only [Bool.and_eq_true] at h0 h2
 have b1 := inB_yes h0.1.2
 have b2 := inB_yes h2.2.1.2
 have b3 := inB_yes h2.2.2
 have b4 := inB_yes h2.1.1.1.2
 have b5 := inB_yes h2.1.1.2
 by_cases g : L.gr = L.out + L.inc + L.adj - L.got - L.wri
 ·rw [decide_eq_true g]
  exact right_4t L a c l w hR t0 t1 t2 t3 (by simpa using g) b2.1 b2.2 b3.1 b3.2 b4.1 b4.2 b5.1 b5.2 b1.1 b1.2
 ·rw [decide_eq_false g]
  exact right_4f L a c l w hR t0 t1 t2 t3 (by simpa using g) b2.1 b2.2 b3.1 b3.2 b4.1 b4.2 b5.1 b5.2 b1.1 b1.2
def Sl (a : Option Addr) (n c : Nat) : Prop := n ≤ c ∧ (a = none → c = 0)
theorem Sl.nil : Sl none 0 0 := ⟨Nat.le_refl _, fun _ => rfl⟩
theorem grow_sl {w W : World} {v : Value} {l : List Int} (h : Grow 2 w W v l) (hm : l.length ≤ 17592186044000) : ∃ a c, v = .slice a l.length c ∧ Row W (.slice a l.length c) l ∧ Sl a l.length c ∧ (∀ x, a = some x → w.heap.size ≤ x.block) := by
 have hr := h.row (by unfold maxLen; omega)
 obtain ⟨h1, h2⟩ := h.owns
 rcases h2 with ⟨rfl, h0⟩ | ⟨g, cap, cur, rfl, h3, h4, h5, h6, _⟩
 ·obtain rfl := List.eq_nil_of_length_eq_zero h0
  exact ⟨none, 0, rfl, hr, Sl.nil, fun x hx => by cases hx⟩
 ·exact ⟨_, cap, rfl, hr, ⟨h5, fun e => by cases e⟩, fun x hx => by injection hx with hx; subst hx; exact h3⟩
theorem copied_any {w : World} {a : Option Addr} {n c : Nat} {l : List Int} (hR : Row w (.slice a n c) l) (hS : Sl a n c) (hl : l.length ≤ 17592186044000) : Calls (Tri Try.prog) 70 #[.slice a n c] w fun z w' => ∃ a' c', z = .returned (.slice a' l.length c') ∧ Row w' (.slice a' l.length c') l ∧ Sl a' l.length c' ∧ (∀ x, a' = some x → w.heap.size ≤ x.block) ∧ Below w.heap.size w w' := by
 have HF := hide (from_row hR hS.2)
 have HI := hide (row_in hR)
 have HG := hide (Grow.nil 2 w w (Below.refl _ _))
 have HL := hide hl
 clear hR hS hl
 go_enter (Tri.at (by decide) Try.func70), Try.ntmps70
 go_wp2_with (refine list_from rfl (.const (.slice none 0 0)) (.tmp 3) rfl _ _ _ _ [] l (uh HG) (uh HF) rfl rfl (by have := uh HL; simpa using this) (uh HI) ?_)
 intro v W hG
 obtain ⟨a', c', rfl, h1, h2, h3⟩ := grow_sl hG (by simpa using uh HL)
 go_wp2_with fail
 go_ret
 exact ⟨a', c', rfl, h1, h2, h3, hG.below⟩
theorem ended_any (L : Ln) (s : Value) (k : Int) (w : World) : Calls (Tri Try.prog) 84 #[.agg (lnA L s), .int .i64 k] w fun z w' => z = .returned (.agg (lnB L.id k 0 L.out L.rt L.gr 0 L.inc L.got L.adj L.wri L.rcv (.slice none 0 0))) ∧ w' = (w.alloc (.cells (lnB L.id k 0 L.out L.rt L.gr 0 L.inc L.got L.adj L.wri L.rcv (.slice none 0 0)) 53)).alloc (.cells (lnB L.id k 0 L.out L.rt L.gr 0 L.inc L.got L.adj L.wri L.rcv (.slice none 0 0)) 53) := by
 go_enter (Tri.at (by decide) Try.func84), Try.ntmps84
 go_wp2_with fail
 exact bodyPost_ret (v := .agg (lnB L.id k 0 L.out L.rt L.gr 0 L.inc L.got L.adj L.wri L.rcv (.slice none 0 0))) (by simp [results, Try.results84, go_sem]) rfl ⟨rfl, rfl⟩
def Blk (w : World) (b : Nat) (cs : Array Value) (T : TypeId) : Prop := w.heap[b]? = some (.cells cs T (0, 0))
section
variable {w w' : World} {b : Nat} {T : TypeId} {cs : Array Value}
theorem Blk.lt (h : Blk w b cs T) : b < w.heap.size := (Array.getElem?_eq_some_iff.1 h).1
theorem Blk.keep (h : Blk w b cs T) (hb : Below w.heap.size w w') : Blk w' b cs T := (hb.block b h.lt).trans h
theorem Blk.alloc (h : Blk w b cs T) (o : Obj) : Blk (w.alloc o) b cs T := (Below.heap_alloc w o b h.lt).trans h
theorem Blk.new (w : World) (cs : Array Value) (T : TypeId) : Blk (w.alloc (.cells cs T)) w.heap.size cs T := heap_alloc_new w _
theorem Blk.at (h : Blk w b cs T) (i : Nat) (v : Value) (hv : cs[i]? = some v) : w.cell? ⟨b, i, none⟩ = some v := by rw [cell_of_row w b i _ _ _ h]; exact hv
theorem Blk.fz (h : Blk w b cs T) (j : Nat) : w.frozen? ⟨b, j, none⟩ = false := frozen_of_row w b j _ _ h
theorem Blk.set (h : Blk w b cs T) (i : Nat) (v : Value) : Blk (w.setCell ⟨b, i, none⟩ v) b (cs.setIfInBounds i v) T := (Go.heap_setCell_same w b i _ _ _ h).trans rfl
theorem Blk.other (h : Blk w b cs T) {g : Nat} (hg : b ≠ g) (i : Nat) (v : Value) : Blk (w.setCell ⟨g, i, none⟩ v) b cs T := by
 exact (Go.heap_setCell_other w ⟨g, i, none⟩ b v hg).trans h
end
structure TK (w wr : World) (sv cs : Array Value) : Prop where
 bel : Below w.heap.size w wr
 b0 : Blk wr (w.heap.size) sv 120
 b1 : Blk wr (w.heap.size + 1) cs 53
 b2 : Blk wr (w.heap.size + 1 + 1) lnZ 53
 b3 : Blk wr (w.heap.size + 1 + 1 + 1) #[.int .i64 0, .int .i64 0, .int .i64 0, .int .i64 0] 65
 b4 : Blk wr (w.heap.size + 1 + 1 + 1 + 1) lnZ 53
 b5 : Blk wr (w.heap.size + 1 + 1 + 1 + 1 + 1) #[.int .i64 0, .int .i64 0, .int .i64 0, .int .i64 0] 65
theorem TK.keep {w wr wr2 : World} {sv cs : Array Value} (h : TK w wr sv cs) (hb : Below wr.heap.size wr wr2) : TK w wr2 sv cs := ⟨below_via h.bel hb, h.b0.keep hb, h.b1.keep hb, h.b2.keep hb, h.b3.keep hb, h.b4.keep hb, h.b5.keep hb⟩
theorem TK.new (w : World) (sv cs : Array Value) : TK w ((((((w.alloc (.cells sv 120)).alloc (.cells cs 53)).alloc (.cells lnZ 53)).alloc (.cells #[.int .i64 0, .int .i64 0, .int .i64 0, .int .i64 0] 65)).alloc (.cells lnZ 53)).alloc (.cells #[.int .i64 0, .int .i64 0, .int .i64 0, .int .i64 0] 65)) sv cs := by
 refine ⟨?_, ?_, ?_, ?_, ?_, ?_, ?_⟩
 ·exact (((((below1L w _).alloc (by simp) _).alloc (by simp; omega) _).alloc (by simp; omega) _).alloc (by simp; omega) _).alloc (by simp; omega) _
 ·have h := (((((Blk.new w sv 120).alloc (.cells cs 53)).alloc (.cells lnZ 53)).alloc (.cells #[.int .i64 0, .int .i64 0, .int .i64 0, .int .i64 0] 65)).alloc (.cells lnZ 53)).alloc (.cells #[.int .i64 0, .int .i64 0, .int .i64 0, .int .i64 0] 65)
  simpa using h
 ·have h := ((((Blk.new (w.alloc (.cells sv 120)) cs 53).alloc (.cells lnZ 53)).alloc (.cells #[.int .i64 0, .int .i64 0, .int .i64 0, .int .i64 0] 65)).alloc (.cells lnZ 53)).alloc (.cells #[.int .i64 0, .int .i64 0, .int .i64 0, .int .i64 0] 65)
  simpa using h
 ·have h := (((Blk.new ((w.alloc (.cells sv 120)).alloc (.cells cs 53)) lnZ 53).alloc (.cells #[.int .i64 0, .int .i64 0, .int .i64 0, .int .i64 0] 65)).alloc (.cells lnZ 53)).alloc (.cells #[.int .i64 0, .int .i64 0, .int .i64 0, .int .i64 0] 65)
  simpa using h
 ·have h := ((Blk.new (((w.alloc (.cells sv 120)).alloc (.cells cs 53)).alloc (.cells lnZ 53)) #[.int .i64 0, .int .i64 0, .int .i64 0, .int .i64 0] 65).alloc (.cells lnZ 53)).alloc (.cells #[.int .i64 0, .int .i64 0, .int .i64 0, .int .i64 0] 65)
  simpa using h
 ·have h := (Blk.new ((((w.alloc (.cells sv 120)).alloc (.cells cs 53)).alloc (.cells lnZ 53)).alloc (.cells #[.int .i64 0, .int .i64 0, .int .i64 0, .int .i64 0] 65)) lnZ 53).alloc (.cells #[.int .i64 0, .int .i64 0, .int .i64 0, .int .i64 0] 65)
  simpa using h
 ·have h := Blk.new (((((w.alloc (.cells sv 120)).alloc (.cells cs 53)).alloc (.cells lnZ 53)).alloc (.cells #[.int .i64 0, .int .i64 0, .int .i64 0, .int .i64 0] 65)).alloc (.cells lnZ 53)) #[.int .i64 0, .int .i64 0, .int .i64 0, .int .i64 0] 65
  simpa using h
abbrev putL (w : World) (g : Nat) (v0 v1 v2 v3 v4 v5 v6 v7 v8 v9 v10 v11 v12 : Value) : World := ((((((((((((w.setCell ⟨g, 0, none⟩ v0).setCell ⟨g, 1, none⟩ v1).setCell ⟨g, 2, none⟩ v2).setCell ⟨g, 3, none⟩ v3).setCell ⟨g, 4, none⟩ v4).setCell ⟨g, 5, none⟩ v5).setCell ⟨g, 6, none⟩ v6).setCell ⟨g, 7, none⟩ v7).setCell ⟨g, 8, none⟩ v8).setCell ⟨g, 9, none⟩ v9).setCell ⟨g, 10, none⟩ v10).setCell ⟨g, 11, none⟩ v11).setCell ⟨g, 12, none⟩ v12
abbrev putM (w : World) (g : Nat) (v0 v1 v2 v3 : Value) : World := (((w.setCell ⟨g, 0, none⟩ v0).setCell ⟨g, 1, none⟩ v1).setCell ⟨g, 2, none⟩ v2).setCell ⟨g, 3, none⟩ v3
theorem Blk.wrL {w : World} {g : Nat} {T : TypeId} {c0 c1 c2 c3 c4 c5 c6 c7 c8 c9 c10 c11 c12 : Value} (h : Blk w g #[c0, c1, c2, c3, c4, c5, c6, c7, c8, c9, c10, c11, c12] T) (v0 v1 v2 v3 v4 v5 v6 v7 v8 v9 v10 v11 v12 : Value) : Blk (putL w g v0 v1 v2 v3 v4 v5 v6 v7 v8 v9 v10 v11 v12) g #[v0, v1, v2, v3, v4, v5, v6, v7, v8, v9, v10, v11, v12] T := by
 have k := (((((((((((((h.set 0 v0).set 1 v1).set 2 v2).set 3 v3).set 4 v4).set 5 v5).set 6 v6).set 7 v7).set 8 v8).set 9 v9).set 10 v10).set 11 v11).set 12 v12)
 simpa using k
theorem Blk.offL {w : World} {k g : Nat} {T : TypeId} {cs : Array Value} (h : Blk w k cs T) (hg : k ≠ g) (v0 v1 v2 v3 v4 v5 v6 v7 v8 v9 v10 v11 v12 : Value) : Blk (putL w g v0 v1 v2 v3 v4 v5 v6 v7 v8 v9 v10 v11 v12) k cs T := (((((((((((((h.other hg 0 v0).other hg 1 v1).other hg 2 v2).other hg 3 v3).other hg 4 v4).other hg 5 v5).other hg 6 v6).other hg 7 v7).other hg 8 v8).other hg 9 v9).other hg 10 v10).other hg 11 v11).other hg 12 v12)
theorem below_putL {B : Nat} {w0 w : World} {g : Nat} (h : Below B w0 w) (hg : B ≤ g) (v0 v1 v2 v3 v4 v5 v6 v7 v8 v9 v10 v11 v12 : Value) : Below B w0 (putL w g v0 v1 v2 v3 v4 v5 v6 v7 v8 v9 v10 v11 v12) := (((((((((((((h.setCell (p := ⟨g, 0, none⟩) hg v0).setCell (p := ⟨g, 1, none⟩) hg v1).setCell (p := ⟨g, 2, none⟩) hg v2).setCell (p := ⟨g, 3, none⟩) hg v3).setCell (p := ⟨g, 4, none⟩) hg v4).setCell (p := ⟨g, 5, none⟩) hg v5).setCell (p := ⟨g, 6, none⟩) hg v6).setCell (p := ⟨g, 7, none⟩) hg v7).setCell (p := ⟨g, 8, none⟩) hg v8).setCell (p := ⟨g, 9, none⟩) hg v9).setCell (p := ⟨g, 10, none⟩) hg v10).setCell (p := ⟨g, 11, none⟩) hg v11).setCell (p := ⟨g, 12, none⟩) hg v12)
theorem Blk.wrM {w : World} {g : Nat} {T : TypeId} {c0 c1 c2 c3 : Value} (h : Blk w g #[c0, c1, c2, c3] T) (v0 v1 v2 v3 : Value) : Blk (putM w g v0 v1 v2 v3) g #[v0, v1, v2, v3] T := by
 have k := ((((h.set 0 v0).set 1 v1).set 2 v2).set 3 v3)
 simpa using k
theorem Blk.offM {w : World} {k g : Nat} {T : TypeId} {cs : Array Value} (h : Blk w k cs T) (hg : k ≠ g) (v0 v1 v2 v3 : Value) : Blk (putM w g v0 v1 v2 v3) k cs T := ((((h.other hg 0 v0).other hg 1 v1).other hg 2 v2).other hg 3 v3)
theorem below_putM {B : Nat} {w0 w : World} {g : Nat} (h : Below B w0 w) (hg : B ≤ g) (v0 v1 v2 v3 : Value) : Below B w0 (putM w g v0 v1 v2 v3) := ((((h.setCell (p := ⟨g, 0, none⟩) hg v0).setCell (p := ⟨g, 1, none⟩) hg v1).setCell (p := ⟨g, 2, none⟩) hg v2).setCell (p := ⟨g, 3, none⟩) hg v3)
theorem Row.off {w : World} {a : Option Addr} {n c g i : Nat} {v : Value} {l : List Int} (h : Row w (.slice a n c) l) (hg : ∀ x, a = some x → x.block ≠ g) : Row (w.setCell ⟨g, i, none⟩ v) (.slice a n c) l := by
 rcases h with ⟨a', c', h1, h2⟩ | ⟨b, off, c', h1, h2, h3, h4, h5⟩
 ·exact .inl ⟨a', c', h1, h2⟩
 ·have e : a = some ⟨b, off, none⟩ := by injection h1
  refine .inr ⟨b, off, c', h1, h2, h3, fun j hj => ?_, h5⟩
  have k := h4 j hj
  have hne := hg _ e
  simp only [World.cell?] at k ⊢
  rw [Go.heap_setCell_other w ⟨g, i, none⟩ b v hne]
  exact k
theorem Row.offL {w : World} {a : Option Addr} {n c g : Nat} {l : List Int} (h : Row w (.slice a n c) l) (hg : ∀ x, a = some x → x.block ≠ g) (v0 v1 v2 v3 v4 v5 v6 v7 v8 v9 v10 v11 v12 : Value) : Row (putL w g v0 v1 v2 v3 v4 v5 v6 v7 v8 v9 v10 v11 v12) (.slice a n c) l := (((((((((((((h.off (i := 0) (v := v0) hg).off (i := 1) (v := v1) hg).off (i := 2) (v := v2) hg).off (i := 3) (v := v3) hg).off (i := 4) (v := v4) hg).off (i := 5) (v := v5) hg).off (i := 6) (v := v6) hg).off (i := 7) (v := v7) hg).off (i := 8) (v := v8) hg).off (i := 9) (v := v9) hg).off (i := 10) (v := v10) hg).off (i := 11) (v := v11) hg).off (i := 12) (v := v12) hg)
theorem Row.offM {w : World} {a : Option Addr} {n c g : Nat} {l : List Int} (h : Row w (.slice a n c) l) (hg : ∀ x, a = some x → x.block ≠ g) (v0 v1 v2 v3 : Value) : Row (putM w g v0 v1 v2 v3) (.slice a n c) l := ((((h.off (i := 0) (v := v0) hg).off (i := 1) (v := v1) hg).off (i := 2) (v := v2) hg).off (i := 3) (v := v3) hg)
theorem Row.drew {w : World} {v : Value} {l : List Int} (h : Row w v l) : Row w.drew v l := h.later (fun _ _ h => h)
theorem Blk.drew {w : World} {k : Nat} {T : TypeId} {cs : Array Value} (h : Blk w k cs T) : Blk w.drew k cs T := h
theorem take_a (fc fd : Nat) (hfc : ∀ (args : Array Value) (w : World), (_root_.Go.callFunc fc args).run (Tri Try.prog) w = .ok (.enter fc args) w) (hfd : ∀ (args : Array Value) (w : World), (_root_.Go.callFunc fd args).run (Tri Try.prog) w = .ok (.enter fd args) w) (L : Ln) (a : Option Addr) (n c pb : Nat) (w : World) (e : Int) (he : (e != 0) = true) (HC : Hid (∀ w1, Below w.heap.size w w1 → Calls (Tri Try.prog) fc #[.agg (lnA L (.slice a n c)), .pointer (some ⟨pb, 0, none⟩)] w1 fun z w2 => z = .returned (.int .i64 e) ∧ Below w1.heap.size w1 w2)) : Calls (Tri Try.prog) 86 #[.agg #[.func (.func fc) #[] #[.pointer (some ⟨pb, 0, none⟩)], .func (.func fd) #[] #[.pointer (some ⟨pb, 0, none⟩)], .func (.func 85) #[] #[]], .agg (lnA L (.slice a n c))] w fun z w2 => z = .returned (.tuple #[.agg lnZ, .agg #[.int .i64 0, .int .i64 0, .int .i64 0, .int .i64 0], .int .i64 e]) ∧ Below w.heap.size w w2 := by
 have HT := hide (TK.new w #[.func (.func fc) #[] #[.pointer (some ⟨pb, 0, none⟩)], .func (.func fd) #[] #[.pointer (some ⟨pb, 0, none⟩)], .func (.func 85) #[] #[]] (lnA L (.slice a n c)))
 go_enter (Tri.at (by decide) Try.func86), Try.ntmps86
 go_wp2_with fail
 refine (uh HC _ (uh HT).bel).mono ?_
 rintro z w1 ⟨rfl, hb⟩
 replace HT := hide ((uh HT).keep hb)
 clear hb HC
 have x0 := (show Blk _ _ _ _ from (uh HT).b4).at 0 _ rfl
 have x1 := (show Blk _ _ _ _ from (uh HT).b4).at 1 _ rfl
 have x2 := (show Blk _ _ _ _ from (uh HT).b4).at 2 _ rfl
 have x3 := (show Blk _ _ _ _ from (uh HT).b4).at 3 _ rfl
 have x4 := (show Blk _ _ _ _ from (uh HT).b4).at 4 _ rfl
 have x5 := (show Blk _ _ _ _ from (uh HT).b4).at 5 _ rfl
 have x6 := (show Blk _ _ _ _ from (uh HT).b4).at 6 _ rfl
 have x7 := (show Blk _ _ _ _ from (uh HT).b4).at 7 _ rfl
 have x8 := (show Blk _ _ _ _ from (uh HT).b4).at 8 _ rfl
 have x9 := (show Blk _ _ _ _ from (uh HT).b4).at 9 _ rfl
 have x10 := (show Blk _ _ _ _ from (uh HT).b4).at 10 _ rfl
 have x11 := (show Blk _ _ _ _ from (uh HT).b4).at 11 _ rfl
 have x12 := (show Blk _ _ _ _ from (uh HT).b4).at 12 _ rfl
 have y0 := (show Blk _ _ _ _ from (uh HT).b5).at 0 _ rfl
 have y1 := (show Blk _ _ _ _ from (uh HT).b5).at 1 _ rfl
 have y2 := (show Blk _ _ _ _ from (uh HT).b5).at 2 _ rfl
 have y3 := (show Blk _ _ _ _ from (uh HT).b5).at 3 _ rfl
 have p0 := (show Blk _ _ _ _ from (uh HT).b2).at 0 _ rfl
 have p1 := (show Blk _ _ _ _ from (uh HT).b2).at 1 _ rfl
 have p2 := (show Blk _ _ _ _ from (uh HT).b2).at 2 _ rfl
 have p3 := (show Blk _ _ _ _ from (uh HT).b2).at 3 _ rfl
 have p4 := (show Blk _ _ _ _ from (uh HT).b2).at 4 _ rfl
 have p5 := (show Blk _ _ _ _ from (uh HT).b2).at 5 _ rfl
 have p6 := (show Blk _ _ _ _ from (uh HT).b2).at 6 _ rfl
 have p7 := (show Blk _ _ _ _ from (uh HT).b2).at 7 _ rfl
 have p8 := (show Blk _ _ _ _ from (uh HT).b2).at 8 _ rfl
 have p9 := (show Blk _ _ _ _ from (uh HT).b2).at 9 _ rfl
 have p10 := (show Blk _ _ _ _ from (uh HT).b2).at 10 _ rfl
 have p11 := (show Blk _ _ _ _ from (uh HT).b2).at 11 _ rfl
 have p12 := (show Blk _ _ _ _ from (uh HT).b2).at 12 _ rfl
 have q0 := (show Blk _ _ _ _ from (uh HT).b3).at 0 _ rfl
 have q1 := (show Blk _ _ _ _ from (uh HT).b3).at 1 _ rfl
 have q2 := (show Blk _ _ _ _ from (uh HT).b3).at 2 _ rfl
 have q3 := (show Blk _ _ _ _ from (uh HT).b3).at 3 _ rfl
 have u0 := (show Blk _ _ _ _ from (uh HT).b2).fz 0
 have u1 := (show Blk _ _ _ _ from (uh HT).b2).fz 1
 have u2 := (show Blk _ _ _ _ from (uh HT).b2).fz 2
 have u3 := (show Blk _ _ _ _ from (uh HT).b2).fz 3
 have u4 := (show Blk _ _ _ _ from (uh HT).b2).fz 4
 have u5 := (show Blk _ _ _ _ from (uh HT).b2).fz 5
 have u6 := (show Blk _ _ _ _ from (uh HT).b2).fz 6
 have u7 := (show Blk _ _ _ _ from (uh HT).b2).fz 7
 have u8 := (show Blk _ _ _ _ from (uh HT).b2).fz 8
 have u9 := (show Blk _ _ _ _ from (uh HT).b2).fz 9
 have u10 := (show Blk _ _ _ _ from (uh HT).b2).fz 10
 have u11 := (show Blk _ _ _ _ from (uh HT).b2).fz 11
 have u12 := (show Blk _ _ _ _ from (uh HT).b2).fz 12
 have v0 := (show Blk _ _ _ _ from (uh HT).b3).fz 0
 have v1 := (show Blk _ _ _ _ from (uh HT).b3).fz 1
 have v2 := (show Blk _ _ _ _ from (uh HT).b3).fz 2
 have v3 := (show Blk _ _ _ _ from (uh HT).b3).fz 3
 go_wp2_with fail
 go_region
 clear x0 x1 x2 x3 x4 x5 x6 x7 x8 x9 x10 x11 x12 y0 y1 y2 y3 p0 p1 p2 p3 p4 p5 p6 p7 p8 p9 p10 p11 p12 q0 q1 q2 q3 u0 u1 u2 u3 u4 u5 u6 u7 u8 u9 u10 u11 u12 v0 v1 v2 v3
 have k2 : Blk (putM (putL w1 (w.heap.size + 1 + 1) (.int .i64 0) (.int .i64 0) (.int .i64 0) (.int .i64 0) (.int .i64 0) (.int .i64 0) (.int .i64 0) (.int .i64 0) (.int .i64 0) (.int .i64 0) (.int .i64 0) (.int .i64 0) (.slice none 0 0)) (w.heap.size + 1 + 1 + 1) (.int .i64 0) (.int .i64 0) (.int .i64 0) (.int .i64 0)).drew (w.heap.size + 1 + 1) lnZ 53 := (((show Blk _ _ _ _ from (uh HT).b2).wrL (.int .i64 0) (.int .i64 0) (.int .i64 0) (.int .i64 0) (.int .i64 0) (.int .i64 0) (.int .i64 0) (.int .i64 0) (.int .i64 0) (.int .i64 0) (.int .i64 0) (.int .i64 0) (.slice none 0 0)).offM (by omega) (.int .i64 0) (.int .i64 0) (.int .i64 0) (.int .i64 0)).drew
 have k3 : Blk (putM (putL w1 (w.heap.size + 1 + 1) (.int .i64 0) (.int .i64 0) (.int .i64 0) (.int .i64 0) (.int .i64 0) (.int .i64 0) (.int .i64 0) (.int .i64 0) (.int .i64 0) (.int .i64 0) (.int .i64 0) (.int .i64 0) (.slice none 0 0)) (w.heap.size + 1 + 1 + 1) (.int .i64 0) (.int .i64 0) (.int .i64 0) (.int .i64 0)).drew (w.heap.size + 1 + 1 + 1) #[.int .i64 0, .int .i64 0, .int .i64 0, .int .i64 0] 65 := (((show Blk _ _ _ _ from (uh HT).b3).offL (by omega) (.int .i64 0) (.int .i64 0) (.int .i64 0) (.int .i64 0) (.int .i64 0) (.int .i64 0) (.int .i64 0) (.int .i64 0) (.int .i64 0) (.int .i64 0) (.int .i64 0) (.int .i64 0) (.slice none 0 0)).wrM (.int .i64 0) (.int .i64 0) (.int .i64 0) (.int .i64 0)).drew
 have k4 : Below w.heap.size w (putM (putL w1 (w.heap.size + 1 + 1) (.int .i64 0) (.int .i64 0) (.int .i64 0) (.int .i64 0) (.int .i64 0) (.int .i64 0) (.int .i64 0) (.int .i64 0) (.int .i64 0) (.int .i64 0) (.int .i64 0) (.int .i64 0) (.slice none 0 0)) (w.heap.size + 1 + 1 + 1) (.int .i64 0) (.int .i64 0) (.int .i64 0) (.int .i64 0)).drew := below_drew (below_putM (below_putL (uh HT).bel (by omega) (.int .i64 0) (.int .i64 0) (.int .i64 0) (.int .i64 0) (.int .i64 0) (.int .i64 0) (.int .i64 0) (.int .i64 0) (.int .i64 0) (.int .i64 0) (.int .i64 0) (.int .i64 0) (.slice none 0 0)) (by omega) (.int .i64 0) (.int .i64 0) (.int .i64 0) (.int .i64 0))
 generalize (putM (putL w1 (w.heap.size + 1 + 1) (.int .i64 0) (.int .i64 0) (.int .i64 0) (.int .i64 0) (.int .i64 0) (.int .i64 0) (.int .i64 0) (.int .i64 0) (.int .i64 0) (.int .i64 0) (.int .i64 0) (.int .i64 0) (.slice none 0 0)) (w.heap.size + 1 + 1 + 1) (.int .i64 0) (.int .i64 0) (.int .i64 0) (.int .i64 0)).drew = W at *
 clear HT
 have p0 := k2.at 0 _ rfl
 have p1 := k2.at 1 _ rfl
 have p2 := k2.at 2 _ rfl
 have p3 := k2.at 3 _ rfl
 have p4 := k2.at 4 _ rfl
 have p5 := k2.at 5 _ rfl
 have p6 := k2.at 6 _ rfl
 have p7 := k2.at 7 _ rfl
 have p8 := k2.at 8 _ rfl
 have p9 := k2.at 9 _ rfl
 have p10 := k2.at 10 _ rfl
 have p11 := k2.at 11 _ rfl
 have p12 := k2.at 12 _ rfl
 have q0 := k3.at 0 _ rfl
 have q1 := k3.at 1 _ rfl
 have q2 := k3.at 2 _ rfl
 have q3 := k3.at 3 _ rfl
 go_wp2_with fail
 exact bodyPost_ret (v := .tuple #[.agg lnZ, .agg #[.int .i64 0, .int .i64 0, .int .i64 0, .int .i64 0], .int .i64 e]) (by simp [results, Try.results86, go_sem, p0, p1, p2, p3, p4, p5, p6, p7, p8, p9, p10, p11, p12, q0, q1, q2, q3]) rfl ⟨rfl, k4⟩
theorem take_b (fc fd : Nat) (hfc : ∀ (args : Array Value) (w : World), (_root_.Go.callFunc fc args).run (Tri Try.prog) w = .ok (.enter fc args) w) (hfd : ∀ (args : Array Value) (w : World), (_root_.Go.callFunc fd args).run (Tri Try.prog) w = .ok (.enter fd args) w) (L : Ln) (a : Option Addr) (n c pb : Nat) (w : World) (K : Ln) (a2 : Option Addr) (n2 c2 : Nat) (m0 m1 m2 m3 : Int) (HC : Hid (∀ w1, Below w.heap.size w w1 → Calls (Tri Try.prog) fc #[.agg (lnA L (.slice a n c)), .pointer (some ⟨pb, 0, none⟩)] w1 fun z w2 => z = .returned (.int .i64 0) ∧ Below w1.heap.size w1 w2)) (HD : Hid (∀ w1, Below w.heap.size w w1 → Calls (Tri Try.prog) fd #[.agg (lnA L (.slice a n c)), .pointer (some ⟨pb, 0, none⟩)] w1 fun z w2 => z = .returned (.tuple #[.agg (lnA K (.slice a2 n2 c2)), .agg #[.int .i64 m0, .int .i64 m1, .int .i64 m2, .int .i64 m3]]) ∧ Below w1.heap.size w1 w2)) (e : Int) (he : (e != 0) = true) (HE : Hid (∀ w1, Below w.heap.size w w1 → Calls (Tri Try.prog) 85 #[.agg (lnA K (.slice a2 n2 c2))] w1 fun z w2 => z = .returned (.tuple #[.agg lnZ, .int .i64 e]) ∧ Below w1.heap.size w1 w2)) : Calls (Tri Try.prog) 86 #[.agg #[.func (.func fc) #[] #[.pointer (some ⟨pb, 0, none⟩)], .func (.func fd) #[] #[.pointer (some ⟨pb, 0, none⟩)], .func (.func 85) #[] #[]], .agg (lnA L (.slice a n c))] w fun z w2 => z = .returned (.tuple #[.agg lnZ, .agg #[.int .i64 0, .int .i64 0, .int .i64 0, .int .i64 0], .int .i64 e]) ∧ Below w.heap.size w w2 := by
 have HT := hide (TK.new w #[.func (.func fc) #[] #[.pointer (some ⟨pb, 0, none⟩)], .func (.func fd) #[] #[.pointer (some ⟨pb, 0, none⟩)], .func (.func 85) #[] #[]] (lnA L (.slice a n c)))
 go_enter (Tri.at (by decide) Try.func86), Try.ntmps86
 go_wp2_with fail
 refine (uh HC _ (uh HT).bel).mono ?_
 rintro z w1 ⟨rfl, hb⟩
 replace HT := hide ((uh HT).keep hb)
 clear hb HC
 have t0 : ((0 : Int) != 0) = false := rfl
 have x0 := (show Blk _ _ _ _ from (uh HT).b0).at 0 _ rfl
 have x1 := (show Blk _ _ _ _ from (uh HT).b0).at 1 _ rfl
 have x2 := (show Blk _ _ _ _ from (uh HT).b0).at 2 _ rfl
 have y0 := (show Blk _ _ _ _ from (uh HT).b1).at 0 _ rfl
 have y1 := (show Blk _ _ _ _ from (uh HT).b1).at 1 _ rfl
 have y2 := (show Blk _ _ _ _ from (uh HT).b1).at 2 _ rfl
 have y3 := (show Blk _ _ _ _ from (uh HT).b1).at 3 _ rfl
 have y4 := (show Blk _ _ _ _ from (uh HT).b1).at 4 _ rfl
 have y5 := (show Blk _ _ _ _ from (uh HT).b1).at 5 _ rfl
 have y6 := (show Blk _ _ _ _ from (uh HT).b1).at 6 _ rfl
 have y7 := (show Blk _ _ _ _ from (uh HT).b1).at 7 _ rfl
 have y8 := (show Blk _ _ _ _ from (uh HT).b1).at 8 _ rfl
 have y9 := (show Blk _ _ _ _ from (uh HT).b1).at 9 _ rfl
 have y10 := (show Blk _ _ _ _ from (uh HT).b1).at 10 _ rfl
 have y11 := (show Blk _ _ _ _ from (uh HT).b1).at 11 _ rfl
 have y12 := (show Blk _ _ _ _ from (uh HT).b1).at 12 _ rfl
 go_wp2_with fail
 refine (uh HD _ (uh HT).bel).mono ?_
 rintro z w2 ⟨rfl, hb⟩
 replace HT := hide ((uh HT).keep hb)
 clear hb HD
 clear x0 x1 x2 y0 y1 y2 y3 y4 y5 y6 y7 y8 y9 y10 y11 y12
 have sz : w.heap.size + 1 + 1 + 1 + 1 + 1 < w2.heap.size := (show Blk _ _ _ _ from (uh HT).b5).lt
 replace HT : Hid (TK w ((w2.alloc (.cells (lnA K (.slice a2 n2 c2)) 53)).alloc (.cells #[.int .i64 m0, .int .i64 m1, .int .i64 m2, .int .i64 m3] 65)) #[.func (.func fc) #[] #[.pointer (some ⟨pb, 0, none⟩)], .func (.func fd) #[] #[.pointer (some ⟨pb, 0, none⟩)], .func (.func 85) #[] #[]] (lnA L (.slice a n c))) := hide ((uh HT).keep ((below1L w2 _).alloc (by simp) _))
 have HM : Hid (Blk ((w2.alloc (.cells (lnA K (.slice a2 n2 c2)) 53)).alloc (.cells #[.int .i64 m0, .int .i64 m1, .int .i64 m2, .int .i64 m3] 65)) (w2.heap.size + 1) #[.int .i64 m0, .int .i64 m1, .int .i64 m2, .int .i64 m3] 65) := hide (by have h := Blk.new (w2.alloc (.cells (lnA K (.slice a2 n2 c2)) 53)) #[.int .i64 m0, .int .i64 m1, .int .i64 m2, .int .i64 m3] 65; simpa using h)
 have x0 := (show Blk _ _ _ _ from (uh HT).b0).at 0 _ rfl
 have x1 := (show Blk _ _ _ _ from (uh HT).b0).at 1 _ rfl
 have x2 := (show Blk _ _ _ _ from (uh HT).b0).at 2 _ rfl
 go_wp2_with fail
 refine (uh HE _ (uh HT).bel).mono ?_
 rintro z w3 ⟨rfl, hb⟩
 have sz3 : w2.heap.size + 1 < w3.heap.size := ((uh HM).keep hb).lt
 replace HT : Hid (TK w (w3.alloc (.cells lnZ 53)) #[.func (.func fc) #[] #[.pointer (some ⟨pb, 0, none⟩)], .func (.func fd) #[] #[.pointer (some ⟨pb, 0, none⟩)], .func (.func 85) #[] #[]] (lnA L (.slice a n c))) := hide (((uh HT).keep hb).keep (below1L w3 _))
 replace HM : Hid (Blk (w3.alloc (.cells lnZ 53)) (w2.heap.size + 1) #[.int .i64 m0, .int .i64 m1, .int .i64 m2, .int .i64 m3] 65) := hide (((uh HM).keep hb).alloc _)
 clear hb HE x0 x1 x2
 have x0 := (show Blk _ _ _ _ from (uh HT).b4).at 0 _ rfl
 have x1 := (show Blk _ _ _ _ from (uh HT).b4).at 1 _ rfl
 have x2 := (show Blk _ _ _ _ from (uh HT).b4).at 2 _ rfl
 have x3 := (show Blk _ _ _ _ from (uh HT).b4).at 3 _ rfl
 have x4 := (show Blk _ _ _ _ from (uh HT).b4).at 4 _ rfl
 have x5 := (show Blk _ _ _ _ from (uh HT).b4).at 5 _ rfl
 have x6 := (show Blk _ _ _ _ from (uh HT).b4).at 6 _ rfl
 have x7 := (show Blk _ _ _ _ from (uh HT).b4).at 7 _ rfl
 have x8 := (show Blk _ _ _ _ from (uh HT).b4).at 8 _ rfl
 have x9 := (show Blk _ _ _ _ from (uh HT).b4).at 9 _ rfl
 have x10 := (show Blk _ _ _ _ from (uh HT).b4).at 10 _ rfl
 have x11 := (show Blk _ _ _ _ from (uh HT).b4).at 11 _ rfl
 have x12 := (show Blk _ _ _ _ from (uh HT).b4).at 12 _ rfl
 have y0 := (show Blk _ _ _ _ from (uh HT).b5).at 0 _ rfl
 have y1 := (show Blk _ _ _ _ from (uh HT).b5).at 1 _ rfl
 have y2 := (show Blk _ _ _ _ from (uh HT).b5).at 2 _ rfl
 have y3 := (show Blk _ _ _ _ from (uh HT).b5).at 3 _ rfl
 have p0 := (show Blk _ _ _ _ from (uh HT).b2).at 0 _ rfl
 have p1 := (show Blk _ _ _ _ from (uh HT).b2).at 1 _ rfl
 have p2 := (show Blk _ _ _ _ from (uh HT).b2).at 2 _ rfl
 have p3 := (show Blk _ _ _ _ from (uh HT).b2).at 3 _ rfl
 have p4 := (show Blk _ _ _ _ from (uh HT).b2).at 4 _ rfl
 have p5 := (show Blk _ _ _ _ from (uh HT).b2).at 5 _ rfl
 have p6 := (show Blk _ _ _ _ from (uh HT).b2).at 6 _ rfl
 have p7 := (show Blk _ _ _ _ from (uh HT).b2).at 7 _ rfl
 have p8 := (show Blk _ _ _ _ from (uh HT).b2).at 8 _ rfl
 have p9 := (show Blk _ _ _ _ from (uh HT).b2).at 9 _ rfl
 have p10 := (show Blk _ _ _ _ from (uh HT).b2).at 10 _ rfl
 have p11 := (show Blk _ _ _ _ from (uh HT).b2).at 11 _ rfl
 have p12 := (show Blk _ _ _ _ from (uh HT).b2).at 12 _ rfl
 have q0 := (show Blk _ _ _ _ from (uh HT).b3).at 0 _ rfl
 have q1 := (show Blk _ _ _ _ from (uh HT).b3).at 1 _ rfl
 have q2 := (show Blk _ _ _ _ from (uh HT).b3).at 2 _ rfl
 have q3 := (show Blk _ _ _ _ from (uh HT).b3).at 3 _ rfl
 have u0 := (show Blk _ _ _ _ from (uh HT).b2).fz 0
 have u1 := (show Blk _ _ _ _ from (uh HT).b2).fz 1
 have u2 := (show Blk _ _ _ _ from (uh HT).b2).fz 2
 have u3 := (show Blk _ _ _ _ from (uh HT).b2).fz 3
 have u4 := (show Blk _ _ _ _ from (uh HT).b2).fz 4
 have u5 := (show Blk _ _ _ _ from (uh HT).b2).fz 5
 have u6 := (show Blk _ _ _ _ from (uh HT).b2).fz 6
 have u7 := (show Blk _ _ _ _ from (uh HT).b2).fz 7
 have u8 := (show Blk _ _ _ _ from (uh HT).b2).fz 8
 have u9 := (show Blk _ _ _ _ from (uh HT).b2).fz 9
 have u10 := (show Blk _ _ _ _ from (uh HT).b2).fz 10
 have u11 := (show Blk _ _ _ _ from (uh HT).b2).fz 11
 have u12 := (show Blk _ _ _ _ from (uh HT).b2).fz 12
 have v0 := (show Blk _ _ _ _ from (uh HT).b3).fz 0
 have v1 := (show Blk _ _ _ _ from (uh HT).b3).fz 1
 have v2 := (show Blk _ _ _ _ from (uh HT).b3).fz 2
 have v3 := (show Blk _ _ _ _ from (uh HT).b3).fz 3
 go_wp2_with fail
 go_region
 clear x0 x1 x2 x3 x4 x5 x6 x7 x8 x9 x10 x11 x12 y0 y1 y2 y3 p0 p1 p2 p3 p4 p5 p6 p7 p8 p9 p10 p11 p12 q0 q1 q2 q3 u0 u1 u2 u3 u4 u5 u6 u7 u8 u9 u10 u11 u12 v0 v1 v2 v3
 have k2 : Blk (putM (putL (w3.alloc (.cells lnZ 53)) (w.heap.size + 1 + 1) (.int .i64 0) (.int .i64 0) (.int .i64 0) (.int .i64 0) (.int .i64 0) (.int .i64 0) (.int .i64 0) (.int .i64 0) (.int .i64 0) (.int .i64 0) (.int .i64 0) (.int .i64 0) (.slice none 0 0)) (w.heap.size + 1 + 1 + 1) (.int .i64 0) (.int .i64 0) (.int .i64 0) (.int .i64 0)).drew (w.heap.size + 1 + 1) lnZ 53 := (((show Blk _ _ _ _ from (uh HT).b2).wrL (.int .i64 0) (.int .i64 0) (.int .i64 0) (.int .i64 0) (.int .i64 0) (.int .i64 0) (.int .i64 0) (.int .i64 0) (.int .i64 0) (.int .i64 0) (.int .i64 0) (.int .i64 0) (.slice none 0 0)).offM (by omega) (.int .i64 0) (.int .i64 0) (.int .i64 0) (.int .i64 0)).drew
 have k3 : Blk (putM (putL (w3.alloc (.cells lnZ 53)) (w.heap.size + 1 + 1) (.int .i64 0) (.int .i64 0) (.int .i64 0) (.int .i64 0) (.int .i64 0) (.int .i64 0) (.int .i64 0) (.int .i64 0) (.int .i64 0) (.int .i64 0) (.int .i64 0) (.int .i64 0) (.slice none 0 0)) (w.heap.size + 1 + 1 + 1) (.int .i64 0) (.int .i64 0) (.int .i64 0) (.int .i64 0)).drew (w.heap.size + 1 + 1 + 1) #[.int .i64 0, .int .i64 0, .int .i64 0, .int .i64 0] 65 := (((show Blk _ _ _ _ from (uh HT).b3).offL (by omega) (.int .i64 0) (.int .i64 0) (.int .i64 0) (.int .i64 0) (.int .i64 0) (.int .i64 0) (.int .i64 0) (.int .i64 0) (.int .i64 0) (.int .i64 0) (.int .i64 0) (.int .i64 0) (.slice none 0 0)).wrM (.int .i64 0) (.int .i64 0) (.int .i64 0) (.int .i64 0)).drew
 have k4 : Below w.heap.size w (putM (putL (w3.alloc (.cells lnZ 53)) (w.heap.size + 1 + 1) (.int .i64 0) (.int .i64 0) (.int .i64 0) (.int .i64 0) (.int .i64 0) (.int .i64 0) (.int .i64 0) (.int .i64 0) (.int .i64 0) (.int .i64 0) (.int .i64 0) (.int .i64 0) (.slice none 0 0)) (w.heap.size + 1 + 1 + 1) (.int .i64 0) (.int .i64 0) (.int .i64 0) (.int .i64 0)).drew := below_drew (below_putM (below_putL (uh HT).bel (by omega) (.int .i64 0) (.int .i64 0) (.int .i64 0) (.int .i64 0) (.int .i64 0) (.int .i64 0) (.int .i64 0) (.int .i64 0) (.int .i64 0) (.int .i64 0) (.int .i64 0) (.int .i64 0) (.slice none 0 0)) (by omega) (.int .i64 0) (.int .i64 0) (.int .i64 0) (.int .i64 0))
 generalize (putM (putL (w3.alloc (.cells lnZ 53)) (w.heap.size + 1 + 1) (.int .i64 0) (.int .i64 0) (.int .i64 0) (.int .i64 0) (.int .i64 0) (.int .i64 0) (.int .i64 0) (.int .i64 0) (.int .i64 0) (.int .i64 0) (.int .i64 0) (.int .i64 0) (.slice none 0 0)) (w.heap.size + 1 + 1 + 1) (.int .i64 0) (.int .i64 0) (.int .i64 0) (.int .i64 0)).drew = W at *
 clear HT
 have p0 := k2.at 0 _ rfl
 have p1 := k2.at 1 _ rfl
 have p2 := k2.at 2 _ rfl
 have p3 := k2.at 3 _ rfl
 have p4 := k2.at 4 _ rfl
 have p5 := k2.at 5 _ rfl
 have p6 := k2.at 6 _ rfl
 have p7 := k2.at 7 _ rfl
 have p8 := k2.at 8 _ rfl
 have p9 := k2.at 9 _ rfl
 have p10 := k2.at 10 _ rfl
 have p11 := k2.at 11 _ rfl
 have p12 := k2.at 12 _ rfl
 have q0 := k3.at 0 _ rfl
 have q1 := k3.at 1 _ rfl
 have q2 := k3.at 2 _ rfl
 have q3 := k3.at 3 _ rfl
 go_wp2_with fail
 exact bodyPost_ret (v := .tuple #[.agg lnZ, .agg #[.int .i64 0, .int .i64 0, .int .i64 0, .int .i64 0], .int .i64 e]) (by simp [results, Try.results86, go_sem, p0, p1, p2, p3, p4, p5, p6, p7, p8, p9, p10, p11, p12, q0, q1, q2, q3]) rfl ⟨rfl, k4⟩
def putN (w : World) (g : Nat) : Nat → List Value → World
 | _, [] => w
 | k, v :: vs => putN (w.setCell ⟨g, k, none⟩ v) g (k + 1) vs
def setsN (cs : Array Value) : Nat → List Value → Array Value
 | _, [] => cs
 | k, v :: vs => setsN (cs.setIfInBounds k v) (k + 1) vs
theorem below_putN {B g : Nat} {w0 : World} (hg : B ≤ g) : ∀ (vs : List Value) {w : World} (k : Nat) (h : Below B w0 w), Below B w0 (putN w g k vs)
 | [], _, _, h => h
 | v :: vs, w, k, h => below_putN hg vs (k + 1) (h.setCell (p := ⟨g, k, none⟩) hg v)
theorem Row.offN {g : Nat} {a : Option Addr} {n c : Nat} {l : List Int} (hg : ∀ x, a = some x → x.block ≠ g) : ∀ (vs : List Value) {w : World} (k : Nat) (h : Row w (.slice a n c) l), Row (putN w g k vs) (.slice a n c) l
 | [], _, _, h => h
 | v :: vs, w, k, h => Row.offN hg vs (k + 1) (h.off (i := k) (v := v) hg)
theorem Blk.wr13 {w : World} {g : Nat} {T : TypeId} {c0 c1 c2 c3 c4 c5 c6 c7 c8 c9 c10 c11 c12 : Value} (h : Blk w g #[c0, c1, c2, c3, c4, c5, c6, c7, c8, c9, c10, c11, c12] T) (v0 v1 v2 v3 v4 v5 v6 v7 v8 v9 v10 v11 v12 : Value) : Blk (putN w g 0 [v0, v1, v2, v3, v4, v5, v6, v7, v8, v9, v10, v11, v12]) g #[v0, v1, v2, v3, v4, v5, v6, v7, v8, v9, v10, v11, v12] T := by
 have k := (((((((((((((h.set 0 v0).set 1 v1).set 2 v2).set 3 v3).set 4 v4).set 5 v5).set 6 v6).set 7 v7).set 8 v8).set 9 v9).set 10 v10).set 11 v11).set 12 v12)
 simpa [putN] using k
theorem Blk.c2 {w : World} {b : Nat} {T : TypeId} {c0 c1 : Value} (h : Blk w b #[c0, c1] T) : w.cell? ⟨b, 0, none⟩ = some c0 ∧ w.cell? ⟨b, 1, none⟩ = some c1 := ⟨h.at 0 _ rfl, h.at 1 _ rfl⟩
theorem Blk.c13 {w : World} {b : Nat} {T : TypeId} {c0 c1 c2 c3 c4 c5 c6 c7 c8 c9 c10 c11 c12 : Value} (h : Blk w b #[c0, c1, c2, c3, c4, c5, c6, c7, c8, c9, c10, c11, c12] T) : w.cell? ⟨b, 0, none⟩ = some c0 ∧ w.cell? ⟨b, 1, none⟩ = some c1 ∧ w.cell? ⟨b, 2, none⟩ = some c2 ∧ w.cell? ⟨b, 3, none⟩ = some c3 ∧ w.cell? ⟨b, 4, none⟩ = some c4 ∧ w.cell? ⟨b, 5, none⟩ = some c5 ∧ w.cell? ⟨b, 6, none⟩ = some c6 ∧ w.cell? ⟨b, 7, none⟩ = some c7 ∧ w.cell? ⟨b, 8, none⟩ = some c8 ∧ w.cell? ⟨b, 9, none⟩ = some c9 ∧ w.cell? ⟨b, 10, none⟩ = some c10 ∧ w.cell? ⟨b, 11, none⟩ = some c11 ∧ w.cell? ⟨b, 12, none⟩ = some c12 := ⟨h.at 0 _ rfl, h.at 1 _ rfl, h.at 2 _ rfl, h.at 3 _ rfl, h.at 4 _ rfl, h.at 5 _ rfl, h.at 6 _ rfl, h.at 7 _ rfl, h.at 8 _ rfl, h.at 9 _ rfl, h.at 10 _ rfl, h.at 11 _ rfl, h.at 12 _ rfl⟩
theorem Blk.z2 {w : World} {b : Nat} {T : TypeId} {cs : Array Value} (h : Blk w b cs T) : w.frozen? ⟨b, 0, none⟩ = false ∧ w.frozen? ⟨b, 1, none⟩ = false := ⟨h.fz 0, h.fz 1⟩
theorem Blk.z13 {w : World} {b : Nat} {T : TypeId} {cs : Array Value} (h : Blk w b cs T) : w.frozen? ⟨b, 0, none⟩ = false ∧ w.frozen? ⟨b, 1, none⟩ = false ∧ w.frozen? ⟨b, 2, none⟩ = false ∧ w.frozen? ⟨b, 3, none⟩ = false ∧ w.frozen? ⟨b, 4, none⟩ = false ∧ w.frozen? ⟨b, 5, none⟩ = false ∧ w.frozen? ⟨b, 6, none⟩ = false ∧ w.frozen? ⟨b, 7, none⟩ = false ∧ w.frozen? ⟨b, 8, none⟩ = false ∧ w.frozen? ⟨b, 9, none⟩ = false ∧ w.frozen? ⟨b, 10, none⟩ = false ∧ w.frozen? ⟨b, 11, none⟩ = false ∧ w.frozen? ⟨b, 12, none⟩ = false := ⟨h.fz 0, h.fz 1, h.fz 2, h.fz 3, h.fz 4, h.fz 5, h.fz 6, h.fz 7, h.fz 8, h.fz 9, h.fz 10, h.fz 11, h.fz 12⟩
def newK (id out r : Int) : Ln := ⟨id, 1, 0, out, r, out, 0, 0, 0, 0, 0, 0⟩
def NewE (id out : Int) (l : List Int) (r e : Int) : Prop := (inB 0 id 2147483647 = false ∧ r = 0 ∧ e = 2) ∨ (inB 0 id 2147483647 = true ∧ Eir out l r e)
def NewA (w : World) (id out : Int) (v : Value) (l : List Int) : Prop := Calls (Tri Try.prog) 27 #[.int .i64 id, .int .i64 out, v] w fun z w' => ∃ r e, NewE id out l r e ∧ ((e ≠ 0 ∧ z = .returned (.tuple #[.agg lnZ, .int .i64 e])) ∨ (e = 0 ∧ ∃ a' c', z = .returned (.tuple #[.agg (lnA (newK id out r) (.slice a' l.length c')), .int .i64 0]) ∧ Row w' (.slice a' l.length c') l ∧ Sl a' l.length c' ∧ (∀ x, a' = some x → w.heap.size ≤ x.block))) ∧ Below w.heap.size w w'
theorem new_a (id out : Int) (a : Option Addr) (n c : Nat) (w : World) (l : List Int) (h : inB 0 id 2147483647 = false) : NewA w id out (.slice a n c) l := by
 unfold NewA
 have H := hide (name_is h)
 have HN := hide (show NewE id out l 0 2 from .inl ⟨h, rfl, rfl⟩)
 clear h
 go_enter (Tri.at (by decide) Try.func27), Try.ntmps27
 go_wp2_with fail
 refine (uh H _).mono ?_
 rintro z w1 ⟨rfl, rfl⟩
 go_wp2_with fail
 exact bodyPost_ret (v := .tuple #[.agg lnZ, .int .i64 2]) (by simp [results, Try.results27, go_sem]) rfl ⟨0, 2, uh HN, .inl ⟨by decide, rfl⟩, below1L w _⟩
theorem new_b (id out : Int) (a : Option Addr) (n c : Nat) (w : World) (l : List Int) (h : inB 0 id 2147483647 = true) (ho : In64 out) (hR : Row w (.slice a n c) l) (hS : Sl a n c) (hl : l.length ≤ 17592186044000) : NewA w id out (.slice a n c) l := by
 unfold NewA
 have H := hide (name_is h)
 have HB := hide (below1L w (.cells lnZ 53))
 have HZ := hide (Blk.new w lnZ 53)
 have HR := hide (hR.alloc (.cells lnZ 53))
 have HS : Hid (∀ w1, Row w1 (.slice a n c) l → SolA9 w1 out (.slice a n c) l) := hide (fun w1 h1 => s9_any ho h1)
 unfold SolA9 at HS
 have HN : Hid (∀ r e, Eir out l r e → NewE id out l r e) := hide (fun r e k => .inr ⟨h, k⟩)
 have HSl := hide hS
 have HL := hide hl
 clear h ho hR hS hl
 go_enter (Tri.at (by decide) Try.func27), Try.ntmps27
 go_wp2_with fail
 refine (uh H _).mono ?_
 rintro z w0 ⟨rfl, rfl⟩
 go_wp2_with fail
 refine (uh HS _ (uh HR)).mono ?_
 rintro z w1 ⟨r, e, hE, rfl, hb⟩
 replace HB := hide (below_via (uh HB) hb)
 replace HZ := hide ((uh HZ).keep hb)
 replace HR := hide ((uh HR).below hb (Nat.le_refl _))
 replace HN := hide (uh HN r e hE)
 clear hb hE HS H
 by_cases he : e = 0
 ·subst he
  have t0 : ((0 : Int) != 0) = false := rfl
  go_wp2_with fail
  refine (copied_any (uh HR) (uh HSl) (uh HL)).mono ?_
  rintro z w2 ⟨a', c', rfl, hr, hs, hf, hb⟩
  have HF : Hid (∀ x, a' = some x → w.heap.size < x.block) := hide (fun x hx => Nat.lt_of_lt_of_le (uh HZ).lt (hf x hx))
  replace HB := hide (below_via (uh HB) hb)
  replace HZ := hide ((uh HZ).keep hb)
  have HR2 := hide hr
  have HS2 := hide hs
  clear hb hr hs hf
  obtain ⟨z0, z1, z2, z3, z4, z5, z6, z7, z8, z9, z10, z11, z12⟩ := Blk.c13 (show Blk _ _ _ _ from (uh HZ))
  obtain ⟨f0, f1, f2, f3, f4, f5, f6, f7, f8, f9, f10, f11, f12⟩ := Blk.z13 (show Blk _ _ _ _ from (uh HZ))
  go_wp2_with fail
  clear z0 f0 z1 f1 z2 f2 z3 f3 z4 f4 z5 f5 z6 f6 z7 f7 z8 f8 z9 f9 z10 f10 z11 f11 z12 f12
  generalize hW : World.setCell _ _ _ = W
  have k2 : Blk W w.heap.size (lnB id 1 0 out r out 0 0 0 0 0 0 (.slice a' l.length c')) 53 := by rw [← hW]; exact (uh HZ).wr13 _ _ _ _ _ _ _ _ _ _ _ _ _
  have k4 : Below w.heap.size w W := by rw [← hW]; exact below_putN (Nat.le_refl _) [_, _, _, _, _, _, _, _, _, _, _, _, _] 0 (uh HB)
  have k5 : Row W (.slice a' l.length c') l := by rw [← hW]; exact Row.offN (fun x hx => by have := uh HF x hx; omega) [_, _, _, _, _, _, _, _, _, _, _, _, _] 0 (uh HR2)
  have k6 : ∀ x, a' = some x → w.heap.size ≤ x.block := fun x hx => Nat.le_of_lt (uh HF x hx)
  have k7 := uh HS2
  clear hW
  obtain ⟨p0, p1, p2, p3, p4, p5, p6, p7, p8, p9, p10, p11, p12⟩ := Blk.c13 k2
  exact bodyPost_ret (v := .tuple #[.agg (lnB id 1 0 out r out 0 0 0 0 0 0 (.slice a' l.length c')), .int .i64 0]) (by simp [results, Try.results27, go_sem, p0, p1, p2, p3, p4, p5, p6, p7, p8, p9, p10, p11, p12]) rfl ⟨r, 0, uh HN, .inr ⟨rfl, a', c', rfl, k5, k7, k6⟩, k4⟩
 ·have t0 : (e != 0) = true := by simpa using he
  obtain ⟨z0, z1, z2, z3, z4, z5, z6, z7, z8, z9, z10, z11, z12⟩ := Blk.c13 (show Blk _ _ _ _ from (uh HZ))
  obtain ⟨f0, f1, f2, f3, f4, f5, f6, f7, f8, f9, f10, f11, f12⟩ := Blk.z13 (show Blk _ _ _ _ from (uh HZ))
  go_wp2_with fail
  clear z0 f0 z1 f1 z2 f2 z3 f3 z4 f4 z5 f5 z6 f6 z7 f7 z8 f8 z9 f9 z10 f10 z11 f11 z12 f12
  generalize hW : World.setCell _ _ _ = W
  have k2 : Blk W w.heap.size lnZ 53 := by rw [← hW]; exact (uh HZ).wr13 _ _ _ _ _ _ _ _ _ _ _ _ _
  have k4 : Below w.heap.size w W := by rw [← hW]; exact below_putN (Nat.le_refl _) [_, _, _, _, _, _, _, _, _, _, _, _, _] 0 (uh HB)
  clear hW
  obtain ⟨p0, p1, p2, p3, p4, p5, p6, p7, p8, p9, p10, p11, p12⟩ := Blk.c13 k2
  exact bodyPost_ret (v := .tuple #[.agg lnZ, .int .i64 e]) (by simp [results, Try.results27, go_sem, p0, p1, p2, p3, p4, p5, p6, p7, p8, p9, p10, p11, p12]) rfl ⟨r, e, uh HN, .inl ⟨he, rfl⟩, k4⟩
theorem new_any {id out : Int} {a : Option Addr} {n c : Nat} {w : World} {l : List Int} (ho : In64 out) (hR : Row w (.slice a n c) l) (hS : Sl a n c) (hl : l.length ≤ 17592186044000) : NewA w id out (.slice a n c) l := by
 by_cases h : inB 0 id 2147483647 = true
 ·exact new_b id out a n c w l h ho hR hS hl
 ·exact new_a id out a n c w l (Bool.eq_false_iff.2 h)
structure Past (w W : World) (b : Nat) : Prop where
 blk : ∀ {b' : Nat} {cs : Array Value} {T : TypeId}, b' ≠ b → Blk w b' cs T → Blk W b' cs T
 bel : ∀ {B : Nat} {w0 : World}, B ≤ b → Below B w0 w → Below B w0 W
 row : ∀ {a : Option Addr} {n c : Nat} {l : List Int}, (∀ x, a = some x → x.block ≠ b) → Row w (.slice a n c) l → Row W (.slice a n c) l
theorem past_setCells {b : Nat} : ∀ (vs : List Value) (k : Nat) (w : World), Past w (w.setCells b k vs) b
 | [], _, w => ⟨fun _ h => h, fun _ h => h, fun _ h => h⟩
 | v :: vs, k, w =>
  have h := past_setCells (b := b) vs (k + 1) (w.setCell ⟨b, k, none⟩ v)
  ⟨fun hb hB => h.blk hb (hB.other hb k v), fun hb hB => h.bel hb (hB.setCell (p := ⟨b, k, none⟩) hb v), fun hb hR => h.row hb (hR.off (i := k) (v := v) hb)⟩
theorem blk_setCells {b : Nat} {T : TypeId} : ∀ (vs : List Value) (k : Nat) {w : World} {cs : Array Value}, Blk w b cs T → Blk (w.setCells b k vs) b (setsN cs k vs) T
 | [], _, _, _, h => h
 | v :: vs, k, _, _, h => blk_setCells vs (k + 1) (h.set k v)
theorem sets_get : ∀ (vs : List Value) (k : Nat) (cs : Array Value) (j : Nat), k + vs.length ≤ cs.size → (setsN cs k vs)[j]? = if k ≤ j ∧ j < k + vs.length then vs[j - k]? else cs[j]?
 | [], k, cs, j, _ => by rw [setsN, if_neg (by simp <;> omega)]
 | v :: vs, k, cs, j, h => by
  simp only [List.length_cons] at h
  rw [setsN, sets_get vs (k + 1) _ j (by simp; omega)]
  by_cases h1 : k + 1 ≤ j ∧ j < k + 1 + vs.length
  ·rw [if_pos h1, if_pos ⟨by omega, by simp; omega⟩, show j - k = (j - (k + 1)) + 1 by omega]
   rfl
  ·rw [if_neg h1]
   by_cases h2 : j = k
   ·subst h2
    rw [if_pos ⟨by omega, by simp⟩, Nat.sub_self, Array.getElem?_setIfInBounds]
    simp
    omega
   ·rw [if_neg (by simp; omega), Array.getElem?_setIfInBounds, if_neg (fun e => h2 e.symm)]
theorem sets_all {cs vs : Array Value} (h : cs.size = vs.size) : setsN cs 0 vs.toList = vs := by
 apply Array.ext_getElem?
 intro j
 rw [sets_get _ 0 cs j (by simp; omega)]
 by_cases h1 : j < vs.size
 ·rw [if_pos ⟨Nat.zero_le _, by simpa using h1⟩]; simp
 ·rw [if_neg (by simp; omega), Array.getElem?_eq_none (by omega), Array.getElem?_eq_none (by omega)]
theorem Blk.there {w : World} {b : Nat} {cs : Array Value} {T : TypeId} (h : Blk w b cs T) {n : Nat} (hn : cs.size = n) : w.there b 0 n := fun j hj => by
 rw [Nat.zero_add, cell_of_row w b j _ _ _ h, Array.getElem?_eq_getElem (by omega)]
 exact ⟨rfl, h.fz j⟩
theorem Blk.range {w : World} {b : Nat} {cs : Array Value} {T : TypeId} (h : Blk w b cs T) : w.rangeAt b 0 cs.toList := fun j v hv => by
 rw [Nat.zero_add, cell_of_row w b j _ _ _ h]
 simpa using hv
def isRowB (P : Program) (ty : TypeId) : Bool := match P.underlying ty with | some d => d.isRow | none => false
theorem store_blk {ops : Array Oper} {rest : List Oper} {op : Oper} {a : Act} {w : World} {Q : Exit → Act → World → Prop} (hgd : op.guard = none) (ty : TypeId) (x y : Operand) (ho : op.op = .store ty x y) {b : Nat} {T : TypeId} {old cells : Array Value} (hB : Blk w b old T) (hx : a.eval x = .pointer (some ⟨b, 0, none⟩)) (hy : a.eval y = .agg cells) {n : Nat} (hi : ((Tri Try.prog).info? ty).map (·.size) = some n) (ho' : old.size = n) (hn : cells.size = n) (h1 : cells.toList.all (·.oneCell') = true)
  (h : ∀ W, Blk W b cells T → Past w W b → wpList (Tri Try.prog) ops Q rest (a.put op.dst undef) W) : wpList (Tri Try.prog) ops Q (op :: rest) a w :=
 wpList_store_mid hgd ty x y ho b 0 cells hx hy (hB.there (ho'.trans hn.symm)) (hi.trans (by rw [hn])) (all_oneCell_toArray (cs := cells.toList) (fun v hv => List.all_eq_true.1 h1 v hv)) (h _ (by have k := blk_setCells cells.toList 0 hB; rw [sets_all (ho'.trans hn.symm)] at k; exact k) (past_setCells _ _ _))
theorem load_blk {ops : Array Oper} {rest : List Oper} {op : Oper} {a : Act} {w : World} {Q : Exit → Act → World → Prop} (hgd : op.guard = none) (ty : TypeId) (x : Operand) (ho : op.op = .load ty x) {b : Nat} {T : TypeId} {cells : Array Value} (hB : Blk w b cells T) (hx : a.eval x = .pointer (some ⟨b, 0, none⟩)) (hr : isRowB (Tri Try.prog) ty = true) {n : Nat} (hi : ((Tri Try.prog).info? ty).map (·.size) = some n) (hn : cells.size = n)
  (h : wpList (Tri Try.prog) ops Q rest (a.put op.dst (.agg cells)) w) : wpList (Tri Try.prog) ops Q (op :: rest) a w := by
 unfold isRowB at hr
 split at hr
 ·next d hu => exact wpList_load_mid hgd ty x ho b 0 hx cells.toList d hB.range hu hr (by rw [hi, ← hn]; simp) h
 ·cases hr
theorem row53 : isRowB (Tri Try.prog) 53 = true := by kernel_rfl
theorem size53 : ((Tri Try.prog).info? 53).map (·.size) = some 13 := by kernel_rfl
theorem load_var {W : World} {b n : Nat} {ty T : TypeId} {cs : Array Value} (hB : Blk W b cs T) (hr : isRowB (Tri Try.prog) ty = true) (hi : ((Tri Try.prog).info? ty).map (·.size) = some n) (hn : cs.size = n) : (loadVar ty ⟨b, 0, none⟩).run (Tri Try.prog) W = .ok (.agg cs) W := by
 unfold isRowB at hr
 split at hr
 ·next d hu => exact run_loadVar_mid W b 0 ty cs.toList d hB.range hu hr (by rw [hi, ← hn]; simp)
 ·cases hr
theorem res_ct {fn : Func} {tmps : Array Value} {W : World} {s0 b0 n0 : Nat} {ty0 T0 : TypeId} {cs0 : Array Value} (hs0 : tmps.getD s0 undef = .pointer (some ⟨b0, 0, none⟩)) (hB0 : Blk W b0 cs0 T0) (hr0 : isRowB (Tri Try.prog) ty0 = true) (hi0 : ((Tri Try.prog).info? ty0).map (·.size) = some n0) (hn0 : cs0.size = n0) {t1 : Nat} {v1 : Value} (hv1 : tmps.getD t1 undef = v1) (hf : fn.results = #[.cell s0 ty0, .tmp t1]) : (results fn tmps).run (Tri Try.prog) W = .ok (.tuple #[.agg cs0, v1]) W := by
 have gs0 : tmps[s0]?.getD undef = .pointer (some ⟨b0, 0, none⟩) := by simpa using hs0
 have gl0 := load_var hB0 hr0 hi0 hn0
 have gv1 : tmps[t1]?.getD undef = v1 := by simpa using hv1
 unfold results
 rw [hf]
 simp [Sem.run_bind, Sem.run_pure, Result.andThen_ok, asAddr, gs0, gl0, gv1]
theorem res_c {fn : Func} {tmps : Array Value} {W : World} {s0 b0 n0 : Nat} {ty0 T0 : TypeId} {cs0 : Array Value} (hs0 : tmps.getD s0 undef = .pointer (some ⟨b0, 0, none⟩)) (hB0 : Blk W b0 cs0 T0) (hr0 : isRowB (Tri Try.prog) ty0 = true) (hi0 : ((Tri Try.prog).info? ty0).map (·.size) = some n0) (hn0 : cs0.size = n0) (hf : fn.results = #[.cell s0 ty0]) : (results fn tmps).run (Tri Try.prog) W = .ok (.agg cs0) W := by
 have gs0 : tmps[s0]?.getD undef = .pointer (some ⟨b0, 0, none⟩) := by simpa using hs0
 have gl0 := load_var hB0 hr0 hi0 hn0
 unfold results
 rw [hf]
 simp [Sem.run_bind, Sem.run_pure, Result.andThen_ok, asAddr, gs0, gl0]
end Go.Proofs.Ytpeoabopeihadaa.Mn
