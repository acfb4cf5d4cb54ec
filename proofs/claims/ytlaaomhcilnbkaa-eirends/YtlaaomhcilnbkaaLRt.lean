/- A loan as it stands: whether it may be (first part). -/
import Derived.Test.YtlaaomhcilnbkaaQJ
set_option linter.unusedVariables false
set_option linter.unusedSimpArgs false
set_option linter.unusedSectionVars false
namespace Go.Proofs.Ytlaaomhcilnbkaa.Mn
open Go.RowKit
attribute [local simp] Tri.typeInfo Tri.sizeOf Tri.underlying Tri.runUnderlying Tri.isAgg Tri.zeroValue Tri.depth Tri.stoodInHeld Tri.eqGuardType Tri.call16 Tri.call3 Tri.call4 Tri.call5 Tri.call6 Tri.call7 Tri.call8 Tri.call9 Tri.call10 Tri.call11 Tri.call12 Tri.call13 Tri.call14 Tri.call15 Tri.call17 Tri.call18 Tri.call19 Tri.call20 Tri.call21 Tri.call22 Tri.call23 Tri.call24 Tri.call25 Tri.call26 Tri.call27 Tri.call28 Tri.call29 Tri.call30 Tri.call31 Tri.call32 Tri.call33 Tri.call34 Tri.call35 Tri.call36 Tri.call37 Tri.call38 Tri.call39 Tri.call40 Tri.call41 Tri.call42 Tri.call43 Tri.call44 Tri.call45 Tri.call46 Tri.call47 Tri.call48 Tri.call49 Tri.call50 Tri.call51 Tri.call52 Tri.call53 Tri.call54 Tri.call55 Tri.call56 Tri.call57 Tri.call58 Tri.call59 Tri.call60 Tri.call61 Tri.call62 Tri.call63 Tri.call64 Tri.call65 Tri.call66 Tri.call67 Tri.call68 Tri.call69 Tri.call70 Tri.call71 Tri.call72 Tri.call73 Tri.call74 Tri.call75 Tri.call76 Tri.call77 Tri.call78 Tri.call79 Tri.call80 Tri.call81 Tri.call82 Tri.call83 Tri.call84 Tri.call85 Tri.call86 Tri.call87 Tri.call88 Tri.call89 Tri.call90 Tri.call91 Tri.call92 Tri.call93 Tri.call94 Tri.call95 Tri.call96 Tri.call97 Tri.call98 Tri.call99 Tri.call100 Tri.call101 Tri.call102 Tri.call103 Tri.call104 Tri.call105 Tri.call106 Tri.call107 Tri.call108 Tri.call109 Tri.call110 Tri.call111 Tri.call112 Tri.call113 Tri.call114 Tri.call115 Tri.call116 Tri.call117 Tri.call118 Tri.call119 Tri.call120 Tri.call121 Tri.call122 Tri.call123 Tri.call124 Tri.call125 Tri.call126 Tri.call127 Tri.call128 Tri.call129 Tri.call130 Tri.call131 Tri.call132 Tri.call133 Tri.call134 Tri.call135 Tri.call136 Tri.call137 Tri.call138 Tri.call139 Tri.call140 Tri.call141 Tri.call142 Tri.call143 Tri.call144 Tri.call145 Tri.call146 Tri.call147 Tri.call148 Tri.call149 Tri.call150 Tri.call151 Tri.call152 Tri.call153 Tri.call154 Tri.call155 Tri.call157 Tri.call158 Tri.call159 Tri.call160 Tri.call161 Tri.call162 Tri.call163 Tri.call165 Tri.call166 Tri.call167 Tri.call183 Tri.call184
/-- A loan but for what is left. -/
structure Ln where
  id : Int
  st : Int
  be : Int
  out : Int
  rt : Int
  gr : Int
  due : Int
  inc : Int
  got : Int
  adj : Int
  wri : Int
  rcv : Int
def inB (lo n hi : Int) : Bool := decide (lo ≤ n) && decide (n ≤ hi)
theorem inB_yes {lo n hi : Int} (h : inB lo n hi = true) : lo ≤ n ∧ n ≤ hi := by
  unfold inB at h
  simpa using h
theorem inB_of {lo n hi : Int} (h : lo ≤ n ∧ n ≤ hi) : inB lo n hi = true := by
  unfold inB
  simpa using h
theorem inB_no {lo n hi : Int} (h : ¬ (lo ≤ n ∧ n ≤ hi)) : inB lo n hi = false := by
  cases e : inB lo n hi with
  | false => rfl
  | true => exact absurd (inB_yes e) h
/-- Block b holds a loan, of the type T. -/
def LB (w : World) (b : Nat) (T : TypeId) (L : Ln) (s : Value) : Prop := w.heap[b]? = some (.cells #[.int .i64 L.id, .int .i64 L.st, .int .i64 L.be, .int .i64 L.out, .int .i64 L.rt, .int .i64 L.gr, .int .i64 L.due, .int .i64 L.inc, .int .i64 L.got, .int .i64 L.adj, .int .i64 L.wri, .int .i64 L.rcv, s] T (0, 0))
section
variable {w w' : World} {b : Nat} {T : TypeId} {L : Ln} {s : Value}
theorem LB.c0 (h : LB w b T L s) : w.cell? ⟨b, 0, none⟩ = some (.int .i64 L.id) := by rw [cell_of_row w b 0 _ _ _ h]; rfl
theorem LB.c1 (h : LB w b T L s) : w.cell? ⟨b, 1, none⟩ = some (.int .i64 L.st) := by rw [cell_of_row w b 1 _ _ _ h]; rfl
theorem LB.c2 (h : LB w b T L s) : w.cell? ⟨b, 2, none⟩ = some (.int .i64 L.be) := by rw [cell_of_row w b 2 _ _ _ h]; rfl
theorem LB.c3 (h : LB w b T L s) : w.cell? ⟨b, 3, none⟩ = some (.int .i64 L.out) := by rw [cell_of_row w b 3 _ _ _ h]; rfl
theorem LB.c4 (h : LB w b T L s) : w.cell? ⟨b, 4, none⟩ = some (.int .i64 L.rt) := by rw [cell_of_row w b 4 _ _ _ h]; rfl
theorem LB.c5 (h : LB w b T L s) : w.cell? ⟨b, 5, none⟩ = some (.int .i64 L.gr) := by rw [cell_of_row w b 5 _ _ _ h]; rfl
theorem LB.c6 (h : LB w b T L s) : w.cell? ⟨b, 6, none⟩ = some (.int .i64 L.due) := by rw [cell_of_row w b 6 _ _ _ h]; rfl
theorem LB.c7 (h : LB w b T L s) : w.cell? ⟨b, 7, none⟩ = some (.int .i64 L.inc) := by rw [cell_of_row w b 7 _ _ _ h]; rfl
theorem LB.c8 (h : LB w b T L s) : w.cell? ⟨b, 8, none⟩ = some (.int .i64 L.got) := by rw [cell_of_row w b 8 _ _ _ h]; rfl
theorem LB.c9 (h : LB w b T L s) : w.cell? ⟨b, 9, none⟩ = some (.int .i64 L.adj) := by rw [cell_of_row w b 9 _ _ _ h]; rfl
theorem LB.c10 (h : LB w b T L s) : w.cell? ⟨b, 10, none⟩ = some (.int .i64 L.wri) := by rw [cell_of_row w b 10 _ _ _ h]; rfl
theorem LB.c11 (h : LB w b T L s) : w.cell? ⟨b, 11, none⟩ = some (.int .i64 L.rcv) := by rw [cell_of_row w b 11 _ _ _ h]; rfl
theorem LB.c12 (h : LB w b T L s) : w.cell? ⟨b, 12, none⟩ = some s := by rw [cell_of_row w b 12 _ _ _ h]; rfl
theorem LB.lt (h : LB w b T L s) : b < w.heap.size := (Array.getElem?_eq_some_iff.1 h).1
theorem LB.keep (h : LB w b T L s) (hb : Below w.heap.size w w') : LB w' b T L s := (hb.block b h.lt).trans h
theorem LB.alloc (h : LB w b T L s) (o : Obj) : LB (w.alloc o) b T L s := (Below.heap_alloc w o b h.lt).trans h
theorem LB.drewN (h : LB w b T L s) (m : Nat) : LB (w.drewN m) b T L s := h
theorem LB.new (w : World) (T : TypeId) (L : Ln) (s : Value) : LB (w.alloc (.cells #[.int .i64 L.id, .int .i64 L.st, .int .i64 L.be, .int .i64 L.out, .int .i64 L.rt, .int .i64 L.gr, .int .i64 L.due, .int .i64 L.inc, .int .i64 L.got, .int .i64 L.adj, .int .i64 L.wri, .int .i64 L.rcv, s] T)) w.heap.size T L s := heap_alloc_new w _
end
theorem below1L (w : World) (o : Obj) : Below w.heap.size w (w.alloc o) := (Below.refl _ _).alloc (Nat.le_refl _) _
/-- What a call answers that only looks. -/
def Tells (f : Nat) (w : World) (args : Array Value) (b : Bool) : Prop := Calls (Tri Try.prog) f args w fun z w' => z = .returned (.bool b) ∧ Below w.heap.size w w'
theorem within_any (n lo hi : Int) (w : World) : Calls (Tri Try.prog) 107 #[.int .i64 n, .int .i64 lo, .int .i64 hi] w fun z w' => z = .returned (.bool (inB lo n hi)) ∧ w' = w := by
  unfold inB
  by_cases h : lo ≤ n
  · have d : decide (lo ≤ n) = true := decide_eq_true h
    rw [d, Bool.true_and]
    by_cases h2 : n ≤ hi
    · have d2 : decide (n ≤ hi) = true := decide_eq_true h2
      rw [d2]
      go_enter (Tri.at (by decide) Try.func107), Try.ntmps107
      go_wp2_with fail
      go_ret
      exact ⟨rfl, rfl⟩
    · have d2 : decide (n ≤ hi) = false := decide_eq_false h2
      rw [d2]
      go_enter (Tri.at (by decide) Try.func107), Try.ntmps107
      go_wp2_with fail
      go_ret
      exact ⟨rfl, rfl⟩
  · have d : decide (lo ≤ n) = false := decide_eq_false h
    rw [d, Bool.false_and]
    go_enter (Tri.at (by decide) Try.func107), Try.ntmps107
    go_wp2_with fail
    go_ret
    exact ⟨rfl, rfl⟩
theorem within_is {n lo hi : Int} {B : Bool} (h : inB lo n hi = B) (w : World) : Calls (Tri Try.prog) 107 #[.int .i64 n, .int .i64 lo, .int .i64 hi] w fun z w' => z = .returned (.bool B) ∧ w' = w := h ▸ within_any n lo hi w
theorem name_is {id : Int} {B : Bool} (h : inB 0 id 2147483647 = B) (w : World) : Calls (Tri Try.prog) 65 #[.int .i64 id] w fun z w' => z = .returned (.bool B) ∧ w' = w := by
  have H := hide (within_is h)
  go_enter (Tri.at (by decide) Try.func65), Try.ntmps65
  go_wp2_with fail
  refine (unhide H _).mono ?_
  rintro e w1 ⟨rfl, rfl⟩
  go_wp2_with fail
  go_ret
  exact ⟨rfl, rfl⟩
def mayBeB (L : Ln) : Bool := (inB 0 L.id 2147483647) && (inB 1 L.st 4) && (inB 0 L.be 600) && (inB 1 L.out 10000000000000) && (mayB L.rt)
theorem mayBe_any (L : Ln) (s : Value) (w : World) : Tells 68 w #[.agg #[.int .i64 L.id, .int .i64 L.st, .int .i64 L.be, .int .i64 L.out, .int .i64 L.rt, .int .i64 L.gr, .int .i64 L.due, .int .i64 L.inc, .int .i64 L.got, .int .i64 L.adj, .int .i64 L.wri, .int .i64 L.rcv, s]] (mayBeB L) := by
  unfold Tells mayBeB
  have HB := hide (below1L w (.cells #[.int .i64 L.id, .int .i64 L.st, .int .i64 L.be, .int .i64 L.out, .int .i64 L.rt, .int .i64 L.gr, .int .i64 L.due, .int .i64 L.inc, .int .i64 L.got, .int .i64 L.adj, .int .i64 L.wri, .int .i64 L.rcv, s] 62))
  by_cases t0 : (inB 0 L.id 2147483647) = true
  case neg =>
    replace t0 := Bool.eq_false_iff.2 t0
    rw [t0]
    have H0 := hide (name_is t0)
    clear t0
    go_enter (Tri.at (by decide) Try.func68), Try.ntmps68
    go_wp2_with fail
    refine (unhide H0 _).mono ?_
    rintro e w1 ⟨rfl, rfl⟩
    go_wp2_with fail
    go_ret
    exact ⟨rfl, unhide HB⟩
  by_cases t1 : (inB 1 L.st 4) = true
  case neg =>
    replace t1 := Bool.eq_false_iff.2 t1
    rw [t0, t1]
    have H0 := hide (name_is t0)
    have H1 := hide (within_is t1)
    clear t0 t1
    go_enter (Tri.at (by decide) Try.func68), Try.ntmps68
    go_wp2_with fail
    refine (unhide H0 _).mono ?_
    rintro e w1 ⟨rfl, rfl⟩
    go_wp2_with fail
    refine (unhide H1 _).mono ?_
    rintro e w1 ⟨rfl, rfl⟩
    go_wp2_with fail
    go_ret
    exact ⟨rfl, unhide HB⟩
  by_cases t2 : (inB 0 L.be 600) = true
  case neg =>
    replace t2 := Bool.eq_false_iff.2 t2
    rw [t0, t1, t2]
    have H0 := hide (name_is t0)
    have H1 := hide (within_is t1)
    have H2 := hide (within_is t2)
    clear t0 t1 t2
    go_enter (Tri.at (by decide) Try.func68), Try.ntmps68
    go_wp2_with fail
    refine (unhide H0 _).mono ?_
    rintro e w1 ⟨rfl, rfl⟩
    go_wp2_with fail
    refine (unhide H1 _).mono ?_
    rintro e w1 ⟨rfl, rfl⟩
    go_wp2_with fail
    refine (unhide H2 _).mono ?_
    rintro e w1 ⟨rfl, rfl⟩
    go_wp2_with fail
    go_ret
    exact ⟨rfl, unhide HB⟩
  by_cases t3 : (inB 1 L.out 10000000000000) = true
  case neg =>
    replace t3 := Bool.eq_false_iff.2 t3
    rw [t0, t1, t2, t3]
    have H0 := hide (name_is t0)
    have H1 := hide (within_is t1)
    have H2 := hide (within_is t2)
    have H3 := hide (within_is t3)
    clear t0 t1 t2 t3
    go_enter (Tri.at (by decide) Try.func68), Try.ntmps68
    go_wp2_with fail
    refine (unhide H0 _).mono ?_
    rintro e w1 ⟨rfl, rfl⟩
    go_wp2_with fail
    refine (unhide H1 _).mono ?_
    rintro e w1 ⟨rfl, rfl⟩
    go_wp2_with fail
    refine (unhide H2 _).mono ?_
    rintro e w1 ⟨rfl, rfl⟩
    go_wp2_with fail
    refine (unhide H3 _).mono ?_
    rintro e w1 ⟨rfl, rfl⟩
    go_wp2_with fail
    go_ret
    exact ⟨rfl, unhide HB⟩
  by_cases t4 : (mayB L.rt) = true
  case neg =>
    replace t4 := Bool.eq_false_iff.2 t4
    rw [t0, t1, t2, t3, t4]
    have H0 := hide (name_is t0)
    have H1 := hide (within_is t1)
    have H2 := hide (within_is t2)
    have H3 := hide (within_is t3)
    have H4 := hide (rate_no t4)
    clear t0 t1 t2 t3 t4
    go_enter (Tri.at (by decide) Try.func68), Try.ntmps68
    go_wp2_with fail
    refine (unhide H0 _).mono ?_
    rintro e w1 ⟨rfl, rfl⟩
    go_wp2_with fail
    refine (unhide H1 _).mono ?_
    rintro e w1 ⟨rfl, rfl⟩
    go_wp2_with fail
    refine (unhide H2 _).mono ?_
    rintro e w1 ⟨rfl, rfl⟩
    go_wp2_with fail
    refine (unhide H3 _).mono ?_
    rintro e w1 ⟨rfl, rfl⟩
    go_wp2_with fail
    refine (unhide H4 _).mono ?_
    rintro e w1 ⟨rfl, rfl⟩
    go_wp2_with fail
    go_ret
    exact ⟨rfl, unhide HB⟩
  rw [t0, t1, t2, t3, t4]
  have H0 := hide (name_is t0)
  have H1 := hide (within_is t1)
  have H2 := hide (within_is t2)
  have H3 := hide (within_is t3)
  have H4 := hide (rate_yes t4)
  clear t0 t1 t2 t3 t4
  go_enter (Tri.at (by decide) Try.func68), Try.ntmps68
  go_wp2_with fail
  refine (unhide H0 _).mono ?_
  rintro e w1 ⟨rfl, rfl⟩
  go_wp2_with fail
  refine (unhide H1 _).mono ?_
  rintro e w1 ⟨rfl, rfl⟩
  go_wp2_with fail
  refine (unhide H2 _).mono ?_
  rintro e w1 ⟨rfl, rfl⟩
  go_wp2_with fail
  refine (unhide H3 _).mono ?_
  rintro e w1 ⟨rfl, rfl⟩
  go_wp2_with fail
  refine (unhide H4 _).mono ?_
  rintro e w1 ⟨rfl, rfl⟩
  go_wp2_with fail
  go_ret
  exact ⟨rfl, unhide HB⟩
end Go.Proofs.Ytlaaomhcilnbkaa.Mn
