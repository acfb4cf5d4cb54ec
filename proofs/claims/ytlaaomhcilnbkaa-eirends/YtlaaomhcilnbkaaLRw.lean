/- Whether a loan may be (fourth part): its sums, its end, what is left. -/
import Derived.Test.YtlaaomhcilnbkaaLRv
set_option linter.unusedVariables false
set_option linter.unusedSimpArgs false
set_option linter.unusedSectionVars false
namespace Go.Proofs.Ytlaaomhcilnbkaa.Mn
open Go.RowKit
attribute [local simp] Tri.typeInfo Tri.sizeOf Tri.underlying Tri.runUnderlying Tri.isAgg Tri.zeroValue Tri.depth Tri.stoodInHeld Tri.eqGuardType Tri.call16 Tri.call3 Tri.call4 Tri.call5 Tri.call6 Tri.call7 Tri.call8 Tri.call9 Tri.call10 Tri.call11 Tri.call12 Tri.call13 Tri.call14 Tri.call15 Tri.call17 Tri.call18 Tri.call19 Tri.call20 Tri.call21 Tri.call22 Tri.call23 Tri.call24 Tri.call25 Tri.call26 Tri.call27 Tri.call28 Tri.call29 Tri.call30 Tri.call31 Tri.call32 Tri.call33 Tri.call34 Tri.call35 Tri.call36 Tri.call37 Tri.call38 Tri.call39 Tri.call40 Tri.call41 Tri.call42 Tri.call43 Tri.call44 Tri.call45 Tri.call46 Tri.call47 Tri.call48 Tri.call49 Tri.call50 Tri.call51 Tri.call52 Tri.call53 Tri.call54 Tri.call55 Tri.call56 Tri.call57 Tri.call58 Tri.call59 Tri.call60 Tri.call61 Tri.call62 Tri.call63 Tri.call64 Tri.call65 Tri.call66 Tri.call67 Tri.call68 Tri.call69 Tri.call70 Tri.call71 Tri.call72 Tri.call73 Tri.call74 Tri.call75 Tri.call76 Tri.call77 Tri.call78 Tri.call79 Tri.call80 Tri.call81 Tri.call82 Tri.call83 Tri.call84 Tri.call85 Tri.call86 Tri.call87 Tri.call88 Tri.call89 Tri.call90 Tri.call91 Tri.call92 Tri.call93 Tri.call94 Tri.call95 Tri.call96 Tri.call97 Tri.call98 Tri.call99 Tri.call100 Tri.call101 Tri.call102 Tri.call103 Tri.call104 Tri.call105 Tri.call106 Tri.call107 Tri.call108 Tri.call109 Tri.call110 Tri.call111 Tri.call112 Tri.call113 Tri.call114 Tri.call115 Tri.call116 Tri.call117 Tri.call118 Tri.call119 Tri.call120 Tri.call121 Tri.call122 Tri.call123 Tri.call124 Tri.call125 Tri.call126 Tri.call127 Tri.call128 Tri.call129 Tri.call130 Tri.call131 Tri.call132 Tri.call133 Tri.call134 Tri.call135 Tri.call136 Tri.call137 Tri.call138 Tri.call139 Tri.call140 Tri.call141 Tri.call142 Tri.call143 Tri.call144 Tri.call145 Tri.call146 Tri.call147 Tri.call148 Tri.call149 Tri.call150 Tri.call151 Tri.call152 Tri.call153 Tri.call154 Tri.call155 Tri.call157 Tri.call158 Tri.call159 Tri.call160 Tri.call161 Tri.call162 Tri.call163 Tri.call165 Tri.call166 Tri.call167 Tri.call183 Tri.call184
theorem come_nil (a : Option Addr) (cap : Nat) (w : World) : Calls (Tri Try.prog) 69 #[.slice a 0 cap] w fun z w' => z = .returned (.bool (([] : List Int).all (fun x => inB 0 x 10000000000000))) ∧ w' = w := by
  go_enter (Tri.at (by decide) Try.func69), Try.ntmps69
  go_wp2_with fail
  refine wp_loop_rounds 1 ?_
  rw [rounds_succ]
  go_wp2_with fail
  go_ret
  exact ⟨rfl, rfl⟩
theorem sum_any (L : Ln) (s : Value) (w : World) : Tells 70 w #[.agg #[.int .i64 L.id, .int .i64 L.st, .int .i64 L.be, .int .i64 L.out, .int .i64 L.rt, .int .i64 L.gr, .int .i64 L.due, .int .i64 L.inc, .int .i64 L.got, .int .i64 L.adj, .int .i64 L.wri, .int .i64 L.rcv, s]] (sumB L) := by
  unfold sumB
  by_cases t0 : inB 0 L.gr 1125899906842624 = true
  case neg =>
    replace t0 := Bool.eq_false_iff.2 t0
    have h := sum_0 L s w t0
    simpa only [t0, Bool.true_and, Bool.and_true, Bool.false_and, Bool.and_false] using h
  by_cases t1 : inB 0 L.got 1125899906842624 = true
  case neg =>
    replace t1 := Bool.eq_false_iff.2 t1
    have h := sum_1 L s w t0 t1
    simpa only [t0, t1, Bool.true_and, Bool.and_true, Bool.false_and, Bool.and_false] using h
  by_cases t2 : inB 0 L.wri 1125899906842624 = true
  case neg =>
    replace t2 := Bool.eq_false_iff.2 t2
    have h := sum_2 L s w t0 t1 t2
    simpa only [t0, t1, t2, Bool.true_and, Bool.and_true, Bool.false_and, Bool.and_false] using h
  by_cases t3 : inB 0 L.rcv 1125899906842624 = true
  case neg =>
    replace t3 := Bool.eq_false_iff.2 t3
    have h := sum_3 L s w t0 t1 t2 t3
    simpa only [t0, t1, t2, t3, Bool.true_and, Bool.and_true, Bool.false_and, Bool.and_false] using h
  by_cases t4 : inB (-1125899906842624) L.due 1125899906842624 = true
  case neg =>
    replace t4 := Bool.eq_false_iff.2 t4
    have h := sum_4 L s w t0 t1 t2 t3 t4
    simpa only [t0, t1, t2, t3, t4, Bool.true_and, Bool.and_true, Bool.false_and, Bool.and_false] using h
  by_cases t5 : inB (-1125899906842624) L.inc 1125899906842624 = true
  case neg =>
    replace t5 := Bool.eq_false_iff.2 t5
    have h := sum_5 L s w t0 t1 t2 t3 t4 t5
    simpa only [t0, t1, t2, t3, t4, t5, Bool.true_and, Bool.and_true, Bool.false_and, Bool.and_false] using h
  by_cases t6 : inB (-1125899906842624) L.adj 1125899906842624 = true
  case neg =>
    replace t6 := Bool.eq_false_iff.2 t6
    have h := sum_6 L s w t0 t1 t2 t3 t4 t5 t6
    simpa only [t0, t1, t2, t3, t4, t5, t6, Bool.true_and, Bool.and_true, Bool.false_and, Bool.and_false] using h
  have h := sum_7 L s w t0 t1 t2 t3 t4 t5 t6
  simpa only [t0, t1, t2, t3, t4, t5, t6, Bool.true_and, Bool.and_true] using h
theorem ends_a (L : Ln) (a : Option Addr) (len cap : Nat) (w : World) (t0 : (L.st == 1) = true) : Tells 71 w #[.agg #[.int .i64 L.id, .int .i64 L.st, .int .i64 L.be, .int .i64 L.out, .int .i64 L.rt, .int .i64 L.gr, .int .i64 L.due, .int .i64 L.inc, .int .i64 L.got, .int .i64 L.adj, .int .i64 L.wri, .int .i64 L.rcv, .slice a len cap]] true := by
  unfold Tells
  have HB := hide (below1L w (.cells #[.int .i64 L.id, .int .i64 L.st, .int .i64 L.be, .int .i64 L.out, .int .i64 L.rt, .int .i64 L.gr, .int .i64 L.due, .int .i64 L.inc, .int .i64 L.got, .int .i64 L.adj, .int .i64 L.wri, .int .i64 L.rcv, .slice a len cap] 62))
  go_enter (Tri.at (by decide) Try.func71), Try.ntmps71
  go_wp2_with fail
  go_ret
  exact ⟨rfl, unhide HB⟩
theorem ends_b (L : Ln) (a : Option Addr) (len cap : Nat) (w : World) (t0 : (L.st == 1) = false) (t1 : (L.gr == 0) = false) : Tells 71 w #[.agg #[.int .i64 L.id, .int .i64 L.st, .int .i64 L.be, .int .i64 L.out, .int .i64 L.rt, .int .i64 L.gr, .int .i64 L.due, .int .i64 L.inc, .int .i64 L.got, .int .i64 L.adj, .int .i64 L.wri, .int .i64 L.rcv, .slice a len cap]] false := by
  unfold Tells
  have HB := hide (below1L w (.cells #[.int .i64 L.id, .int .i64 L.st, .int .i64 L.be, .int .i64 L.out, .int .i64 L.rt, .int .i64 L.gr, .int .i64 L.due, .int .i64 L.inc, .int .i64 L.got, .int .i64 L.adj, .int .i64 L.wri, .int .i64 L.rcv, .slice a len cap] 62))
  go_enter (Tri.at (by decide) Try.func71), Try.ntmps71
  go_wp2_with fail
  go_ret
  exact ⟨rfl, unhide HB⟩
theorem ends_c (L : Ln) (a : Option Addr) (len cap : Nat) (w : World) (t0 : (L.st == 1) = false) (t1 : (L.gr == 0) = true) (t2 : (L.due == 0) = false) : Tells 71 w #[.agg #[.int .i64 L.id, .int .i64 L.st, .int .i64 L.be, .int .i64 L.out, .int .i64 L.rt, .int .i64 L.gr, .int .i64 L.due, .int .i64 L.inc, .int .i64 L.got, .int .i64 L.adj, .int .i64 L.wri, .int .i64 L.rcv, .slice a len cap]] false := by
  unfold Tells
  have HB := hide (below1L w (.cells #[.int .i64 L.id, .int .i64 L.st, .int .i64 L.be, .int .i64 L.out, .int .i64 L.rt, .int .i64 L.gr, .int .i64 L.due, .int .i64 L.inc, .int .i64 L.got, .int .i64 L.adj, .int .i64 L.wri, .int .i64 L.rcv, .slice a len cap] 62))
  go_enter (Tri.at (by decide) Try.func71), Try.ntmps71
  go_wp2_with fail
  go_ret
  exact ⟨rfl, unhide HB⟩
theorem ends_d (L : Ln) (a : Option Addr) (len cap : Nat) (w : World) (t0 : (L.st == 1) = false) (t1 : (L.gr == 0) = true) (t2 : (L.due == 0) = true) (t3 : ((len : Int) == 0) = false) : Tells 71 w #[.agg #[.int .i64 L.id, .int .i64 L.st, .int .i64 L.be, .int .i64 L.out, .int .i64 L.rt, .int .i64 L.gr, .int .i64 L.due, .int .i64 L.inc, .int .i64 L.got, .int .i64 L.adj, .int .i64 L.wri, .int .i64 L.rcv, .slice a len cap]] false := by
  unfold Tells
  have HB := hide (below1L w (.cells #[.int .i64 L.id, .int .i64 L.st, .int .i64 L.be, .int .i64 L.out, .int .i64 L.rt, .int .i64 L.gr, .int .i64 L.due, .int .i64 L.inc, .int .i64 L.got, .int .i64 L.adj, .int .i64 L.wri, .int .i64 L.rcv, .slice a len cap] 62))
  go_enter (Tri.at (by decide) Try.func71), Try.ntmps71
  go_wp2_with fail
  go_ret
  exact ⟨rfl, unhide HB⟩
theorem ends_e (L : Ln) (a : Option Addr) (len cap : Nat) (w : World) (t0 : (L.st == 1) = false) (t1 : (L.gr == 0) = true) (t2 : (L.due == 0) = true) (t3 : ((len : Int) == 0) = true) : Tells 71 w #[.agg #[.int .i64 L.id, .int .i64 L.st, .int .i64 L.be, .int .i64 L.out, .int .i64 L.rt, .int .i64 L.gr, .int .i64 L.due, .int .i64 L.inc, .int .i64 L.got, .int .i64 L.adj, .int .i64 L.wri, .int .i64 L.rcv, .slice a len cap]] true := by
  unfold Tells
  have HB := hide (below1L w (.cells #[.int .i64 L.id, .int .i64 L.st, .int .i64 L.be, .int .i64 L.out, .int .i64 L.rt, .int .i64 L.gr, .int .i64 L.due, .int .i64 L.inc, .int .i64 L.got, .int .i64 L.adj, .int .i64 L.wri, .int .i64 L.rcv, .slice a len cap] 62))
  go_enter (Tri.at (by decide) Try.func71), Try.ntmps71
  go_wp2_with fail
  go_ret
  exact ⟨rfl, unhide HB⟩
theorem ends_any (L : Ln) (a : Option Addr) (cap : Nat) (l : List Int) (w : World) : Tells 71 w #[.agg #[.int .i64 L.id, .int .i64 L.st, .int .i64 L.be, .int .i64 L.out, .int .i64 L.rt, .int .i64 L.gr, .int .i64 L.due, .int .i64 L.inc, .int .i64 L.got, .int .i64 L.adj, .int .i64 L.wri, .int .i64 L.rcv, .slice a l.length cap]] (endB L l) := by
  unfold endB
  by_cases h0 : L.st = 1
  · rw [decide_eq_true h0, Bool.true_or]
    exact ends_a L a _ cap w (by simpa using h0)
  have t0 : (L.st == 1) = false := by simpa using h0
  rw [decide_eq_false h0, Bool.false_or]
  by_cases h1 : L.gr = 0
  case neg =>
    rw [decide_eq_false h1, Bool.false_and]
    exact ends_b L a _ cap w t0 (by simpa using h1)
  have t1 : (L.gr == 0) = true := by simpa using h1
  rw [decide_eq_true h1, Bool.true_and]
  by_cases h2 : L.due = 0
  case neg =>
    rw [decide_eq_false h2, Bool.false_and]
    exact ends_c L a _ cap w t0 t1 (by simpa using h2)
  have t2 : (L.due == 0) = true := by simpa using h2
  rw [decide_eq_true h2, Bool.true_and]
  by_cases h3 : l.length = 0
  case neg =>
    rw [decide_eq_false h3]
    exact ends_d L a _ cap w t0 t1 t2 (by simpa using h3)
  rw [decide_eq_true h3]
  exact ends_e L a _ cap w t0 t1 t2 (by simpa using h3)
/-- What mayCome answers. -/
theorem come_any {w : World} {v : Value} {l : List Int} (hR : Row w v l) : Calls (Tri Try.prog) 69 #[v] w fun z w' => z = .returned (.bool (amtL l)) ∧ w' = w := by
  unfold amtL
  by_cases hl : 600 < l.length
  · obtain ⟨a, cap, rfl⟩ := row_slice hR
    rw [decide_eq_false (by omega), Bool.false_and]
    exact come_long a _ cap w hl
  rw [decide_eq_true (by omega), Bool.true_and]
  rcases hR with ⟨a, cap, rfl, rfl⟩ | ⟨rb, ro, cap, rfl, h0, _, hc, _⟩
  · exact come_nil a cap w
  refine come_row rb ro cap _ l _ w hl hc ?_
  cases e : l.all (fun x => inB 0 x 10000000000000) with
  | true =>
    refine .inr ⟨rfl, fun j hj => ?_⟩
    have := List.all_eq_true.1 e (l[j]) (List.getElem_mem hj)
    rw [show l.getD j 0 = l[j] by simp [List.getD, hj]]
    exact this
  | false =>
    refine .inl ⟨rfl, ?_⟩
    refine Classical.byContradiction fun hn => ?_
    have : l.all (fun x => inB 0 x 10000000000000) = true := List.all_eq_true.2 (fun x hx => by
      obtain ⟨j, hj, rfl⟩ := List.getElem_of_mem hx
      cases e2 : inB 0 (l[j]) 10000000000000 with
      | true => rfl
      | false => exact absurd ⟨j, hj, by rw [show l.getD j 0 = l[j] by simp [List.getD, hj]]; exact e2⟩ hn)
    rw [e] at this
    cases this
end Go.Proofs.Ytlaaomhcilnbkaa.Mn
