/- Whether a loan may be (third part): its sums. -/
import Derived.Test.YtlaaomhcilnbkaaLRu
set_option linter.unusedVariables false
set_option linter.unusedSimpArgs false
set_option linter.unusedSectionVars false
namespace Go.Proofs.Ytlaaomhcilnbkaa.Mn
open Go.RowKit
attribute [local simp] Tri.typeInfo Tri.sizeOf Tri.underlying Tri.runUnderlying Tri.isAgg Tri.zeroValue Tri.depth Tri.stoodInHeld Tri.eqGuardType Tri.call16 Tri.call3 Tri.call4 Tri.call5 Tri.call6 Tri.call7 Tri.call8 Tri.call9 Tri.call10 Tri.call11 Tri.call12 Tri.call13 Tri.call14 Tri.call15 Tri.call17 Tri.call18 Tri.call19 Tri.call20 Tri.call21 Tri.call22 Tri.call23 Tri.call24 Tri.call25 Tri.call26 Tri.call27 Tri.call28 Tri.call29 Tri.call30 Tri.call31 Tri.call32 Tri.call33 Tri.call34 Tri.call35 Tri.call36 Tri.call37 Tri.call38 Tri.call39 Tri.call40 Tri.call41 Tri.call42 Tri.call43 Tri.call44 Tri.call45 Tri.call46 Tri.call47 Tri.call48 Tri.call49 Tri.call50 Tri.call51 Tri.call52 Tri.call53 Tri.call54 Tri.call55 Tri.call56 Tri.call57 Tri.call58 Tri.call59 Tri.call60 Tri.call61 Tri.call62 Tri.call63 Tri.call64 Tri.call65 Tri.call66 Tri.call67 Tri.call68 Tri.call69 Tri.call70 Tri.call71 Tri.call72 Tri.call73 Tri.call74 Tri.call75 Tri.call76 Tri.call77 Tri.call78 Tri.call79 Tri.call80 Tri.call81 Tri.call82 Tri.call83 Tri.call84 Tri.call85 Tri.call86 Tri.call87 Tri.call88 Tri.call89 Tri.call90 Tri.call91 Tri.call92 Tri.call93 Tri.call94 Tri.call95 Tri.call96 Tri.call97 Tri.call98 Tri.call99 Tri.call100 Tri.call101 Tri.call102 Tri.call103 Tri.call104 Tri.call105 Tri.call106 Tri.call107 Tri.call108 Tri.call109 Tri.call110 Tri.call111 Tri.call112 Tri.call113 Tri.call114 Tri.call115 Tri.call116 Tri.call117 Tri.call118 Tri.call119 Tri.call120 Tri.call121 Tri.call122 Tri.call123 Tri.call124 Tri.call125 Tri.call126 Tri.call127 Tri.call128 Tri.call129 Tri.call130 Tri.call131 Tri.call132 Tri.call133 Tri.call134 Tri.call135 Tri.call136 Tri.call137 Tri.call138 Tri.call139 Tri.call140 Tri.call141 Tri.call142 Tri.call143 Tri.call144 Tri.call145 Tri.call146 Tri.call147 Tri.call148 Tri.call149 Tri.call150 Tri.call151 Tri.call152 Tri.call153 Tri.call154 Tri.call155 Tri.call157 Tri.call158 Tri.call159 Tri.call160 Tri.call161 Tri.call162 Tri.call163 Tri.call165 Tri.call166 Tri.call167 Tri.call183 Tri.call184
set_option maxHeartbeats 1600000 in
theorem sum_0 (L : Ln) (s : Value) (w : World) (t0 : inB 0 L.gr 1125899906842624 = false) : Tells 70 w #[.agg #[.int .i64 L.id, .int .i64 L.st, .int .i64 L.be, .int .i64 L.out, .int .i64 L.rt, .int .i64 L.gr, .int .i64 L.due, .int .i64 L.inc, .int .i64 L.got, .int .i64 L.adj, .int .i64 L.wri, .int .i64 L.rcv, s]] false := by
  unfold Tells
  have HB := hide (below1L w (.cells #[.int .i64 L.id, .int .i64 L.st, .int .i64 L.be, .int .i64 L.out, .int .i64 L.rt, .int .i64 L.gr, .int .i64 L.due, .int .i64 L.inc, .int .i64 L.got, .int .i64 L.adj, .int .i64 L.wri, .int .i64 L.rcv, s] 62))
  have x138_0 : ∀ w : World, (Instr.index 138 (.agg #[.int .i64 L.gr, .int .i64 L.got, .int .i64 L.wri, .int .i64 L.rcv]) (.int .i64 0)).run (Tri Try.prog) w = .ok (.int .i64 L.gr) w := fun w => by kernel_rfl
  have x138_1 : ∀ w : World, (Instr.index 138 (.agg #[.int .i64 L.gr, .int .i64 L.got, .int .i64 L.wri, .int .i64 L.rcv]) (.int .i64 1)).run (Tri Try.prog) w = .ok (.int .i64 L.got) w := fun w => by kernel_rfl
  have x138_2 : ∀ w : World, (Instr.index 138 (.agg #[.int .i64 L.gr, .int .i64 L.got, .int .i64 L.wri, .int .i64 L.rcv]) (.int .i64 2)).run (Tri Try.prog) w = .ok (.int .i64 L.wri) w := fun w => by kernel_rfl
  have x138_3 : ∀ w : World, (Instr.index 138 (.agg #[.int .i64 L.gr, .int .i64 L.got, .int .i64 L.wri, .int .i64 L.rcv]) (.int .i64 3)).run (Tri Try.prog) w = .ok (.int .i64 L.rcv) w := fun w => by kernel_rfl
  have x139_0 : ∀ w : World, (Instr.index 139 (.agg #[.int .i64 L.due, .int .i64 L.inc, .int .i64 L.adj]) (.int .i64 0)).run (Tri Try.prog) w = .ok (.int .i64 L.due) w := fun w => by kernel_rfl
  have x139_1 : ∀ w : World, (Instr.index 139 (.agg #[.int .i64 L.due, .int .i64 L.inc, .int .i64 L.adj]) (.int .i64 1)).run (Tri Try.prog) w = .ok (.int .i64 L.inc) w := fun w => by kernel_rfl
  have x139_2 : ∀ w : World, (Instr.index 139 (.agg #[.int .i64 L.due, .int .i64 L.inc, .int .i64 L.adj]) (.int .i64 2)).run (Tri Try.prog) w = .ok (.int .i64 L.adj) w := fun w => by kernel_rfl
  have H0 := hide (within_is t0)
  clear t0
  go_enter (Tri.at (by decide) Try.func70), Try.ntmps70
  go_wp2_with fail
  refine wp_loop_rounds 5 ?_
  rw [rounds_succ]
  go_wp2_with fail
  refine (unhide H0 _).mono ?_
  rintro e w1 ⟨rfl, rfl⟩
  go_wp2_with fail
  go_ret
  exact ⟨rfl, unhide HB⟩
set_option maxHeartbeats 1600000 in
theorem sum_1 (L : Ln) (s : Value) (w : World) (t0 : inB 0 L.gr 1125899906842624 = true) (t1 : inB 0 L.got 1125899906842624 = false) : Tells 70 w #[.agg #[.int .i64 L.id, .int .i64 L.st, .int .i64 L.be, .int .i64 L.out, .int .i64 L.rt, .int .i64 L.gr, .int .i64 L.due, .int .i64 L.inc, .int .i64 L.got, .int .i64 L.adj, .int .i64 L.wri, .int .i64 L.rcv, s]] false := by
  unfold Tells
  have HB := hide (below1L w (.cells #[.int .i64 L.id, .int .i64 L.st, .int .i64 L.be, .int .i64 L.out, .int .i64 L.rt, .int .i64 L.gr, .int .i64 L.due, .int .i64 L.inc, .int .i64 L.got, .int .i64 L.adj, .int .i64 L.wri, .int .i64 L.rcv, s] 62))
  have x138_0 : ∀ w : World, (Instr.index 138 (.agg #[.int .i64 L.gr, .int .i64 L.got, .int .i64 L.wri, .int .i64 L.rcv]) (.int .i64 0)).run (Tri Try.prog) w = .ok (.int .i64 L.gr) w := fun w => by kernel_rfl
  have x138_1 : ∀ w : World, (Instr.index 138 (.agg #[.int .i64 L.gr, .int .i64 L.got, .int .i64 L.wri, .int .i64 L.rcv]) (.int .i64 1)).run (Tri Try.prog) w = .ok (.int .i64 L.got) w := fun w => by kernel_rfl
  have x138_2 : ∀ w : World, (Instr.index 138 (.agg #[.int .i64 L.gr, .int .i64 L.got, .int .i64 L.wri, .int .i64 L.rcv]) (.int .i64 2)).run (Tri Try.prog) w = .ok (.int .i64 L.wri) w := fun w => by kernel_rfl
  have x138_3 : ∀ w : World, (Instr.index 138 (.agg #[.int .i64 L.gr, .int .i64 L.got, .int .i64 L.wri, .int .i64 L.rcv]) (.int .i64 3)).run (Tri Try.prog) w = .ok (.int .i64 L.rcv) w := fun w => by kernel_rfl
  have x139_0 : ∀ w : World, (Instr.index 139 (.agg #[.int .i64 L.due, .int .i64 L.inc, .int .i64 L.adj]) (.int .i64 0)).run (Tri Try.prog) w = .ok (.int .i64 L.due) w := fun w => by kernel_rfl
  have x139_1 : ∀ w : World, (Instr.index 139 (.agg #[.int .i64 L.due, .int .i64 L.inc, .int .i64 L.adj]) (.int .i64 1)).run (Tri Try.prog) w = .ok (.int .i64 L.inc) w := fun w => by kernel_rfl
  have x139_2 : ∀ w : World, (Instr.index 139 (.agg #[.int .i64 L.due, .int .i64 L.inc, .int .i64 L.adj]) (.int .i64 2)).run (Tri Try.prog) w = .ok (.int .i64 L.adj) w := fun w => by kernel_rfl
  have H0 := hide (within_is t0)
  have H1 := hide (within_is t1)
  clear t0 t1
  go_enter (Tri.at (by decide) Try.func70), Try.ntmps70
  go_wp2_with fail
  refine wp_loop_rounds 5 ?_
  rw [rounds_succ]
  go_wp2_with fail
  refine (unhide H0 _).mono ?_
  rintro e w1 ⟨rfl, rfl⟩
  go_wp2_with fail
  rw [rounds_succ]
  go_wp2_with fail
  refine (unhide H1 _).mono ?_
  rintro e w1 ⟨rfl, rfl⟩
  go_wp2_with fail
  go_ret
  exact ⟨rfl, unhide HB⟩
set_option maxHeartbeats 1600000 in
theorem sum_2 (L : Ln) (s : Value) (w : World) (t0 : inB 0 L.gr 1125899906842624 = true) (t1 : inB 0 L.got 1125899906842624 = true) (t2 : inB 0 L.wri 1125899906842624 = false) : Tells 70 w #[.agg #[.int .i64 L.id, .int .i64 L.st, .int .i64 L.be, .int .i64 L.out, .int .i64 L.rt, .int .i64 L.gr, .int .i64 L.due, .int .i64 L.inc, .int .i64 L.got, .int .i64 L.adj, .int .i64 L.wri, .int .i64 L.rcv, s]] false := by
  unfold Tells
  have HB := hide (below1L w (.cells #[.int .i64 L.id, .int .i64 L.st, .int .i64 L.be, .int .i64 L.out, .int .i64 L.rt, .int .i64 L.gr, .int .i64 L.due, .int .i64 L.inc, .int .i64 L.got, .int .i64 L.adj, .int .i64 L.wri, .int .i64 L.rcv, s] 62))
  have x138_0 : ∀ w : World, (Instr.index 138 (.agg #[.int .i64 L.gr, .int .i64 L.got, .int .i64 L.wri, .int .i64 L.rcv]) (.int .i64 0)).run (Tri Try.prog) w = .ok (.int .i64 L.gr) w := fun w => by kernel_rfl
  have x138_1 : ∀ w : World, (Instr.index 138 (.agg #[.int .i64 L.gr, .int .i64 L.got, .int .i64 L.wri, .int .i64 L.rcv]) (.int .i64 1)).run (Tri Try.prog) w = .ok (.int .i64 L.got) w := fun w => by kernel_rfl
  have x138_2 : ∀ w : World, (Instr.index 138 (.agg #[.int .i64 L.gr, .int .i64 L.got, .int .i64 L.wri, .int .i64 L.rcv]) (.int .i64 2)).run (Tri Try.prog) w = .ok (.int .i64 L.wri) w := fun w => by kernel_rfl
  have x138_3 : ∀ w : World, (Instr.index 138 (.agg #[.int .i64 L.gr, .int .i64 L.got, .int .i64 L.wri, .int .i64 L.rcv]) (.int .i64 3)).run (Tri Try.prog) w = .ok (.int .i64 L.rcv) w := fun w => by kernel_rfl
  have x139_0 : ∀ w : World, (Instr.index 139 (.agg #[.int .i64 L.due, .int .i64 L.inc, .int .i64 L.adj]) (.int .i64 0)).run (Tri Try.prog) w = .ok (.int .i64 L.due) w := fun w => by kernel_rfl
  have x139_1 : ∀ w : World, (Instr.index 139 (.agg #[.int .i64 L.due, .int .i64 L.inc, .int .i64 L.adj]) (.int .i64 1)).run (Tri Try.prog) w = .ok (.int .i64 L.inc) w := fun w => by kernel_rfl
  have x139_2 : ∀ w : World, (Instr.index 139 (.agg #[.int .i64 L.due, .int .i64 L.inc, .int .i64 L.adj]) (.int .i64 2)).run (Tri Try.prog) w = .ok (.int .i64 L.adj) w := fun w => by kernel_rfl
  have H0 := hide (within_is t0)
  have H1 := hide (within_is t1)
  have H2 := hide (within_is t2)
  clear t0 t1 t2
  go_enter (Tri.at (by decide) Try.func70), Try.ntmps70
  go_wp2_with fail
  refine wp_loop_rounds 5 ?_
  rw [rounds_succ]
  go_wp2_with fail
  refine (unhide H0 _).mono ?_
  rintro e w1 ⟨rfl, rfl⟩
  go_wp2_with fail
  rw [rounds_succ]
  go_wp2_with fail
  refine (unhide H1 _).mono ?_
  rintro e w1 ⟨rfl, rfl⟩
  go_wp2_with fail
  rw [rounds_succ]
  go_wp2_with fail
  refine (unhide H2 _).mono ?_
  rintro e w1 ⟨rfl, rfl⟩
  go_wp2_with fail
  go_ret
  exact ⟨rfl, unhide HB⟩
set_option maxHeartbeats 1600000 in
theorem sum_3 (L : Ln) (s : Value) (w : World) (t0 : inB 0 L.gr 1125899906842624 = true) (t1 : inB 0 L.got 1125899906842624 = true) (t2 : inB 0 L.wri 1125899906842624 = true) (t3 : inB 0 L.rcv 1125899906842624 = false) : Tells 70 w #[.agg #[.int .i64 L.id, .int .i64 L.st, .int .i64 L.be, .int .i64 L.out, .int .i64 L.rt, .int .i64 L.gr, .int .i64 L.due, .int .i64 L.inc, .int .i64 L.got, .int .i64 L.adj, .int .i64 L.wri, .int .i64 L.rcv, s]] false := by
  unfold Tells
  have HB := hide (below1L w (.cells #[.int .i64 L.id, .int .i64 L.st, .int .i64 L.be, .int .i64 L.out, .int .i64 L.rt, .int .i64 L.gr, .int .i64 L.due, .int .i64 L.inc, .int .i64 L.got, .int .i64 L.adj, .int .i64 L.wri, .int .i64 L.rcv, s] 62))
  have x138_0 : ∀ w : World, (Instr.index 138 (.agg #[.int .i64 L.gr, .int .i64 L.got, .int .i64 L.wri, .int .i64 L.rcv]) (.int .i64 0)).run (Tri Try.prog) w = .ok (.int .i64 L.gr) w := fun w => by kernel_rfl
  have x138_1 : ∀ w : World, (Instr.index 138 (.agg #[.int .i64 L.gr, .int .i64 L.got, .int .i64 L.wri, .int .i64 L.rcv]) (.int .i64 1)).run (Tri Try.prog) w = .ok (.int .i64 L.got) w := fun w => by kernel_rfl
  have x138_2 : ∀ w : World, (Instr.index 138 (.agg #[.int .i64 L.gr, .int .i64 L.got, .int .i64 L.wri, .int .i64 L.rcv]) (.int .i64 2)).run (Tri Try.prog) w = .ok (.int .i64 L.wri) w := fun w => by kernel_rfl
  have x138_3 : ∀ w : World, (Instr.index 138 (.agg #[.int .i64 L.gr, .int .i64 L.got, .int .i64 L.wri, .int .i64 L.rcv]) (.int .i64 3)).run (Tri Try.prog) w = .ok (.int .i64 L.rcv) w := fun w => by kernel_rfl
  have x139_0 : ∀ w : World, (Instr.index 139 (.agg #[.int .i64 L.due, .int .i64 L.inc, .int .i64 L.adj]) (.int .i64 0)).run (Tri Try.prog) w = .ok (.int .i64 L.due) w := fun w => by kernel_rfl
  have x139_1 : ∀ w : World, (Instr.index 139 (.agg #[.int .i64 L.due, .int .i64 L.inc, .int .i64 L.adj]) (.int .i64 1)).run (Tri Try.prog) w = .ok (.int .i64 L.inc) w := fun w => by kernel_rfl
  have x139_2 : ∀ w : World, (Instr.index 139 (.agg #[.int .i64 L.due, .int .i64 L.inc, .int .i64 L.adj]) (.int .i64 2)).run (Tri Try.prog) w = .ok (.int .i64 L.adj) w := fun w => by kernel_rfl
  have H0 := hide (within_is t0)
  have H1 := hide (within_is t1)
  have H2 := hide (within_is t2)
  have H3 := hide (within_is t3)
  clear t0 t1 t2 t3
  go_enter (Tri.at (by decide) Try.func70), Try.ntmps70
  go_wp2_with fail
  refine wp_loop_rounds 5 ?_
  rw [rounds_succ]
  go_wp2_with fail
  refine (unhide H0 _).mono ?_
  rintro e w1 ⟨rfl, rfl⟩
  go_wp2_with fail
  rw [rounds_succ]
  go_wp2_with fail
  refine (unhide H1 _).mono ?_
  rintro e w1 ⟨rfl, rfl⟩
  go_wp2_with fail
  rw [rounds_succ]
  go_wp2_with fail
  refine (unhide H2 _).mono ?_
  rintro e w1 ⟨rfl, rfl⟩
  go_wp2_with fail
  rw [rounds_succ]
  go_wp2_with fail
  refine (unhide H3 _).mono ?_
  rintro e w1 ⟨rfl, rfl⟩
  go_wp2_with fail
  go_ret
  exact ⟨rfl, unhide HB⟩
set_option maxHeartbeats 1600000 in
theorem sum_4 (L : Ln) (s : Value) (w : World) (t0 : inB 0 L.gr 1125899906842624 = true) (t1 : inB 0 L.got 1125899906842624 = true) (t2 : inB 0 L.wri 1125899906842624 = true) (t3 : inB 0 L.rcv 1125899906842624 = true) (t4 : inB (-1125899906842624) L.due 1125899906842624 = false) : Tells 70 w #[.agg #[.int .i64 L.id, .int .i64 L.st, .int .i64 L.be, .int .i64 L.out, .int .i64 L.rt, .int .i64 L.gr, .int .i64 L.due, .int .i64 L.inc, .int .i64 L.got, .int .i64 L.adj, .int .i64 L.wri, .int .i64 L.rcv, s]] false := by
  unfold Tells
  have HB := hide (below1L w (.cells #[.int .i64 L.id, .int .i64 L.st, .int .i64 L.be, .int .i64 L.out, .int .i64 L.rt, .int .i64 L.gr, .int .i64 L.due, .int .i64 L.inc, .int .i64 L.got, .int .i64 L.adj, .int .i64 L.wri, .int .i64 L.rcv, s] 62))
  have x138_0 : ∀ w : World, (Instr.index 138 (.agg #[.int .i64 L.gr, .int .i64 L.got, .int .i64 L.wri, .int .i64 L.rcv]) (.int .i64 0)).run (Tri Try.prog) w = .ok (.int .i64 L.gr) w := fun w => by kernel_rfl
  have x138_1 : ∀ w : World, (Instr.index 138 (.agg #[.int .i64 L.gr, .int .i64 L.got, .int .i64 L.wri, .int .i64 L.rcv]) (.int .i64 1)).run (Tri Try.prog) w = .ok (.int .i64 L.got) w := fun w => by kernel_rfl
  have x138_2 : ∀ w : World, (Instr.index 138 (.agg #[.int .i64 L.gr, .int .i64 L.got, .int .i64 L.wri, .int .i64 L.rcv]) (.int .i64 2)).run (Tri Try.prog) w = .ok (.int .i64 L.wri) w := fun w => by kernel_rfl
  have x138_3 : ∀ w : World, (Instr.index 138 (.agg #[.int .i64 L.gr, .int .i64 L.got, .int .i64 L.wri, .int .i64 L.rcv]) (.int .i64 3)).run (Tri Try.prog) w = .ok (.int .i64 L.rcv) w := fun w => by kernel_rfl
  have x139_0 : ∀ w : World, (Instr.index 139 (.agg #[.int .i64 L.due, .int .i64 L.inc, .int .i64 L.adj]) (.int .i64 0)).run (Tri Try.prog) w = .ok (.int .i64 L.due) w := fun w => by kernel_rfl
  have x139_1 : ∀ w : World, (Instr.index 139 (.agg #[.int .i64 L.due, .int .i64 L.inc, .int .i64 L.adj]) (.int .i64 1)).run (Tri Try.prog) w = .ok (.int .i64 L.inc) w := fun w => by kernel_rfl
  have x139_2 : ∀ w : World, (Instr.index 139 (.agg #[.int .i64 L.due, .int .i64 L.inc, .int .i64 L.adj]) (.int .i64 2)).run (Tri Try.prog) w = .ok (.int .i64 L.adj) w := fun w => by kernel_rfl
  have H0 := hide (within_is t0)
  have H1 := hide (within_is t1)
  have H2 := hide (within_is t2)
  have H3 := hide (within_is t3)
  have H4 := hide (within_is t4)
  clear t0 t1 t2 t3 t4
  go_enter (Tri.at (by decide) Try.func70), Try.ntmps70
  go_wp2_with fail
  refine wp_loop_rounds 5 ?_
  rw [rounds_succ]
  go_wp2_with fail
  refine (unhide H0 _).mono ?_
  rintro e w1 ⟨rfl, rfl⟩
  go_wp2_with fail
  rw [rounds_succ]
  go_wp2_with fail
  refine (unhide H1 _).mono ?_
  rintro e w1 ⟨rfl, rfl⟩
  go_wp2_with fail
  rw [rounds_succ]
  go_wp2_with fail
  refine (unhide H2 _).mono ?_
  rintro e w1 ⟨rfl, rfl⟩
  go_wp2_with fail
  rw [rounds_succ]
  go_wp2_with fail
  refine (unhide H3 _).mono ?_
  rintro e w1 ⟨rfl, rfl⟩
  go_wp2_with fail
  rw [rounds_succ]
  go_wp2_with fail
  refine wp_loop_rounds 4 ?_
  rw [rounds_succ]
  go_wp2_with fail
  refine (unhide H4 _).mono ?_
  rintro e w1 ⟨rfl, rfl⟩
  go_wp2_with fail
  go_ret
  exact ⟨rfl, unhide HB⟩
set_option maxHeartbeats 1600000 in
theorem sum_5 (L : Ln) (s : Value) (w : World) (t0 : inB 0 L.gr 1125899906842624 = true) (t1 : inB 0 L.got 1125899906842624 = true) (t2 : inB 0 L.wri 1125899906842624 = true) (t3 : inB 0 L.rcv 1125899906842624 = true) (t4 : inB (-1125899906842624) L.due 1125899906842624 = true) (t5 : inB (-1125899906842624) L.inc 1125899906842624 = false) : Tells 70 w #[.agg #[.int .i64 L.id, .int .i64 L.st, .int .i64 L.be, .int .i64 L.out, .int .i64 L.rt, .int .i64 L.gr, .int .i64 L.due, .int .i64 L.inc, .int .i64 L.got, .int .i64 L.adj, .int .i64 L.wri, .int .i64 L.rcv, s]] false := by
  unfold Tells
  have HB := hide (below1L w (.cells #[.int .i64 L.id, .int .i64 L.st, .int .i64 L.be, .int .i64 L.out, .int .i64 L.rt, .int .i64 L.gr, .int .i64 L.due, .int .i64 L.inc, .int .i64 L.got, .int .i64 L.adj, .int .i64 L.wri, .int .i64 L.rcv, s] 62))
  have x138_0 : ∀ w : World, (Instr.index 138 (.agg #[.int .i64 L.gr, .int .i64 L.got, .int .i64 L.wri, .int .i64 L.rcv]) (.int .i64 0)).run (Tri Try.prog) w = .ok (.int .i64 L.gr) w := fun w => by kernel_rfl
  have x138_1 : ∀ w : World, (Instr.index 138 (.agg #[.int .i64 L.gr, .int .i64 L.got, .int .i64 L.wri, .int .i64 L.rcv]) (.int .i64 1)).run (Tri Try.prog) w = .ok (.int .i64 L.got) w := fun w => by kernel_rfl
  have x138_2 : ∀ w : World, (Instr.index 138 (.agg #[.int .i64 L.gr, .int .i64 L.got, .int .i64 L.wri, .int .i64 L.rcv]) (.int .i64 2)).run (Tri Try.prog) w = .ok (.int .i64 L.wri) w := fun w => by kernel_rfl
  have x138_3 : ∀ w : World, (Instr.index 138 (.agg #[.int .i64 L.gr, .int .i64 L.got, .int .i64 L.wri, .int .i64 L.rcv]) (.int .i64 3)).run (Tri Try.prog) w = .ok (.int .i64 L.rcv) w := fun w => by kernel_rfl
  have x139_0 : ∀ w : World, (Instr.index 139 (.agg #[.int .i64 L.due, .int .i64 L.inc, .int .i64 L.adj]) (.int .i64 0)).run (Tri Try.prog) w = .ok (.int .i64 L.due) w := fun w => by kernel_rfl
  have x139_1 : ∀ w : World, (Instr.index 139 (.agg #[.int .i64 L.due, .int .i64 L.inc, .int .i64 L.adj]) (.int .i64 1)).run (Tri Try.prog) w = .ok (.int .i64 L.inc) w := fun w => by kernel_rfl
  have x139_2 : ∀ w : World, (Instr.index 139 (.agg #[.int .i64 L.due, .int .i64 L.inc, .int .i64 L.adj]) (.int .i64 2)).run (Tri Try.prog) w = .ok (.int .i64 L.adj) w := fun w => by kernel_rfl
  have H0 := hide (within_is t0)
  have H1 := hide (within_is t1)
  have H2 := hide (within_is t2)
  have H3 := hide (within_is t3)
  have H4 := hide (within_is t4)
  have H5 := hide (within_is t5)
  clear t0 t1 t2 t3 t4 t5
  go_enter (Tri.at (by decide) Try.func70), Try.ntmps70
  go_wp2_with fail
  refine wp_loop_rounds 5 ?_
  rw [rounds_succ]
  go_wp2_with fail
  refine (unhide H0 _).mono ?_
  rintro e w1 ⟨rfl, rfl⟩
  go_wp2_with fail
  rw [rounds_succ]
  go_wp2_with fail
  refine (unhide H1 _).mono ?_
  rintro e w1 ⟨rfl, rfl⟩
  go_wp2_with fail
  rw [rounds_succ]
  go_wp2_with fail
  refine (unhide H2 _).mono ?_
  rintro e w1 ⟨rfl, rfl⟩
  go_wp2_with fail
  rw [rounds_succ]
  go_wp2_with fail
  refine (unhide H3 _).mono ?_
  rintro e w1 ⟨rfl, rfl⟩
  go_wp2_with fail
  rw [rounds_succ]
  go_wp2_with fail
  refine wp_loop_rounds 4 ?_
  rw [rounds_succ]
  go_wp2_with fail
  refine (unhide H4 _).mono ?_
  rintro e w1 ⟨rfl, rfl⟩
  go_wp2_with fail
  rw [rounds_succ]
  go_wp2_with fail
  refine (unhide H5 _).mono ?_
  rintro e w1 ⟨rfl, rfl⟩
  go_wp2_with fail
  go_ret
  exact ⟨rfl, unhide HB⟩
set_option maxHeartbeats 1600000 in
theorem sum_6 (L : Ln) (s : Value) (w : World) (t0 : inB 0 L.gr 1125899906842624 = true) (t1 : inB 0 L.got 1125899906842624 = true) (t2 : inB 0 L.wri 1125899906842624 = true) (t3 : inB 0 L.rcv 1125899906842624 = true) (t4 : inB (-1125899906842624) L.due 1125899906842624 = true) (t5 : inB (-1125899906842624) L.inc 1125899906842624 = true) (t6 : inB (-1125899906842624) L.adj 1125899906842624 = false) : Tells 70 w #[.agg #[.int .i64 L.id, .int .i64 L.st, .int .i64 L.be, .int .i64 L.out, .int .i64 L.rt, .int .i64 L.gr, .int .i64 L.due, .int .i64 L.inc, .int .i64 L.got, .int .i64 L.adj, .int .i64 L.wri, .int .i64 L.rcv, s]] false := by
  unfold Tells
  have HB := hide (below1L w (.cells #[.int .i64 L.id, .int .i64 L.st, .int .i64 L.be, .int .i64 L.out, .int .i64 L.rt, .int .i64 L.gr, .int .i64 L.due, .int .i64 L.inc, .int .i64 L.got, .int .i64 L.adj, .int .i64 L.wri, .int .i64 L.rcv, s] 62))
  have x138_0 : ∀ w : World, (Instr.index 138 (.agg #[.int .i64 L.gr, .int .i64 L.got, .int .i64 L.wri, .int .i64 L.rcv]) (.int .i64 0)).run (Tri Try.prog) w = .ok (.int .i64 L.gr) w := fun w => by kernel_rfl
  have x138_1 : ∀ w : World, (Instr.index 138 (.agg #[.int .i64 L.gr, .int .i64 L.got, .int .i64 L.wri, .int .i64 L.rcv]) (.int .i64 1)).run (Tri Try.prog) w = .ok (.int .i64 L.got) w := fun w => by kernel_rfl
  have x138_2 : ∀ w : World, (Instr.index 138 (.agg #[.int .i64 L.gr, .int .i64 L.got, .int .i64 L.wri, .int .i64 L.rcv]) (.int .i64 2)).run (Tri Try.prog) w = .ok (.int .i64 L.wri) w := fun w => by kernel_rfl
  have x138_3 : ∀ w : World, (Instr.index 138 (.agg #[.int .i64 L.gr, .int .i64 L.got, .int .i64 L.wri, .int .i64 L.rcv]) (.int .i64 3)).run (Tri Try.prog) w = .ok (.int .i64 L.rcv) w := fun w => by kernel_rfl
  have x139_0 : ∀ w : World, (Instr.index 139 (.agg #[.int .i64 L.due, .int .i64 L.inc, .int .i64 L.adj]) (.int .i64 0)).run (Tri Try.prog) w = .ok (.int .i64 L.due) w := fun w => by kernel_rfl
  have x139_1 : ∀ w : World, (Instr.index 139 (.agg #[.int .i64 L.due, .int .i64 L.inc, .int .i64 L.adj]) (.int .i64 1)).run (Tri Try.prog) w = .ok (.int .i64 L.inc) w := fun w => by kernel_rfl
  have x139_2 : ∀ w : World, (Instr.index 139 (.agg #[.int .i64 L.due, .int .i64 L.inc, .int .i64 L.adj]) (.int .i64 2)).run (Tri Try.prog) w = .ok (.int .i64 L.adj) w := fun w => by kernel_rfl
  have H0 := hide (within_is t0)
  have H1 := hide (within_is t1)
  have H2 := hide (within_is t2)
  have H3 := hide (within_is t3)
  have H4 := hide (within_is t4)
  have H5 := hide (within_is t5)
  have H6 := hide (within_is t6)
  clear t0 t1 t2 t3 t4 t5 t6
  go_enter (Tri.at (by decide) Try.func70), Try.ntmps70
  go_wp2_with fail
  refine wp_loop_rounds 5 ?_
  rw [rounds_succ]
  go_wp2_with fail
  refine (unhide H0 _).mono ?_
  rintro e w1 ⟨rfl, rfl⟩
  go_wp2_with fail
  rw [rounds_succ]
  go_wp2_with fail
  refine (unhide H1 _).mono ?_
  rintro e w1 ⟨rfl, rfl⟩
  go_wp2_with fail
  rw [rounds_succ]
  go_wp2_with fail
  refine (unhide H2 _).mono ?_
  rintro e w1 ⟨rfl, rfl⟩
  go_wp2_with fail
  rw [rounds_succ]
  go_wp2_with fail
  refine (unhide H3 _).mono ?_
  rintro e w1 ⟨rfl, rfl⟩
  go_wp2_with fail
  rw [rounds_succ]
  go_wp2_with fail
  refine wp_loop_rounds 4 ?_
  rw [rounds_succ]
  go_wp2_with fail
  refine (unhide H4 _).mono ?_
  rintro e w1 ⟨rfl, rfl⟩
  go_wp2_with fail
  rw [rounds_succ]
  go_wp2_with fail
  refine (unhide H5 _).mono ?_
  rintro e w1 ⟨rfl, rfl⟩
  go_wp2_with fail
  rw [rounds_succ]
  go_wp2_with fail
  refine (unhide H6 _).mono ?_
  rintro e w1 ⟨rfl, rfl⟩
  go_wp2_with fail
  go_ret
  exact ⟨rfl, unhide HB⟩
set_option maxHeartbeats 1600000 in
theorem sum_7 (L : Ln) (s : Value) (w : World) (t0 : inB 0 L.gr 1125899906842624 = true) (t1 : inB 0 L.got 1125899906842624 = true) (t2 : inB 0 L.wri 1125899906842624 = true) (t3 : inB 0 L.rcv 1125899906842624 = true) (t4 : inB (-1125899906842624) L.due 1125899906842624 = true) (t5 : inB (-1125899906842624) L.inc 1125899906842624 = true) (t6 : inB (-1125899906842624) L.adj 1125899906842624 = true) : Tells 70 w #[.agg #[.int .i64 L.id, .int .i64 L.st, .int .i64 L.be, .int .i64 L.out, .int .i64 L.rt, .int .i64 L.gr, .int .i64 L.due, .int .i64 L.inc, .int .i64 L.got, .int .i64 L.adj, .int .i64 L.wri, .int .i64 L.rcv, s]] true := by
  unfold Tells
  have HB := hide (below1L w (.cells #[.int .i64 L.id, .int .i64 L.st, .int .i64 L.be, .int .i64 L.out, .int .i64 L.rt, .int .i64 L.gr, .int .i64 L.due, .int .i64 L.inc, .int .i64 L.got, .int .i64 L.adj, .int .i64 L.wri, .int .i64 L.rcv, s] 62))
  have x138_0 : ∀ w : World, (Instr.index 138 (.agg #[.int .i64 L.gr, .int .i64 L.got, .int .i64 L.wri, .int .i64 L.rcv]) (.int .i64 0)).run (Tri Try.prog) w = .ok (.int .i64 L.gr) w := fun w => by kernel_rfl
  have x138_1 : ∀ w : World, (Instr.index 138 (.agg #[.int .i64 L.gr, .int .i64 L.got, .int .i64 L.wri, .int .i64 L.rcv]) (.int .i64 1)).run (Tri Try.prog) w = .ok (.int .i64 L.got) w := fun w => by kernel_rfl
  have x138_2 : ∀ w : World, (Instr.index 138 (.agg #[.int .i64 L.gr, .int .i64 L.got, .int .i64 L.wri, .int .i64 L.rcv]) (.int .i64 2)).run (Tri Try.prog) w = .ok (.int .i64 L.wri) w := fun w => by kernel_rfl
  have x138_3 : ∀ w : World, (Instr.index 138 (.agg #[.int .i64 L.gr, .int .i64 L.got, .int .i64 L.wri, .int .i64 L.rcv]) (.int .i64 3)).run (Tri Try.prog) w = .ok (.int .i64 L.rcv) w := fun w => by kernel_rfl
  have x139_0 : ∀ w : World, (Instr.index 139 (.agg #[.int .i64 L.due, .int .i64 L.inc, .int .i64 L.adj]) (.int .i64 0)).run (Tri Try.prog) w = .ok (.int .i64 L.due) w := fun w => by kernel_rfl
  have x139_1 : ∀ w : World, (Instr.index 139 (.agg #[.int .i64 L.due, .int .i64 L.inc, .int .i64 L.adj]) (.int .i64 1)).run (Tri Try.prog) w = .ok (.int .i64 L.inc) w := fun w => by kernel_rfl
  have x139_2 : ∀ w : World, (Instr.index 139 (.agg #[.int .i64 L.due, .int .i64 L.inc, .int .i64 L.adj]) (.int .i64 2)).run (Tri Try.prog) w = .ok (.int .i64 L.adj) w := fun w => by kernel_rfl
  have H0 := hide (within_is t0)
  have H1 := hide (within_is t1)
  have H2 := hide (within_is t2)
  have H3 := hide (within_is t3)
  have H4 := hide (within_is t4)
  have H5 := hide (within_is t5)
  have H6 := hide (within_is t6)
  clear t0 t1 t2 t3 t4 t5 t6
  go_enter (Tri.at (by decide) Try.func70), Try.ntmps70
  go_wp2_with fail
  refine wp_loop_rounds 5 ?_
  rw [rounds_succ]
  go_wp2_with fail
  refine (unhide H0 _).mono ?_
  rintro e w1 ⟨rfl, rfl⟩
  go_wp2_with fail
  rw [rounds_succ]
  go_wp2_with fail
  refine (unhide H1 _).mono ?_
  rintro e w1 ⟨rfl, rfl⟩
  go_wp2_with fail
  rw [rounds_succ]
  go_wp2_with fail
  refine (unhide H2 _).mono ?_
  rintro e w1 ⟨rfl, rfl⟩
  go_wp2_with fail
  rw [rounds_succ]
  go_wp2_with fail
  refine (unhide H3 _).mono ?_
  rintro e w1 ⟨rfl, rfl⟩
  go_wp2_with fail
  rw [rounds_succ]
  go_wp2_with fail
  refine wp_loop_rounds 4 ?_
  rw [rounds_succ]
  go_wp2_with fail
  refine (unhide H4 _).mono ?_
  rintro e w1 ⟨rfl, rfl⟩
  go_wp2_with fail
  rw [rounds_succ]
  go_wp2_with fail
  refine (unhide H5 _).mono ?_
  rintro e w1 ⟨rfl, rfl⟩
  go_wp2_with fail
  rw [rounds_succ]
  go_wp2_with fail
  refine (unhide H6 _).mono ?_
  rintro e w1 ⟨rfl, rfl⟩
  go_wp2_with fail
  rw [rounds_succ]
  go_wp2_with fail
  go_ret
  exact ⟨rfl, unhide HB⟩
end Go.Proofs.Ytlaaomhcilnbkaa.Mn
