/- Whether a loan is right. -/
import Derived.Test.YtlaaomhcilnbkaaLRw
set_option linter.unusedVariables false
set_option linter.unusedSimpArgs false
set_option linter.unusedSectionVars false
namespace Go.Proofs.Ytlaaomhcilnbkaa.Mn
open Go.RowKit
attribute [local simp] Tri.typeInfo Tri.sizeOf Tri.underlying Tri.runUnderlying Tri.isAgg Tri.zeroValue Tri.depth Tri.stoodInHeld Tri.eqGuardType Tri.call16 Tri.call3 Tri.call4 Tri.call5 Tri.call6 Tri.call7 Tri.call8 Tri.call9 Tri.call10 Tri.call11 Tri.call12 Tri.call13 Tri.call14 Tri.call15 Tri.call17 Tri.call18 Tri.call19 Tri.call20 Tri.call21 Tri.call22 Tri.call23 Tri.call24 Tri.call25 Tri.call26 Tri.call27 Tri.call28 Tri.call29 Tri.call30 Tri.call31 Tri.call32 Tri.call33 Tri.call34 Tri.call35 Tri.call36 Tri.call37 Tri.call38 Tri.call39 Tri.call40 Tri.call41 Tri.call42 Tri.call43 Tri.call44 Tri.call45 Tri.call46 Tri.call47 Tri.call48 Tri.call49 Tri.call50 Tri.call51 Tri.call52 Tri.call53 Tri.call54 Tri.call55 Tri.call56 Tri.call57 Tri.call58 Tri.call59 Tri.call60 Tri.call61 Tri.call62 Tri.call63 Tri.call64 Tri.call65 Tri.call66 Tri.call67 Tri.call68 Tri.call69 Tri.call70 Tri.call71 Tri.call72 Tri.call73 Tri.call74 Tri.call75 Tri.call76 Tri.call77 Tri.call78 Tri.call79 Tri.call80 Tri.call81 Tri.call82 Tri.call83 Tri.call84 Tri.call85 Tri.call86 Tri.call87 Tri.call88 Tri.call89 Tri.call90 Tri.call91 Tri.call92 Tri.call93 Tri.call94 Tri.call95 Tri.call96 Tri.call97 Tri.call98 Tri.call99 Tri.call100 Tri.call101 Tri.call102 Tri.call103 Tri.call104 Tri.call105 Tri.call106 Tri.call107 Tri.call108 Tri.call109 Tri.call110 Tri.call111 Tri.call112 Tri.call113 Tri.call114 Tri.call115 Tri.call116 Tri.call117 Tri.call118 Tri.call119 Tri.call120 Tri.call121 Tri.call122 Tri.call123 Tri.call124 Tri.call125 Tri.call126 Tri.call127 Tri.call128 Tri.call129 Tri.call130 Tri.call131 Tri.call132 Tri.call133 Tri.call134 Tri.call135 Tri.call136 Tri.call137 Tri.call138 Tri.call139 Tri.call140 Tri.call141 Tri.call142 Tri.call143 Tri.call144 Tri.call145 Tri.call146 Tri.call147 Tri.call148 Tri.call149 Tri.call150 Tri.call151 Tri.call152 Tri.call153 Tri.call154 Tri.call155 Tri.call157 Tri.call158 Tri.call159 Tri.call160 Tri.call161 Tri.call162 Tri.call163 Tri.call165 Tri.call166 Tri.call167 Tri.call183 Tri.call184
set_option maxHeartbeats 4000000 in
theorem right_0 (L : Ln) (a : Option Addr) (cap : Nat) (l : List Int) (w : World) (hR : Row w (.slice a l.length cap) l) (t0 : mayBeB L = false) : Tells 33 w #[.agg #[.int .i64 L.id, .int .i64 L.st, .int .i64 L.be, .int .i64 L.out, .int .i64 L.rt, .int .i64 L.gr, .int .i64 L.due, .int .i64 L.inc, .int .i64 L.got, .int .i64 L.adj, .int .i64 L.wri, .int .i64 L.rcv, .slice a l.length cap]] false := by
  unfold Tells
  have HL := hide (LB.new w 62 L (.slice a l.length cap))
  have HB := hide (below1L w (.cells #[.int .i64 L.id, .int .i64 L.st, .int .i64 L.be, .int .i64 L.out, .int .i64 L.rt, .int .i64 L.gr, .int .i64 L.due, .int .i64 L.inc, .int .i64 L.got, .int .i64 L.adj, .int .i64 L.wri, .int .i64 L.rcv, .slice a l.length cap] 62))
  have HR := hide (hR.alloc (.cells #[.int .i64 L.id, .int .i64 L.st, .int .i64 L.be, .int .i64 L.out, .int .i64 L.rt, .int .i64 L.gr, .int .i64 L.due, .int .i64 L.inc, .int .i64 L.got, .int .i64 L.adj, .int .i64 L.wri, .int .i64 L.rcv, .slice a l.length cap] 62))
  clear hR
  have H0 : Hid (∀ w1, Tells 68 w1 #[.agg #[.int .i64 L.id, .int .i64 L.st, .int .i64 L.be, .int .i64 L.out, .int .i64 L.rt, .int .i64 L.gr, .int .i64 L.due, .int .i64 L.inc, .int .i64 L.got, .int .i64 L.adj, .int .i64 L.wri, .int .i64 L.rcv, .slice a l.length cap]] false) := hide (fun w1 => t0 ▸ mayBe_any L (.slice a l.length cap) w1)
  unfold Tells at H0
  clear t0
  go_enter (Tri.at (by decide) Try.func33), Try.ntmps33
  go_wp2_with fail
  refine (unhide H0 _).mono ?_
  rintro e w1 ⟨rfl, hb⟩
  replace HL := hide ((unhide HL).keep hb)
  replace HB := hide (below_via (unhide HB) hb)
  replace HR := hide ((unhide HR).below hb (Nat.le_refl _))
  clear hb
  have c12 := (unhide HL).c12
  have c0x := (unhide HL).c0
  have c1x := (unhide HL).c1
  have c2x := (unhide HL).c2
  have c3x := (unhide HL).c3
  have c4x := (unhide HL).c4
  have c5x := (unhide HL).c5
  have c6x := (unhide HL).c6
  have c7x := (unhide HL).c7
  have c8x := (unhide HL).c8
  have c9x := (unhide HL).c9
  have c10x := (unhide HL).c10
  have c11x := (unhide HL).c11
  have c12x := (unhide HL).c12
  go_wp2_with fail
  go_ret
  exact ⟨rfl, unhide HB⟩
set_option maxHeartbeats 4000000 in
theorem right_1 (L : Ln) (a : Option Addr) (cap : Nat) (l : List Int) (w : World) (hR : Row w (.slice a l.length cap) l) (t0 : mayBeB L = true) (t1 : amtL l = false) : Tells 33 w #[.agg #[.int .i64 L.id, .int .i64 L.st, .int .i64 L.be, .int .i64 L.out, .int .i64 L.rt, .int .i64 L.gr, .int .i64 L.due, .int .i64 L.inc, .int .i64 L.got, .int .i64 L.adj, .int .i64 L.wri, .int .i64 L.rcv, .slice a l.length cap]] false := by
  unfold Tells
  have HL := hide (LB.new w 62 L (.slice a l.length cap))
  have HB := hide (below1L w (.cells #[.int .i64 L.id, .int .i64 L.st, .int .i64 L.be, .int .i64 L.out, .int .i64 L.rt, .int .i64 L.gr, .int .i64 L.due, .int .i64 L.inc, .int .i64 L.got, .int .i64 L.adj, .int .i64 L.wri, .int .i64 L.rcv, .slice a l.length cap] 62))
  have HR := hide (hR.alloc (.cells #[.int .i64 L.id, .int .i64 L.st, .int .i64 L.be, .int .i64 L.out, .int .i64 L.rt, .int .i64 L.gr, .int .i64 L.due, .int .i64 L.inc, .int .i64 L.got, .int .i64 L.adj, .int .i64 L.wri, .int .i64 L.rcv, .slice a l.length cap] 62))
  clear hR
  have H0 : Hid (∀ w1, Tells 68 w1 #[.agg #[.int .i64 L.id, .int .i64 L.st, .int .i64 L.be, .int .i64 L.out, .int .i64 L.rt, .int .i64 L.gr, .int .i64 L.due, .int .i64 L.inc, .int .i64 L.got, .int .i64 L.adj, .int .i64 L.wri, .int .i64 L.rcv, .slice a l.length cap]] true) := hide (fun w1 => t0 ▸ mayBe_any L (.slice a l.length cap) w1)
  unfold Tells at H0
  have H1 : Hid (∀ w1, Row w1 (.slice a l.length cap) l → Calls (Tri Try.prog) 69 #[.slice a l.length cap] w1 fun z w2 => z = .returned (.bool false) ∧ w2 = w1) := hide (fun w1 h => t1 ▸ come_any h)
  clear t0 t1
  go_enter (Tri.at (by decide) Try.func33), Try.ntmps33
  go_wp2_with fail
  refine (unhide H0 _).mono ?_
  rintro e w1 ⟨rfl, hb⟩
  replace HL := hide ((unhide HL).keep hb)
  replace HB := hide (below_via (unhide HB) hb)
  replace HR := hide ((unhide HR).below hb (Nat.le_refl _))
  clear hb
  have c12 := (unhide HL).c12
  have c0x := (unhide HL).c0
  have c1x := (unhide HL).c1
  have c2x := (unhide HL).c2
  have c3x := (unhide HL).c3
  have c4x := (unhide HL).c4
  have c5x := (unhide HL).c5
  have c6x := (unhide HL).c6
  have c7x := (unhide HL).c7
  have c8x := (unhide HL).c8
  have c9x := (unhide HL).c9
  have c10x := (unhide HL).c10
  have c11x := (unhide HL).c11
  have c12x := (unhide HL).c12
  go_wp2_with fail
  refine (unhide H1 _ (unhide HR)).mono ?_
  rintro e w1 ⟨rfl, rfl⟩
  go_wp2_with fail
  go_ret
  exact ⟨rfl, unhide HB⟩
set_option maxHeartbeats 4000000 in
theorem right_2 (L : Ln) (a : Option Addr) (cap : Nat) (l : List Int) (w : World) (hR : Row w (.slice a l.length cap) l) (t0 : mayBeB L = true) (t1 : amtL l = true) (t2 : sumB L = false) : Tells 33 w #[.agg #[.int .i64 L.id, .int .i64 L.st, .int .i64 L.be, .int .i64 L.out, .int .i64 L.rt, .int .i64 L.gr, .int .i64 L.due, .int .i64 L.inc, .int .i64 L.got, .int .i64 L.adj, .int .i64 L.wri, .int .i64 L.rcv, .slice a l.length cap]] false := by
  unfold Tells
  have HL := hide (LB.new w 62 L (.slice a l.length cap))
  have HB := hide (below1L w (.cells #[.int .i64 L.id, .int .i64 L.st, .int .i64 L.be, .int .i64 L.out, .int .i64 L.rt, .int .i64 L.gr, .int .i64 L.due, .int .i64 L.inc, .int .i64 L.got, .int .i64 L.adj, .int .i64 L.wri, .int .i64 L.rcv, .slice a l.length cap] 62))
  have HR := hide (hR.alloc (.cells #[.int .i64 L.id, .int .i64 L.st, .int .i64 L.be, .int .i64 L.out, .int .i64 L.rt, .int .i64 L.gr, .int .i64 L.due, .int .i64 L.inc, .int .i64 L.got, .int .i64 L.adj, .int .i64 L.wri, .int .i64 L.rcv, .slice a l.length cap] 62))
  clear hR
  have H0 : Hid (∀ w1, Tells 68 w1 #[.agg #[.int .i64 L.id, .int .i64 L.st, .int .i64 L.be, .int .i64 L.out, .int .i64 L.rt, .int .i64 L.gr, .int .i64 L.due, .int .i64 L.inc, .int .i64 L.got, .int .i64 L.adj, .int .i64 L.wri, .int .i64 L.rcv, .slice a l.length cap]] true) := hide (fun w1 => t0 ▸ mayBe_any L (.slice a l.length cap) w1)
  unfold Tells at H0
  have H1 : Hid (∀ w1, Row w1 (.slice a l.length cap) l → Calls (Tri Try.prog) 69 #[.slice a l.length cap] w1 fun z w2 => z = .returned (.bool true) ∧ w2 = w1) := hide (fun w1 h => t1 ▸ come_any h)
  have H2 : Hid (∀ w1, Tells 70 w1 #[.agg #[.int .i64 L.id, .int .i64 L.st, .int .i64 L.be, .int .i64 L.out, .int .i64 L.rt, .int .i64 L.gr, .int .i64 L.due, .int .i64 L.inc, .int .i64 L.got, .int .i64 L.adj, .int .i64 L.wri, .int .i64 L.rcv, .slice a l.length cap]] false) := hide (fun w1 => t2 ▸ sum_any L (.slice a l.length cap) w1)
  unfold Tells at H2
  clear t0 t1 t2
  go_enter (Tri.at (by decide) Try.func33), Try.ntmps33
  go_wp2_with fail
  refine (unhide H0 _).mono ?_
  rintro e w1 ⟨rfl, hb⟩
  replace HL := hide ((unhide HL).keep hb)
  replace HB := hide (below_via (unhide HB) hb)
  replace HR := hide ((unhide HR).below hb (Nat.le_refl _))
  clear hb
  have c12 := (unhide HL).c12
  have c0x := (unhide HL).c0
  have c1x := (unhide HL).c1
  have c2x := (unhide HL).c2
  have c3x := (unhide HL).c3
  have c4x := (unhide HL).c4
  have c5x := (unhide HL).c5
  have c6x := (unhide HL).c6
  have c7x := (unhide HL).c7
  have c8x := (unhide HL).c8
  have c9x := (unhide HL).c9
  have c10x := (unhide HL).c10
  have c11x := (unhide HL).c11
  have c12x := (unhide HL).c12
  go_wp2_with fail
  refine (unhide H1 _ (unhide HR)).mono ?_
  rintro e w1 ⟨rfl, rfl⟩
  go_wp2_with fail
  refine (unhide H2 _).mono ?_
  rintro e w3 ⟨rfl, hb⟩
  replace HL := hide ((unhide HL).keep hb)
  replace HB := hide (below_via (unhide HB) hb)
  replace HR := hide ((unhide HR).below hb (Nat.le_refl _))
  clear hb
  have c0xxx := (unhide HL).c0
  have c1xxx := (unhide HL).c1
  have c2xxx := (unhide HL).c2
  have c3xxx := (unhide HL).c3
  have c4xxx := (unhide HL).c4
  have c5xxx := (unhide HL).c5
  have c6xxx := (unhide HL).c6
  have c7xxx := (unhide HL).c7
  have c8xxx := (unhide HL).c8
  have c9xxx := (unhide HL).c9
  have c10xxx := (unhide HL).c10
  have c11xxx := (unhide HL).c11
  have c12xxx := (unhide HL).c12
  go_wp2_with fail
  go_ret
  exact ⟨rfl, unhide HB⟩
set_option maxHeartbeats 4000000 in
theorem right_3 (L : Ln) (a : Option Addr) (cap : Nat) (l : List Int) (w : World) (hR : Row w (.slice a l.length cap) l) (t0 : mayBeB L = true) (t1 : amtL l = true) (t2 : sumB L = true) (t3 : endB L l = false) : Tells 33 w #[.agg #[.int .i64 L.id, .int .i64 L.st, .int .i64 L.be, .int .i64 L.out, .int .i64 L.rt, .int .i64 L.gr, .int .i64 L.due, .int .i64 L.inc, .int .i64 L.got, .int .i64 L.adj, .int .i64 L.wri, .int .i64 L.rcv, .slice a l.length cap]] false := by
  unfold Tells
  have HL := hide (LB.new w 62 L (.slice a l.length cap))
  have HB := hide (below1L w (.cells #[.int .i64 L.id, .int .i64 L.st, .int .i64 L.be, .int .i64 L.out, .int .i64 L.rt, .int .i64 L.gr, .int .i64 L.due, .int .i64 L.inc, .int .i64 L.got, .int .i64 L.adj, .int .i64 L.wri, .int .i64 L.rcv, .slice a l.length cap] 62))
  have HR := hide (hR.alloc (.cells #[.int .i64 L.id, .int .i64 L.st, .int .i64 L.be, .int .i64 L.out, .int .i64 L.rt, .int .i64 L.gr, .int .i64 L.due, .int .i64 L.inc, .int .i64 L.got, .int .i64 L.adj, .int .i64 L.wri, .int .i64 L.rcv, .slice a l.length cap] 62))
  clear hR
  have H0 : Hid (∀ w1, Tells 68 w1 #[.agg #[.int .i64 L.id, .int .i64 L.st, .int .i64 L.be, .int .i64 L.out, .int .i64 L.rt, .int .i64 L.gr, .int .i64 L.due, .int .i64 L.inc, .int .i64 L.got, .int .i64 L.adj, .int .i64 L.wri, .int .i64 L.rcv, .slice a l.length cap]] true) := hide (fun w1 => t0 ▸ mayBe_any L (.slice a l.length cap) w1)
  unfold Tells at H0
  have H1 : Hid (∀ w1, Row w1 (.slice a l.length cap) l → Calls (Tri Try.prog) 69 #[.slice a l.length cap] w1 fun z w2 => z = .returned (.bool true) ∧ w2 = w1) := hide (fun w1 h => t1 ▸ come_any h)
  have H2 : Hid (∀ w1, Tells 70 w1 #[.agg #[.int .i64 L.id, .int .i64 L.st, .int .i64 L.be, .int .i64 L.out, .int .i64 L.rt, .int .i64 L.gr, .int .i64 L.due, .int .i64 L.inc, .int .i64 L.got, .int .i64 L.adj, .int .i64 L.wri, .int .i64 L.rcv, .slice a l.length cap]] true) := hide (fun w1 => t2 ▸ sum_any L (.slice a l.length cap) w1)
  unfold Tells at H2
  have H3 : Hid (∀ w1, Tells 71 w1 #[.agg #[.int .i64 L.id, .int .i64 L.st, .int .i64 L.be, .int .i64 L.out, .int .i64 L.rt, .int .i64 L.gr, .int .i64 L.due, .int .i64 L.inc, .int .i64 L.got, .int .i64 L.adj, .int .i64 L.wri, .int .i64 L.rcv, .slice a l.length cap]] false) := hide (fun w1 => t3 ▸ ends_any L a cap l w1)
  unfold Tells at H3
  clear t0 t1 t2 t3
  go_enter (Tri.at (by decide) Try.func33), Try.ntmps33
  go_wp2_with fail
  refine (unhide H0 _).mono ?_
  rintro e w1 ⟨rfl, hb⟩
  replace HL := hide ((unhide HL).keep hb)
  replace HB := hide (below_via (unhide HB) hb)
  replace HR := hide ((unhide HR).below hb (Nat.le_refl _))
  clear hb
  have c12 := (unhide HL).c12
  have c0x := (unhide HL).c0
  have c1x := (unhide HL).c1
  have c2x := (unhide HL).c2
  have c3x := (unhide HL).c3
  have c4x := (unhide HL).c4
  have c5x := (unhide HL).c5
  have c6x := (unhide HL).c6
  have c7x := (unhide HL).c7
  have c8x := (unhide HL).c8
  have c9x := (unhide HL).c9
  have c10x := (unhide HL).c10
  have c11x := (unhide HL).c11
  have c12x := (unhide HL).c12
  go_wp2_with fail
  refine (unhide H1 _ (unhide HR)).mono ?_
  rintro e w1 ⟨rfl, rfl⟩
  go_wp2_with fail
  refine (unhide H2 _).mono ?_
  rintro e w3 ⟨rfl, hb⟩
  replace HL := hide ((unhide HL).keep hb)
  replace HB := hide (below_via (unhide HB) hb)
  replace HR := hide ((unhide HR).below hb (Nat.le_refl _))
  clear hb
  have c0xxx := (unhide HL).c0
  have c1xxx := (unhide HL).c1
  have c2xxx := (unhide HL).c2
  have c3xxx := (unhide HL).c3
  have c4xxx := (unhide HL).c4
  have c5xxx := (unhide HL).c5
  have c6xxx := (unhide HL).c6
  have c7xxx := (unhide HL).c7
  have c8xxx := (unhide HL).c8
  have c9xxx := (unhide HL).c9
  have c10xxx := (unhide HL).c10
  have c11xxx := (unhide HL).c11
  have c12xxx := (unhide HL).c12
  go_wp2_with fail
  refine (unhide H3 _).mono ?_
  rintro e w4 ⟨rfl, hb⟩
  replace HL := hide ((unhide HL).keep hb)
  replace HB := hide (below_via (unhide HB) hb)
  replace HR := hide ((unhide HR).below hb (Nat.le_refl _))
  clear hb
  have c0xxxx := (unhide HL).c0
  have c1xxxx := (unhide HL).c1
  have c2xxxx := (unhide HL).c2
  have c3xxxx := (unhide HL).c3
  have c4xxxx := (unhide HL).c4
  have c5xxxx := (unhide HL).c5
  have c6xxxx := (unhide HL).c6
  have c7xxxx := (unhide HL).c7
  have c8xxxx := (unhide HL).c8
  have c9xxxx := (unhide HL).c9
  have c10xxxx := (unhide HL).c10
  have c11xxxx := (unhide HL).c11
  have c12xxxx := (unhide HL).c12
  go_wp2_with fail
  go_ret
  exact ⟨rfl, unhide HB⟩
set_option maxHeartbeats 4000000 in
theorem right_4t (L : Ln) (a : Option Addr) (cap : Nat) (l : List Int) (w : World) (hR : Row w (.slice a l.length cap) l) (t0 : mayBeB L = true) (t1 : amtL l = true) (t2 : sumB L = true) (t3 : endB L l = true) (g : (L.gr == L.out + L.inc + L.adj - L.got - L.wri) = true) (binc1 : -1125899906842624 ≤ L.inc) (binc2 : L.inc ≤ 1125899906842624) (badj1 : -1125899906842624 ≤ L.adj) (badj2 : L.adj ≤ 1125899906842624) (bgot1 : 0 ≤ L.got) (bgot2 : L.got ≤ 1125899906842624) (bwri1 : 0 ≤ L.wri) (bwri2 : L.wri ≤ 1125899906842624) (bo1 : 1 ≤ L.out) (bo2 : L.out ≤ 10000000000000) : Tells 33 w #[.agg #[.int .i64 L.id, .int .i64 L.st, .int .i64 L.be, .int .i64 L.out, .int .i64 L.rt, .int .i64 L.gr, .int .i64 L.due, .int .i64 L.inc, .int .i64 L.got, .int .i64 L.adj, .int .i64 L.wri, .int .i64 L.rcv, .slice a l.length cap]] true := by
  unfold Tells
  have HL := hide (LB.new w 62 L (.slice a l.length cap))
  have HB := hide (below1L w (.cells #[.int .i64 L.id, .int .i64 L.st, .int .i64 L.be, .int .i64 L.out, .int .i64 L.rt, .int .i64 L.gr, .int .i64 L.due, .int .i64 L.inc, .int .i64 L.got, .int .i64 L.adj, .int .i64 L.wri, .int .i64 L.rcv, .slice a l.length cap] 62))
  have HR := hide (hR.alloc (.cells #[.int .i64 L.id, .int .i64 L.st, .int .i64 L.be, .int .i64 L.out, .int .i64 L.rt, .int .i64 L.gr, .int .i64 L.due, .int .i64 L.inc, .int .i64 L.got, .int .i64 L.adj, .int .i64 L.wri, .int .i64 L.rcv, .slice a l.length cap] 62))
  clear hR
  have H0 : Hid (∀ w1, Tells 68 w1 #[.agg #[.int .i64 L.id, .int .i64 L.st, .int .i64 L.be, .int .i64 L.out, .int .i64 L.rt, .int .i64 L.gr, .int .i64 L.due, .int .i64 L.inc, .int .i64 L.got, .int .i64 L.adj, .int .i64 L.wri, .int .i64 L.rcv, .slice a l.length cap]] true) := hide (fun w1 => t0 ▸ mayBe_any L (.slice a l.length cap) w1)
  unfold Tells at H0
  have H1 : Hid (∀ w1, Row w1 (.slice a l.length cap) l → Calls (Tri Try.prog) 69 #[.slice a l.length cap] w1 fun z w2 => z = .returned (.bool true) ∧ w2 = w1) := hide (fun w1 h => t1 ▸ come_any h)
  have H2 : Hid (∀ w1, Tells 70 w1 #[.agg #[.int .i64 L.id, .int .i64 L.st, .int .i64 L.be, .int .i64 L.out, .int .i64 L.rt, .int .i64 L.gr, .int .i64 L.due, .int .i64 L.inc, .int .i64 L.got, .int .i64 L.adj, .int .i64 L.wri, .int .i64 L.rcv, .slice a l.length cap]] true) := hide (fun w1 => t2 ▸ sum_any L (.slice a l.length cap) w1)
  unfold Tells at H2
  have H3 : Hid (∀ w1, Tells 71 w1 #[.agg #[.int .i64 L.id, .int .i64 L.st, .int .i64 L.be, .int .i64 L.out, .int .i64 L.rt, .int .i64 L.gr, .int .i64 L.due, .int .i64 L.inc, .int .i64 L.got, .int .i64 L.adj, .int .i64 L.wri, .int .i64 L.rcv, .slice a l.length cap]] true) := hide (fun w1 => t3 ▸ ends_any L a cap l w1)
  unfold Tells at H3
  clear t0 t1 t2 t3
  go_enter (Tri.at (by decide) Try.func33), Try.ntmps33
  go_wp2_with fail
  refine (unhide H0 _).mono ?_
  rintro e w1 ⟨rfl, hb⟩
  replace HL := hide ((unhide HL).keep hb)
  replace HB := hide (below_via (unhide HB) hb)
  replace HR := hide ((unhide HR).below hb (Nat.le_refl _))
  clear hb
  have c12 := (unhide HL).c12
  have c0x := (unhide HL).c0
  have c1x := (unhide HL).c1
  have c2x := (unhide HL).c2
  have c3x := (unhide HL).c3
  have c4x := (unhide HL).c4
  have c5x := (unhide HL).c5
  have c6x := (unhide HL).c6
  have c7x := (unhide HL).c7
  have c8x := (unhide HL).c8
  have c9x := (unhide HL).c9
  have c10x := (unhide HL).c10
  have c11x := (unhide HL).c11
  have c12x := (unhide HL).c12
  go_wp2_with fail
  refine (unhide H1 _ (unhide HR)).mono ?_
  rintro e w1 ⟨rfl, rfl⟩
  go_wp2_with fail
  refine (unhide H2 _).mono ?_
  rintro e w3 ⟨rfl, hb⟩
  replace HL := hide ((unhide HL).keep hb)
  replace HB := hide (below_via (unhide HB) hb)
  replace HR := hide ((unhide HR).below hb (Nat.le_refl _))
  clear hb
  have c0xxx := (unhide HL).c0
  have c1xxx := (unhide HL).c1
  have c2xxx := (unhide HL).c2
  have c3xxx := (unhide HL).c3
  have c4xxx := (unhide HL).c4
  have c5xxx := (unhide HL).c5
  have c6xxx := (unhide HL).c6
  have c7xxx := (unhide HL).c7
  have c8xxx := (unhide HL).c8
  have c9xxx := (unhide HL).c9
  have c10xxx := (unhide HL).c10
  have c11xxx := (unhide HL).c11
  have c12xxx := (unhide HL).c12
  go_wp2_with fail
  refine (unhide H3 _).mono ?_
  rintro e w4 ⟨rfl, hb⟩
  replace HL := hide ((unhide HL).keep hb)
  replace HB := hide (below_via (unhide HB) hb)
  replace HR := hide ((unhide HR).below hb (Nat.le_refl _))
  clear hb
  have c0xxxx := (unhide HL).c0
  have c1xxxx := (unhide HL).c1
  have c2xxxx := (unhide HL).c2
  have c3xxxx := (unhide HL).c3
  have c4xxxx := (unhide HL).c4
  have c5xxxx := (unhide HL).c5
  have c6xxxx := (unhide HL).c6
  have c7xxxx := (unhide HL).c7
  have c8xxxx := (unhide HL).c8
  have c9xxxx := (unhide HL).c9
  have c10xxxx := (unhide HL).c10
  have c11xxxx := (unhide HL).c11
  have c12xxxx := (unhide HL).c12
  go_wp2_with fail
  go_ret
  exact ⟨rfl, unhide HB⟩
set_option maxHeartbeats 4000000 in
theorem right_4f (L : Ln) (a : Option Addr) (cap : Nat) (l : List Int) (w : World) (hR : Row w (.slice a l.length cap) l) (t0 : mayBeB L = true) (t1 : amtL l = true) (t2 : sumB L = true) (t3 : endB L l = true) (g : (L.gr == L.out + L.inc + L.adj - L.got - L.wri) = false) (binc1 : -1125899906842624 ≤ L.inc) (binc2 : L.inc ≤ 1125899906842624) (badj1 : -1125899906842624 ≤ L.adj) (badj2 : L.adj ≤ 1125899906842624) (bgot1 : 0 ≤ L.got) (bgot2 : L.got ≤ 1125899906842624) (bwri1 : 0 ≤ L.wri) (bwri2 : L.wri ≤ 1125899906842624) (bo1 : 1 ≤ L.out) (bo2 : L.out ≤ 10000000000000) : Tells 33 w #[.agg #[.int .i64 L.id, .int .i64 L.st, .int .i64 L.be, .int .i64 L.out, .int .i64 L.rt, .int .i64 L.gr, .int .i64 L.due, .int .i64 L.inc, .int .i64 L.got, .int .i64 L.adj, .int .i64 L.wri, .int .i64 L.rcv, .slice a l.length cap]] false := by
  unfold Tells
  have HL := hide (LB.new w 62 L (.slice a l.length cap))
  have HB := hide (below1L w (.cells #[.int .i64 L.id, .int .i64 L.st, .int .i64 L.be, .int .i64 L.out, .int .i64 L.rt, .int .i64 L.gr, .int .i64 L.due, .int .i64 L.inc, .int .i64 L.got, .int .i64 L.adj, .int .i64 L.wri, .int .i64 L.rcv, .slice a l.length cap] 62))
  have HR := hide (hR.alloc (.cells #[.int .i64 L.id, .int .i64 L.st, .int .i64 L.be, .int .i64 L.out, .int .i64 L.rt, .int .i64 L.gr, .int .i64 L.due, .int .i64 L.inc, .int .i64 L.got, .int .i64 L.adj, .int .i64 L.wri, .int .i64 L.rcv, .slice a l.length cap] 62))
  clear hR
  have H0 : Hid (∀ w1, Tells 68 w1 #[.agg #[.int .i64 L.id, .int .i64 L.st, .int .i64 L.be, .int .i64 L.out, .int .i64 L.rt, .int .i64 L.gr, .int .i64 L.due, .int .i64 L.inc, .int .i64 L.got, .int .i64 L.adj, .int .i64 L.wri, .int .i64 L.rcv, .slice a l.length cap]] true) := hide (fun w1 => t0 ▸ mayBe_any L (.slice a l.length cap) w1)
  unfold Tells at H0
  have H1 : Hid (∀ w1, Row w1 (.slice a l.length cap) l → Calls (Tri Try.prog) 69 #[.slice a l.length cap] w1 fun z w2 => z = .returned (.bool true) ∧ w2 = w1) := hide (fun w1 h => t1 ▸ come_any h)
  have H2 : Hid (∀ w1, Tells 70 w1 #[.agg #[.int .i64 L.id, .int .i64 L.st, .int .i64 L.be, .int .i64 L.out, .int .i64 L.rt, .int .i64 L.gr, .int .i64 L.due, .int .i64 L.inc, .int .i64 L.got, .int .i64 L.adj, .int .i64 L.wri, .int .i64 L.rcv, .slice a l.length cap]] true) := hide (fun w1 => t2 ▸ sum_any L (.slice a l.length cap) w1)
  unfold Tells at H2
  have H3 : Hid (∀ w1, Tells 71 w1 #[.agg #[.int .i64 L.id, .int .i64 L.st, .int .i64 L.be, .int .i64 L.out, .int .i64 L.rt, .int .i64 L.gr, .int .i64 L.due, .int .i64 L.inc, .int .i64 L.got, .int .i64 L.adj, .int .i64 L.wri, .int .i64 L.rcv, .slice a l.length cap]] true) := hide (fun w1 => t3 ▸ ends_any L a cap l w1)
  unfold Tells at H3
  clear t0 t1 t2 t3
  go_enter (Tri.at (by decide) Try.func33), Try.ntmps33
  go_wp2_with fail
  refine (unhide H0 _).mono ?_
  rintro e w1 ⟨rfl, hb⟩
  replace HL := hide ((unhide HL).keep hb)
  replace HB := hide (below_via (unhide HB) hb)
  replace HR := hide ((unhide HR).below hb (Nat.le_refl _))
  clear hb
  have c12 := (unhide HL).c12
  have c0x := (unhide HL).c0
  have c1x := (unhide HL).c1
  have c2x := (unhide HL).c2
  have c3x := (unhide HL).c3
  have c4x := (unhide HL).c4
  have c5x := (unhide HL).c5
  have c6x := (unhide HL).c6
  have c7x := (unhide HL).c7
  have c8x := (unhide HL).c8
  have c9x := (unhide HL).c9
  have c10x := (unhide HL).c10
  have c11x := (unhide HL).c11
  have c12x := (unhide HL).c12
  go_wp2_with fail
  refine (unhide H1 _ (unhide HR)).mono ?_
  rintro e w1 ⟨rfl, rfl⟩
  go_wp2_with fail
  refine (unhide H2 _).mono ?_
  rintro e w3 ⟨rfl, hb⟩
  replace HL := hide ((unhide HL).keep hb)
  replace HB := hide (below_via (unhide HB) hb)
  replace HR := hide ((unhide HR).below hb (Nat.le_refl _))
  clear hb
  have c0xxx := (unhide HL).c0
  have c1xxx := (unhide HL).c1
  have c2xxx := (unhide HL).c2
  have c3xxx := (unhide HL).c3
  have c4xxx := (unhide HL).c4
  have c5xxx := (unhide HL).c5
  have c6xxx := (unhide HL).c6
  have c7xxx := (unhide HL).c7
  have c8xxx := (unhide HL).c8
  have c9xxx := (unhide HL).c9
  have c10xxx := (unhide HL).c10
  have c11xxx := (unhide HL).c11
  have c12xxx := (unhide HL).c12
  go_wp2_with fail
  refine (unhide H3 _).mono ?_
  rintro e w4 ⟨rfl, hb⟩
  replace HL := hide ((unhide HL).keep hb)
  replace HB := hide (below_via (unhide HB) hb)
  replace HR := hide ((unhide HR).below hb (Nat.le_refl _))
  clear hb
  have c0xxxx := (unhide HL).c0
  have c1xxxx := (unhide HL).c1
  have c2xxxx := (unhide HL).c2
  have c3xxxx := (unhide HL).c3
  have c4xxxx := (unhide HL).c4
  have c5xxxx := (unhide HL).c5
  have c6xxxx := (unhide HL).c6
  have c7xxxx := (unhide HL).c7
  have c8xxxx := (unhide HL).c8
  have c9xxxx := (unhide HL).c9
  have c10xxxx := (unhide HL).c10
  have c11xxxx := (unhide HL).c11
  have c12xxxx := (unhide HL).c12
  go_wp2_with fail
  go_ret
  exact ⟨rfl, unhide HB⟩
end Go.Proofs.Ytlaaomhcilnbkaa.Mn
