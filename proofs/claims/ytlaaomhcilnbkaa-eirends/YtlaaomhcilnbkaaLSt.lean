/- What is left, copied; a loan that is at its end. -/
import Derived.Test.YtlaaomhcilnbkaaLRx
import Derived.Test.YtlaaomhcilnbkaaMZ
set_option linter.unusedVariables false
set_option linter.unusedSimpArgs false
set_option linter.unusedSectionVars false
namespace Go.Proofs.Ytlaaomhcilnbkaa.Mn
open Go.RowKit
attribute [local simp] Tri.typeInfo Tri.sizeOf Tri.underlying Tri.runUnderlying Tri.isAgg Tri.zeroValue Tri.depth Tri.stoodInHeld Tri.eqGuardType Tri.call16 Tri.call3 Tri.call4 Tri.call5 Tri.call6 Tri.call7 Tri.call8 Tri.call9 Tri.call10 Tri.call11 Tri.call12 Tri.call13 Tri.call14 Tri.call15 Tri.call17 Tri.call18 Tri.call19 Tri.call20 Tri.call21 Tri.call22 Tri.call23 Tri.call24 Tri.call25 Tri.call26 Tri.call27 Tri.call28 Tri.call29 Tri.call30 Tri.call31 Tri.call32 Tri.call33 Tri.call34 Tri.call35 Tri.call36 Tri.call37 Tri.call38 Tri.call39 Tri.call40 Tri.call41 Tri.call42 Tri.call43 Tri.call44 Tri.call45 Tri.call46 Tri.call47 Tri.call48 Tri.call49 Tri.call50 Tri.call51 Tri.call52 Tri.call53 Tri.call54 Tri.call55 Tri.call56 Tri.call57 Tri.call58 Tri.call59 Tri.call60 Tri.call61 Tri.call62 Tri.call63 Tri.call64 Tri.call65 Tri.call66 Tri.call67 Tri.call68 Tri.call69 Tri.call70 Tri.call71 Tri.call72 Tri.call73 Tri.call74 Tri.call75 Tri.call76 Tri.call77 Tri.call78 Tri.call79 Tri.call80 Tri.call81 Tri.call82 Tri.call83 Tri.call84 Tri.call85 Tri.call86 Tri.call87 Tri.call88 Tri.call89 Tri.call90 Tri.call91 Tri.call92 Tri.call93 Tri.call94 Tri.call95 Tri.call96 Tri.call97 Tri.call98 Tri.call99 Tri.call100 Tri.call101 Tri.call102 Tri.call103 Tri.call104 Tri.call105 Tri.call106 Tri.call107 Tri.call108 Tri.call109 Tri.call110 Tri.call111 Tri.call112 Tri.call113 Tri.call114 Tri.call115 Tri.call116 Tri.call117 Tri.call118 Tri.call119 Tri.call120 Tri.call121 Tri.call122 Tri.call123 Tri.call124 Tri.call125 Tri.call126 Tri.call127 Tri.call128 Tri.call129 Tri.call130 Tri.call131 Tri.call132 Tri.call133 Tri.call134 Tri.call135 Tri.call136 Tri.call137 Tri.call138 Tri.call139 Tri.call140 Tri.call141 Tri.call142 Tri.call143 Tri.call144 Tri.call145 Tri.call146 Tri.call147 Tri.call148 Tri.call149 Tri.call150 Tri.call151 Tri.call152 Tri.call153 Tri.call154 Tri.call155 Tri.call157 Tri.call158 Tri.call159 Tri.call160 Tri.call161 Tri.call162 Tri.call163 Tri.call165 Tri.call166 Tri.call167 Tri.call183 Tri.call184
theorem interest_no (x r : Int) (h : ¬ May r) : Ans 63 x r 0 2 := by
  intro w
  have hm := hide (may_no h)
  go_enter (Tri.at (by decide) Try.func63), Try.ntmps63
  go_wp2_with fail
  refine (unhide hm _).mono ?_
  rintro e w1 ⟨rfl, rfl⟩
  go_wp2_with fail
  go_ret2
  exact ⟨rfl, Below.refl _ _⟩
theorem interest_yes (x r : Int) (hx : In64 x) (h : May r) : Ans 63 x r (okN (near (x * r) 1000000000000)) (okE (near (x * r) 1000000000000)) := by
  intro w
  have hm := hide (may_yes h)
  have hd := hide (md_near x r 1000000000000 hx (may64 h) ⟨by omega, by omega⟩ (by omega))
  go_enter (Tri.at (by decide) Try.func63), Try.ntmps63
  go_wp2_with fail
  refine (unhide hm _).mono ?_
  rintro e w1 ⟨rfl, rfl⟩
  go_wp2_with fail
  refine (unhide hd _).mono ?_
  rintro e w2 ⟨rfl, hb⟩
  go_wp2_with fail
  go_ret2
  exact ⟨rfl, hb⟩
/-- The quotient that each of the three answers with: 10 interest, 12 growth, 14 discount. -/
def qI (x r : Int) : Int := near (x * r) 1000000000000
theorem interest_ok {x r : Int} (hx : In64 x) (h : May r) : Ans 63 x r (okN (qI x r)) (okE (qI x r)) := interest_yes x r hx h
theorem right_any (L : Ln) (a : Option Addr) (n c : Nat) (l : List Int) (w : World) (hR : Row w (.slice a n c) l) : Tells 33 w #[.agg #[.int .i64 L.id, .int .i64 L.st, .int .i64 L.be, .int .i64 L.out, .int .i64 L.rt, .int .i64 L.gr, .int .i64 L.due, .int .i64 L.inc, .int .i64 L.got, .int .i64 L.adj, .int .i64 L.wri, .int .i64 L.rcv, .slice a n c]] (rightB L l) := by
  have hn : n = l.length := by
    obtain ⟨a', c', e⟩ := row_slice hR
    injection e
  subst hn
  unfold rightB
  by_cases t0 : mayBeB L = true
  case neg =>
    replace t0 := Bool.eq_false_iff.2 t0
    rw [t0, Bool.false_and]
    exact right_0 L a c l w hR t0
  rw [t0, Bool.true_and]
  by_cases t1 : amtL l = true
  case neg =>
    replace t1 := Bool.eq_false_iff.2 t1
    rw [t1, Bool.false_and]
    exact right_1 L a c l w hR t0 t1
  rw [t1, Bool.true_and]
  by_cases t2 : sumB L = true
  case neg =>
    replace t2 := Bool.eq_false_iff.2 t2
    rw [t2, Bool.false_and]
    exact right_2 L a c l w hR t0 t1 t2
  rw [t2, Bool.true_and]
  by_cases t3 : endB L l = true
  case neg =>
    replace t3 := Bool.eq_false_iff.2 t3
    rw [t3, Bool.false_and]
    exact right_3 L a c l w hR t0 t1 t2 t3
  rw [t3, Bool.true_and]
  have h0 := t0
  have h2 := t2
  unfold mayBeB at h0
  unfold sumB at h2
  simp only [Bool.and_eq_true] at h0 h2
  have b1 := inB_yes h0.1.2
  have b2 := inB_yes h2.2.1.2
  have b3 := inB_yes h2.2.2
  have b4 := inB_yes h2.1.1.1.2
  have b5 := inB_yes h2.1.1.2
  by_cases g : L.gr = L.out + L.inc + L.adj - L.got - L.wri
  · rw [decide_eq_true g]
    exact right_4t L a c l w hR t0 t1 t2 t3 (by simpa using g) b2.1 b2.2 b3.1 b3.2 b4.1 b4.2 b5.1 b5.2 b1.1 b1.2
  · rw [decide_eq_false g]
    exact right_4f L a c l w hR t0 t1 t2 t3 (by simpa using g) b2.1 b2.2 b3.1 b3.2 b4.1 b4.2 b5.1 b5.2 b1.1 b1.2
/-- A slice value as programs have it. -/
def Sl (a : Option Addr) (n c : Nat) : Prop := n ≤ c ∧ (a = none → c = 0)
theorem Sl.nil : Sl none 0 0 := ⟨Nat.le_refl _, fun _ => rfl⟩
theorem grow_sl {w W : World} {v : Value} {l : List Int} (h : Grow 2 w W v l) (hm : l.length ≤ 1000000) : ∃ a c, v = .slice a l.length c ∧ Row W (.slice a l.length c) l ∧ Sl a l.length c ∧ (∀ x, a = some x → w.heap.size ≤ x.block) := by
  have hr := h.row (by unfold maxLen; omega)
  obtain ⟨h1, h2⟩ := h.owns
  rcases h2 with ⟨rfl, h0⟩ | ⟨g, cap, cur, rfl, h3, h4, h5, h6, _⟩
  · obtain rfl := List.eq_nil_of_length_eq_zero h0
    exact ⟨none, 0, rfl, hr, Sl.nil, fun x hx => by cases hx⟩
  · exact ⟨_, cap, rfl, hr, ⟨h5, fun e => by cases e⟩, fun x hx => by injection hx with hx; subst hx; exact h3⟩
theorem copied_any {w : World} {a : Option Addr} {n c : Nat} {l : List Int} (hR : Row w (.slice a n c) l) (hS : Sl a n c) (hl : l.length ≤ 1000000) : Calls (Tri Try.prog) 66 #[.slice a n c] w fun z w' => ∃ a' c', z = .returned (.slice a' l.length c') ∧ Row w' (.slice a' l.length c') l ∧ Sl a' l.length c' ∧ (∀ x, a' = some x → w.heap.size ≤ x.block) ∧ Below w.heap.size w w' := by
  have HF := hide (from_row hR hS.2)
  have HI := hide (row_in hR)
  have HG := hide (Grow.nil 2 w w (Below.refl _ _))
  have HL := hide hl
  clear hR hS hl
  go_enter (Tri.at (by decide) Try.func66), Try.ntmps66
  go_wp2_with (refine list_from rfl (.const (.slice none 0 0)) (.tmp 3) rfl _ _ _ _ [] l (unhide HG) (unhide HF) rfl rfl (by have := unhide HL; simpa using this) (unhide HI) ?_)
  intro v W hG
  obtain ⟨a', c', rfl, h1, h2, h3⟩ := grow_sl hG (by simpa using unhide HL)
  go_wp2_with fail
  go_ret
  exact ⟨a', c', rfl, h1, h2, h3, hG.below⟩
theorem ended_any (L : Ln) (s : Value) (k : Int) (w : World) : Calls (Tri Try.prog) 89 #[.agg #[.int .i64 L.id, .int .i64 L.st, .int .i64 L.be, .int .i64 L.out, .int .i64 L.rt, .int .i64 L.gr, .int .i64 L.due, .int .i64 L.inc, .int .i64 L.got, .int .i64 L.adj, .int .i64 L.wri, .int .i64 L.rcv, s], .int .i64 k] w fun z w' => z = .returned (.agg #[.int .i64 L.id, .int .i64 k, .int .i64 0, .int .i64 L.out, .int .i64 L.rt, .int .i64 L.gr, .int .i64 0, .int .i64 L.inc, .int .i64 L.got, .int .i64 L.adj, .int .i64 L.wri, .int .i64 L.rcv, .slice none 0 0]) ∧ w' = (w.alloc (.cells #[.int .i64 L.id, .int .i64 k, .int .i64 0, .int .i64 L.out, .int .i64 L.rt, .int .i64 L.gr, .int .i64 0, .int .i64 L.inc, .int .i64 L.got, .int .i64 L.adj, .int .i64 L.wri, .int .i64 L.rcv, .slice none 0 0] 62)).alloc (.cells #[.int .i64 L.id, .int .i64 k, .int .i64 0, .int .i64 L.out, .int .i64 L.rt, .int .i64 L.gr, .int .i64 0, .int .i64 L.inc, .int .i64 L.got, .int .i64 L.adj, .int .i64 L.wri, .int .i64 L.rcv, .slice none 0 0] 62) := by
  go_enter (Tri.at (by decide) Try.func89), Try.ntmps89
  go_wp2_with fail
  exact bodyPost_ret (v := .agg #[.int .i64 L.id, .int .i64 k, .int .i64 0, .int .i64 L.out, .int .i64 L.rt, .int .i64 L.gr, .int .i64 0, .int .i64 L.inc, .int .i64 L.got, .int .i64 L.adj, .int .i64 L.wri, .int .i64 L.rcv, .slice none 0 0]) (by simp [results, Try.results89, go_sem]) rfl ⟨rfl, rfl⟩
end Go.Proofs.Ytlaaomhcilnbkaa.Mn
