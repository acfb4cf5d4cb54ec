/- A loan that is paid out: New. -/
import Derived.Test.YtlaaomhcilnbkaaZLSp
import Derived.Test.YtlaaomhcilnbkaaZQK
set_option linter.unusedVariables false
set_option linter.unusedSimpArgs false
set_option linter.unusedSectionVars false
namespace Go.Proofs.Ytlaaomhcilnbkaa.Mn
open Go.RowKit
attribute [local simp] Tri.typeInfo Tri.sizeOf Tri.underlying Tri.runUnderlying Tri.isAgg Tri.zeroValue Tri.depth Tri.stoodInHeld Tri.eqGuardType Tri.call16 Tri.call22 Tri.call28 Tri.call29 Tri.call33 Tri.call38 Tri.call39 Tri.call42 Tri.call45 Tri.call48 Tri.call52 Tri.call54 Tri.call62 Tri.call63 Tri.call65 Tri.call66 Tri.call68 Tri.call69 Tri.call70 Tri.call71 Tri.call78 Tri.call79 Tri.call80 Tri.call81 Tri.call82 Tri.call83 Tri.call84 Tri.call85 Tri.call86 Tri.call89 Tri.call101 Tri.call102 Tri.call103 Tri.call104 Tri.call105 Tri.call107 Tri.call113 Tri.call123 Tri.call124 Tri.call125 Tri.call126 Tri.call127 Tri.call136 Tri.call138 Tri.call139 Tri.call140 Tri.call141 Tri.call142 Tri.call143 Tri.call144 Tri.call154 Tri.call155 Tri.call165 Tri.call167 Tri.call184
def newK (id out r : Int) : Ln := ⟨id, 1, 0, out, r, out, 0, 0, 0, 0, 0, 0⟩
/-- What New answers: of an id that may not be, or as Solve does. -/
def NewE (id out : Int) (l : List Int) (r e : Int) : Prop := (inB 0 id 2147483647 = false ∧ r = 0 ∧ e = 2) ∨ (inB 0 id 2147483647 = true ∧ Eir out l r e)
def NewA (w : World) (id out : Int) (v : Value) (l : List Int) : Prop := Calls (Tri Try.prog) 29 #[.int .i64 id, .int .i64 out, v] w fun z w' => ∃ r e, NewE id out l r e ∧ ((e ≠ 0 ∧ z = .returned (.tuple #[.agg #[.int .i64 0, .int .i64 0, .int .i64 0, .int .i64 0, .int .i64 0, .int .i64 0, .int .i64 0, .int .i64 0, .int .i64 0, .int .i64 0, .int .i64 0, .int .i64 0, .slice none 0 0], .int .i64 e])) ∨ (e = 0 ∧ ∃ a' c', z = .returned (.tuple #[.agg #[.int .i64 (newK id out r).id, .int .i64 (newK id out r).st, .int .i64 (newK id out r).be, .int .i64 (newK id out r).out, .int .i64 (newK id out r).rt, .int .i64 (newK id out r).gr, .int .i64 (newK id out r).due, .int .i64 (newK id out r).inc, .int .i64 (newK id out r).got, .int .i64 (newK id out r).adj, .int .i64 (newK id out r).wri, .int .i64 (newK id out r).rcv, .slice a' l.length c'], .int .i64 0]) ∧ Row w' (.slice a' l.length c') l ∧ Sl a' l.length c' ∧ (∀ x, a' = some x → w.heap.size ≤ x.block))) ∧ Below w.heap.size w w'
theorem new_a (id out : Int) (a : Option Addr) (n c : Nat) (w : World) (l : List Int) (h : inB 0 id 2147483647 = false) : NewA w id out (.slice a n c) l := by
  unfold NewA
  have H := hide (name_is h)
  have HN := hide (show NewE id out l 0 2 from .inl ⟨h, rfl, rfl⟩)
  clear h
  go_enter (Tri.at (by decide) Try.func29), Try.ntmps29
  go_wp2_with fail
  refine (unhide H _).mono ?_
  rintro z w1 ⟨rfl, rfl⟩
  go_wp2_with fail
  exact bodyPost_ret (v := .tuple #[.agg #[.int .i64 0, .int .i64 0, .int .i64 0, .int .i64 0, .int .i64 0, .int .i64 0, .int .i64 0, .int .i64 0, .int .i64 0, .int .i64 0, .int .i64 0, .int .i64 0, .slice none 0 0], .int .i64 2]) (by simp [results, Try.results29, go_sem]) rfl ⟨0, 2, unhide HN, .inl ⟨by decide, rfl⟩, below1L w _⟩
set_option maxHeartbeats 4000000 in
theorem new_b (id out : Int) (a : Option Addr) (n c : Nat) (w : World) (l : List Int) (h : inB 0 id 2147483647 = true) (ho : In64 out) (hR : Row w (.slice a n c) l) (hS : Sl a n c) (hl : l.length ≤ 1000000) : NewA w id out (.slice a n c) l := by
  unfold NewA
  have H := hide (name_is h)
  have HB := hide (below1L w (.cells #[.int .i64 0, .int .i64 0, .int .i64 0, .int .i64 0, .int .i64 0, .int .i64 0, .int .i64 0, .int .i64 0, .int .i64 0, .int .i64 0, .int .i64 0, .int .i64 0, .slice none 0 0] 62))
  have HZ := hide (Blk.new w #[.int .i64 0, .int .i64 0, .int .i64 0, .int .i64 0, .int .i64 0, .int .i64 0, .int .i64 0, .int .i64 0, .int .i64 0, .int .i64 0, .int .i64 0, .int .i64 0, .slice none 0 0] 62)
  have HR := hide (hR.alloc (.cells #[.int .i64 0, .int .i64 0, .int .i64 0, .int .i64 0, .int .i64 0, .int .i64 0, .int .i64 0, .int .i64 0, .int .i64 0, .int .i64 0, .int .i64 0, .int .i64 0, .slice none 0 0] 62))
  have HS : Hid (∀ w1, Row w1 (.slice a n c) l → SolA9 w1 out (.slice a n c) l) := hide (fun w1 h1 => s9_any ho h1)
  unfold SolA9 at HS
  have HN : Hid (∀ r e, Eir out l r e → NewE id out l r e) := hide (fun r e k => .inr ⟨h, k⟩)
  have HSl := hide hS
  have HL := hide hl
  clear h ho hR hS hl
  go_enter (Tri.at (by decide) Try.func29), Try.ntmps29
  go_wp2_with fail
  refine (unhide H _).mono ?_
  rintro z w0 ⟨rfl, rfl⟩
  go_wp2_with fail
  refine (unhide HS _ (unhide HR)).mono ?_
  rintro z w1 ⟨r, e, hE, rfl, hb⟩
  replace HB := hide (below_via (unhide HB) hb)
  replace HZ := hide ((unhide HZ).keep hb)
  replace HR := hide ((unhide HR).below hb (Nat.le_refl _))
  replace HN := hide (unhide HN r e hE)
  clear hb hE HS H
  by_cases he : e = 0
  · subst he
    have t0 : ((0 : Int) != 0) = false := rfl
    go_wp2_with fail
    refine (copied_any (unhide HR) (unhide HSl) (unhide HL)).mono ?_
    rintro z w2 ⟨a', c', rfl, hr, hs, hf, hb⟩
    have HF : Hid (∀ x, a' = some x → w.heap.size < x.block) := hide (fun x hx => Nat.lt_of_lt_of_le (unhide HZ).lt (hf x hx))
    replace HB := hide (below_via (unhide HB) hb)
    replace HZ := hide ((unhide HZ).keep hb)
    have HR2 := hide hr
    have HS2 := hide hs
    clear hb hr hs hf
    have z0 := (unhide HZ).at 0 (.int .i64 0) rfl
    have f0 := (unhide HZ).fz 0
    have z1 := (unhide HZ).at 1 (.int .i64 0) rfl
    have f1 := (unhide HZ).fz 1
    have z2 := (unhide HZ).at 2 (.int .i64 0) rfl
    have f2 := (unhide HZ).fz 2
    have z3 := (unhide HZ).at 3 (.int .i64 0) rfl
    have f3 := (unhide HZ).fz 3
    have z4 := (unhide HZ).at 4 (.int .i64 0) rfl
    have f4 := (unhide HZ).fz 4
    have z5 := (unhide HZ).at 5 (.int .i64 0) rfl
    have f5 := (unhide HZ).fz 5
    have z6 := (unhide HZ).at 6 (.int .i64 0) rfl
    have f6 := (unhide HZ).fz 6
    have z7 := (unhide HZ).at 7 (.int .i64 0) rfl
    have f7 := (unhide HZ).fz 7
    have z8 := (unhide HZ).at 8 (.int .i64 0) rfl
    have f8 := (unhide HZ).fz 8
    have z9 := (unhide HZ).at 9 (.int .i64 0) rfl
    have f9 := (unhide HZ).fz 9
    have z10 := (unhide HZ).at 10 (.int .i64 0) rfl
    have f10 := (unhide HZ).fz 10
    have z11 := (unhide HZ).at 11 (.int .i64 0) rfl
    have f11 := (unhide HZ).fz 11
    have z12 := (unhide HZ).at 12 (.slice none 0 0) rfl
    have f12 := (unhide HZ).fz 12
    go_wp2_with fail
    clear z0 f0 z1 f1 z2 f2 z3 f3 z4 f4 z5 f5 z6 f6 z7 f7 z8 f8 z9 f9 z10 f10 z11 f11 z12 f12
    have k2 : Blk ((((((((((((((((((((((((((w2).setCell ⟨w.heap.size, 0, none⟩ (.int .i64 id))).setCell ⟨w.heap.size, 1, none⟩ (.int .i64 1))).setCell ⟨w.heap.size, 2, none⟩ (.int .i64 0))).setCell ⟨w.heap.size, 3, none⟩ (.int .i64 out))).setCell ⟨w.heap.size, 4, none⟩ (.int .i64 r))).setCell ⟨w.heap.size, 5, none⟩ (.int .i64 out))).setCell ⟨w.heap.size, 6, none⟩ (.int .i64 0))).setCell ⟨w.heap.size, 7, none⟩ (.int .i64 0))).setCell ⟨w.heap.size, 8, none⟩ (.int .i64 0))).setCell ⟨w.heap.size, 9, none⟩ (.int .i64 0))).setCell ⟨w.heap.size, 10, none⟩ (.int .i64 0))).setCell ⟨w.heap.size, 11, none⟩ (.int .i64 0))).setCell ⟨w.heap.size, 12, none⟩ (.slice a' l.length c')) w.heap.size #[.int .i64 id, .int .i64 1, .int .i64 0, .int .i64 out, .int .i64 r, .int .i64 out, .int .i64 0, .int .i64 0, .int .i64 0, .int .i64 0, .int .i64 0, .int .i64 0, .slice a' l.length c'] 62 := (unhide HZ).wrL (.int .i64 id) (.int .i64 1) (.int .i64 0) (.int .i64 out) (.int .i64 r) (.int .i64 out) (.int .i64 0) (.int .i64 0) (.int .i64 0) (.int .i64 0) (.int .i64 0) (.int .i64 0) (.slice a' l.length c')
    have k4 : Below w.heap.size w ((((((((((((((((((((((((((w2).setCell ⟨w.heap.size, 0, none⟩ (.int .i64 id))).setCell ⟨w.heap.size, 1, none⟩ (.int .i64 1))).setCell ⟨w.heap.size, 2, none⟩ (.int .i64 0))).setCell ⟨w.heap.size, 3, none⟩ (.int .i64 out))).setCell ⟨w.heap.size, 4, none⟩ (.int .i64 r))).setCell ⟨w.heap.size, 5, none⟩ (.int .i64 out))).setCell ⟨w.heap.size, 6, none⟩ (.int .i64 0))).setCell ⟨w.heap.size, 7, none⟩ (.int .i64 0))).setCell ⟨w.heap.size, 8, none⟩ (.int .i64 0))).setCell ⟨w.heap.size, 9, none⟩ (.int .i64 0))).setCell ⟨w.heap.size, 10, none⟩ (.int .i64 0))).setCell ⟨w.heap.size, 11, none⟩ (.int .i64 0))).setCell ⟨w.heap.size, 12, none⟩ (.slice a' l.length c')) := below_putL (unhide HB) (Nat.le_refl _) (.int .i64 id) (.int .i64 1) (.int .i64 0) (.int .i64 out) (.int .i64 r) (.int .i64 out) (.int .i64 0) (.int .i64 0) (.int .i64 0) (.int .i64 0) (.int .i64 0) (.int .i64 0) (.slice a' l.length c')
    have k5 : Row ((((((((((((((((((((((((((w2).setCell ⟨w.heap.size, 0, none⟩ (.int .i64 id))).setCell ⟨w.heap.size, 1, none⟩ (.int .i64 1))).setCell ⟨w.heap.size, 2, none⟩ (.int .i64 0))).setCell ⟨w.heap.size, 3, none⟩ (.int .i64 out))).setCell ⟨w.heap.size, 4, none⟩ (.int .i64 r))).setCell ⟨w.heap.size, 5, none⟩ (.int .i64 out))).setCell ⟨w.heap.size, 6, none⟩ (.int .i64 0))).setCell ⟨w.heap.size, 7, none⟩ (.int .i64 0))).setCell ⟨w.heap.size, 8, none⟩ (.int .i64 0))).setCell ⟨w.heap.size, 9, none⟩ (.int .i64 0))).setCell ⟨w.heap.size, 10, none⟩ (.int .i64 0))).setCell ⟨w.heap.size, 11, none⟩ (.int .i64 0))).setCell ⟨w.heap.size, 12, none⟩ (.slice a' l.length c')) (.slice a' l.length c') l := Row.offL (unhide HR2) (fun x hx => by have := unhide HF x hx; omega) (.int .i64 id) (.int .i64 1) (.int .i64 0) (.int .i64 out) (.int .i64 r) (.int .i64 out) (.int .i64 0) (.int .i64 0) (.int .i64 0) (.int .i64 0) (.int .i64 0) (.int .i64 0) (.slice a' l.length c')
    have k6 : ∀ x, a' = some x → w.heap.size ≤ x.block := fun x hx => Nat.le_of_lt (unhide HF x hx)
    have k7 := unhide HS2
    generalize (((((((((((((((((((((((((w2).setCell ⟨w.heap.size, 0, none⟩ (.int .i64 id))).setCell ⟨w.heap.size, 1, none⟩ (.int .i64 1))).setCell ⟨w.heap.size, 2, none⟩ (.int .i64 0))).setCell ⟨w.heap.size, 3, none⟩ (.int .i64 out))).setCell ⟨w.heap.size, 4, none⟩ (.int .i64 r))).setCell ⟨w.heap.size, 5, none⟩ (.int .i64 out))).setCell ⟨w.heap.size, 6, none⟩ (.int .i64 0))).setCell ⟨w.heap.size, 7, none⟩ (.int .i64 0))).setCell ⟨w.heap.size, 8, none⟩ (.int .i64 0))).setCell ⟨w.heap.size, 9, none⟩ (.int .i64 0))).setCell ⟨w.heap.size, 10, none⟩ (.int .i64 0))).setCell ⟨w.heap.size, 11, none⟩ (.int .i64 0))).setCell ⟨w.heap.size, 12, none⟩ (.slice a' l.length c') = W at *
    have p0 := k2.at 0 (.int .i64 id) rfl
    have p1 := k2.at 1 (.int .i64 1) rfl
    have p2 := k2.at 2 (.int .i64 0) rfl
    have p3 := k2.at 3 (.int .i64 out) rfl
    have p4 := k2.at 4 (.int .i64 r) rfl
    have p5 := k2.at 5 (.int .i64 out) rfl
    have p6 := k2.at 6 (.int .i64 0) rfl
    have p7 := k2.at 7 (.int .i64 0) rfl
    have p8 := k2.at 8 (.int .i64 0) rfl
    have p9 := k2.at 9 (.int .i64 0) rfl
    have p10 := k2.at 10 (.int .i64 0) rfl
    have p11 := k2.at 11 (.int .i64 0) rfl
    have p12 := k2.at 12 (.slice a' l.length c') rfl
    exact bodyPost_ret (v := .tuple #[.agg #[.int .i64 id, .int .i64 1, .int .i64 0, .int .i64 out, .int .i64 r, .int .i64 out, .int .i64 0, .int .i64 0, .int .i64 0, .int .i64 0, .int .i64 0, .int .i64 0, .slice a' l.length c'], .int .i64 0]) (by simp [results, Try.results29, go_sem, p0, p1, p2, p3, p4, p5, p6, p7, p8, p9, p10, p11, p12]) rfl ⟨r, 0, unhide HN, .inr ⟨rfl, a', c', rfl, k5, k7, k6⟩, k4⟩
  · have t0 : (e != 0) = true := by simpa using he
    have z0 := (unhide HZ).at 0 (.int .i64 0) rfl
    have f0 := (unhide HZ).fz 0
    have z1 := (unhide HZ).at 1 (.int .i64 0) rfl
    have f1 := (unhide HZ).fz 1
    have z2 := (unhide HZ).at 2 (.int .i64 0) rfl
    have f2 := (unhide HZ).fz 2
    have z3 := (unhide HZ).at 3 (.int .i64 0) rfl
    have f3 := (unhide HZ).fz 3
    have z4 := (unhide HZ).at 4 (.int .i64 0) rfl
    have f4 := (unhide HZ).fz 4
    have z5 := (unhide HZ).at 5 (.int .i64 0) rfl
    have f5 := (unhide HZ).fz 5
    have z6 := (unhide HZ).at 6 (.int .i64 0) rfl
    have f6 := (unhide HZ).fz 6
    have z7 := (unhide HZ).at 7 (.int .i64 0) rfl
    have f7 := (unhide HZ).fz 7
    have z8 := (unhide HZ).at 8 (.int .i64 0) rfl
    have f8 := (unhide HZ).fz 8
    have z9 := (unhide HZ).at 9 (.int .i64 0) rfl
    have f9 := (unhide HZ).fz 9
    have z10 := (unhide HZ).at 10 (.int .i64 0) rfl
    have f10 := (unhide HZ).fz 10
    have z11 := (unhide HZ).at 11 (.int .i64 0) rfl
    have f11 := (unhide HZ).fz 11
    have z12 := (unhide HZ).at 12 (.slice none 0 0) rfl
    have f12 := (unhide HZ).fz 12
    go_wp2_with fail
    clear z0 f0 z1 f1 z2 f2 z3 f3 z4 f4 z5 f5 z6 f6 z7 f7 z8 f8 z9 f9 z10 f10 z11 f11 z12 f12
    have k2 : Blk ((((((((((((((((((((((((((w1).setCell ⟨w.heap.size, 0, none⟩ (.int .i64 0))).setCell ⟨w.heap.size, 1, none⟩ (.int .i64 0))).setCell ⟨w.heap.size, 2, none⟩ (.int .i64 0))).setCell ⟨w.heap.size, 3, none⟩ (.int .i64 0))).setCell ⟨w.heap.size, 4, none⟩ (.int .i64 0))).setCell ⟨w.heap.size, 5, none⟩ (.int .i64 0))).setCell ⟨w.heap.size, 6, none⟩ (.int .i64 0))).setCell ⟨w.heap.size, 7, none⟩ (.int .i64 0))).setCell ⟨w.heap.size, 8, none⟩ (.int .i64 0))).setCell ⟨w.heap.size, 9, none⟩ (.int .i64 0))).setCell ⟨w.heap.size, 10, none⟩ (.int .i64 0))).setCell ⟨w.heap.size, 11, none⟩ (.int .i64 0))).setCell ⟨w.heap.size, 12, none⟩ (.slice none 0 0)) w.heap.size #[.int .i64 0, .int .i64 0, .int .i64 0, .int .i64 0, .int .i64 0, .int .i64 0, .int .i64 0, .int .i64 0, .int .i64 0, .int .i64 0, .int .i64 0, .int .i64 0, .slice none 0 0] 62 := (unhide HZ).wrL (.int .i64 0) (.int .i64 0) (.int .i64 0) (.int .i64 0) (.int .i64 0) (.int .i64 0) (.int .i64 0) (.int .i64 0) (.int .i64 0) (.int .i64 0) (.int .i64 0) (.int .i64 0) (.slice none 0 0)
    have k4 : Below w.heap.size w ((((((((((((((((((((((((((w1).setCell ⟨w.heap.size, 0, none⟩ (.int .i64 0))).setCell ⟨w.heap.size, 1, none⟩ (.int .i64 0))).setCell ⟨w.heap.size, 2, none⟩ (.int .i64 0))).setCell ⟨w.heap.size, 3, none⟩ (.int .i64 0))).setCell ⟨w.heap.size, 4, none⟩ (.int .i64 0))).setCell ⟨w.heap.size, 5, none⟩ (.int .i64 0))).setCell ⟨w.heap.size, 6, none⟩ (.int .i64 0))).setCell ⟨w.heap.size, 7, none⟩ (.int .i64 0))).setCell ⟨w.heap.size, 8, none⟩ (.int .i64 0))).setCell ⟨w.heap.size, 9, none⟩ (.int .i64 0))).setCell ⟨w.heap.size, 10, none⟩ (.int .i64 0))).setCell ⟨w.heap.size, 11, none⟩ (.int .i64 0))).setCell ⟨w.heap.size, 12, none⟩ (.slice none 0 0)) := below_putL (unhide HB) (Nat.le_refl _) (.int .i64 0) (.int .i64 0) (.int .i64 0) (.int .i64 0) (.int .i64 0) (.int .i64 0) (.int .i64 0) (.int .i64 0) (.int .i64 0) (.int .i64 0) (.int .i64 0) (.int .i64 0) (.slice none 0 0)
    generalize (((((((((((((((((((((((((w1).setCell ⟨w.heap.size, 0, none⟩ (.int .i64 0))).setCell ⟨w.heap.size, 1, none⟩ (.int .i64 0))).setCell ⟨w.heap.size, 2, none⟩ (.int .i64 0))).setCell ⟨w.heap.size, 3, none⟩ (.int .i64 0))).setCell ⟨w.heap.size, 4, none⟩ (.int .i64 0))).setCell ⟨w.heap.size, 5, none⟩ (.int .i64 0))).setCell ⟨w.heap.size, 6, none⟩ (.int .i64 0))).setCell ⟨w.heap.size, 7, none⟩ (.int .i64 0))).setCell ⟨w.heap.size, 8, none⟩ (.int .i64 0))).setCell ⟨w.heap.size, 9, none⟩ (.int .i64 0))).setCell ⟨w.heap.size, 10, none⟩ (.int .i64 0))).setCell ⟨w.heap.size, 11, none⟩ (.int .i64 0))).setCell ⟨w.heap.size, 12, none⟩ (.slice none 0 0) = W at *
    have p0 := k2.at 0 (.int .i64 0) rfl
    have p1 := k2.at 1 (.int .i64 0) rfl
    have p2 := k2.at 2 (.int .i64 0) rfl
    have p3 := k2.at 3 (.int .i64 0) rfl
    have p4 := k2.at 4 (.int .i64 0) rfl
    have p5 := k2.at 5 (.int .i64 0) rfl
    have p6 := k2.at 6 (.int .i64 0) rfl
    have p7 := k2.at 7 (.int .i64 0) rfl
    have p8 := k2.at 8 (.int .i64 0) rfl
    have p9 := k2.at 9 (.int .i64 0) rfl
    have p10 := k2.at 10 (.int .i64 0) rfl
    have p11 := k2.at 11 (.int .i64 0) rfl
    have p12 := k2.at 12 (.slice none 0 0) rfl
    exact bodyPost_ret (v := .tuple #[.agg #[.int .i64 0, .int .i64 0, .int .i64 0, .int .i64 0, .int .i64 0, .int .i64 0, .int .i64 0, .int .i64 0, .int .i64 0, .int .i64 0, .int .i64 0, .int .i64 0, .slice none 0 0], .int .i64 e]) (by simp [results, Try.results29, go_sem, p0, p1, p2, p3, p4, p5, p6, p7, p8, p9, p10, p11, p12]) rfl ⟨r, e, unhide HN, .inl ⟨he, rfl⟩, k4⟩
theorem new_any {id out : Int} {a : Option Addr} {n c : Nat} {w : World} {l : List Int} (ho : In64 out) (hR : Row w (.slice a n c) l) (hS : Sl a n c) (hl : l.length ≤ 1000000) : NewA w id out (.slice a n c) l := by
  by_cases h : inB 0 id 2147483647 = true
  · exact new_b id out a n c w l h ho hR hS hl
  · exact new_a id out a n c w l (Bool.eq_false_iff.2 h)
end Go.Proofs.Ytlaaomhcilnbkaa.Mn
