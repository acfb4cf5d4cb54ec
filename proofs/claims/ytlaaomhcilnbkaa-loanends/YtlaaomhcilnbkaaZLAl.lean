/- The example of layer 12 comes out as the chapter says. -/
import Derived.Test.YtlaaomhcilnbkaaZLNw
set_option linter.unusedVariables false
set_option linter.unusedSimpArgs false
set_option linter.unusedSectionVars false
namespace Go.Proofs.Ytlaaomhcilnbkaa.Mn
open Go.RowKit
attribute [local simp] Tri.typeInfo Tri.sizeOf Tri.underlying Tri.runUnderlying Tri.isAgg Tri.zeroValue Tri.depth Tri.stoodInHeld Tri.eqGuardType Tri.call16 Tri.call22 Tri.call28 Tri.call29 Tri.call33 Tri.call38 Tri.call39 Tri.call42 Tri.call45 Tri.call48 Tri.call52 Tri.call54 Tri.call62 Tri.call63 Tri.call65 Tri.call66 Tri.call68 Tri.call69 Tri.call70 Tri.call71 Tri.call78 Tri.call79 Tri.call80 Tri.call81 Tri.call82 Tri.call83 Tri.call84 Tri.call85 Tri.call86 Tri.call89 Tri.call101 Tri.call102 Tri.call103 Tri.call104 Tri.call105 Tri.call107 Tri.call113 Tri.call123 Tri.call124 Tri.call125 Tri.call126 Tri.call127 Tri.call136 Tri.call138 Tri.call139 Tri.call140 Tri.call141 Tri.call142 Tri.call143 Tri.call144 Tri.call154 Tri.call155 Tri.call165 Tri.call167 Tri.call184
theorem so3 : maySo 1000 [500, 605] = true := by decide +kernel
theorem cv3 : cov 1000 [500, 605] (-990000000000) = true ∧ cov 1000 [500, 605] 60000000001 = true ∧ cov 1000 [500, 605] 80000000000 = false ∧ cov 1000 [500, 605] 10000000000000 = false := by decide +kernel
theorem pos3 : ∀ x ∈ ([500, 605] : List Int), 0 ≤ x := by decide
theorem eg3 {r e : Int} (h : NewE 1 1000 [500, 605] r e) : e = 0 ∧ 60000000000 < r ∧ r < 80000000000 := by
  rcases h with ⟨h, _⟩ | ⟨_, h⟩
  · exact absurd h (by decide)
  rcases h with ⟨h, _⟩ | ⟨_, ⟨h, _⟩ | ⟨h, rfl⟩⟩
  · rw [so3] at h; cases h
  · rcases h with h | h
    · rw [cv3.1] at h; cases h
    · rw [cv3.2.2.2] at h; cases h
  · refine ⟨rfl, ?_, ?_⟩
    · refine Classical.byContradiction fun hn => ?_
      have a := h.lo
      have := cov_rate (r := r + 1) (s := 60000000001) ⟨by omega, by omega⟩ ⟨by omega, by omega⟩ (by omega) pos3 cv3.2.1
      rw [h.no] at this
      cases this
    · refine Classical.byContradiction fun hn => ?_
      have a := h.hi
      have := cov_rate (r := 80000000000) (s := r) ⟨by omega, by omega⟩ ⟨by omega, by omega⟩ (by omega) pos3 h.yes
      rw [cv3.2.2.1] at this
      cases this
def alK (r : Int) : Ln := ⟨1, 1, 0, 1000, r, 1000 + (qI 1000 r - 500), 0, qI 1000 r, 500, 0, 0, 0⟩
def alZ (r : Int) : Ln := ⟨1, 2, 0, 1000, r, 0, 0, 105, 1105, 0, 0, 0⟩
theorem stepd_of {k : Nat} {L : Ln} {l : List Int} {p : Int} (hc : chkS k L l p = 0) (hr : Rt (doS k L l p).K (doS k L l p).l) : stepE k L l p = 0 ∧ stepR k L l p = doS k L l p := by
  have hE : stepE k L l p = 0 := by
    unfold stepE
    rw [if_pos hc, if_neg (by have := hr.gr; omega), if_pos (of_rt hr)]
  exact ⟨hE, by unfold stepR; rw [if_pos hE]⟩
theorem asks_of {L : Ln} {l : List Int} {k p lo : Int} (h : Rt L l) (hp : lo ≤ p ∧ p ≤ 10000000000000) (hk : L.st = k) : asksE L l k p lo = 0 := by
  unfold asksE
  rw [of_rt h, inB_of hp, Bool.true_and, if_pos rfl, if_pos hk]
theorem chk_of {L : Ln} {l : List Int} {p : Int} (h : Rt L l) (hp : 0 ≤ p ∧ p ≤ 10000000000000) (hk : L.st = 1) (hl : l ≠ []) : chk1 L l p = 0 := by
  unfold chk1
  rw [if_pos (asks_of h hp hk), if_neg (fun e => hl (List.eq_nil_of_length_eq_zero e))]
theorem al_first {r : Int} (h1 : 60000000000 < r) (h2 : r < 80000000000) : stepE 1 (newK 1 1000 r) [500, 605] 500 = 0 ∧ stepR 1 (newK 1 1000 r) [500, 605] 500 = ⟨alK r, [605], ⟨qI 1000 r, 500, 0, 0⟩⟩ := by
  have q1 : 60 ≤ qI 1000 r := near_ge (by omega) (by omega)
  have q2 : qI 1000 r ≤ 80 := near_le (by omega) (by omega)
  have e : doS 1 (newK 1 1000 r) [500, 605] 500 = ⟨alK r, [605], ⟨qI 1000 r, 500, 0, 0⟩⟩ := by
    simp [doS, stepL, newK, recvK, recvJ, recvB, alK]
  have hR : Rt (newK 1 1000 r) [500, 605] := by
    refine ⟨?_, ?_, ?_, ?_, ⟨?_, ?_⟩, ?_, ?_, ?_, ?_, ?_, ?_, ?_, ?_, ?_, ?_, ?_⟩ <;> simp [newK] <;> omega
  have hK : Rt (alK r) [605] := by
    refine ⟨?_, ?_, ?_, ?_, ⟨?_, ?_⟩, ?_, ?_, ?_, ?_, ?_, ?_, ?_, ?_, ?_, ?_, ?_⟩ <;> simp [alK] <;> omega
  have k := stepd_of (k := 1) (L := newK 1 1000 r) (l := [500, 605]) (p := 500) (chk_of hR ⟨by omega, by omega⟩ rfl (by simp)) (by rw [e]; exact hK)
  rw [e] at k
  exact k
theorem al_last {r : Int} (h1 : 60000000000 < r) (h2 : r < 80000000000) : stepE 1 (alK r) [605] 605 = 0 ∧ ∃ m, stepR 1 (alK r) [605] 605 = ⟨alZ r, [], m⟩ := by
  have q1 : 60 ≤ qI 1000 r := near_ge (by omega) (by omega)
  have q2 : qI 1000 r ≤ 80 := near_le (by omega) (by omega)
  obtain ⟨m, e⟩ : ∃ m, doS 1 (alK r) [605] 605 = ⟨alZ r, [], m⟩ := by
    refine ⟨⟨605 - (1000 + (qI 1000 r - 500)), 605, 0, 0⟩, ?_⟩
    have hb : recvB (stepL (alK r) (([605] : List Int).headD 0)) ([605] : List Int).tail.isEmpty 605 = true := by simp [recvB, stepL, alK]
    simp only [doS, if_true, recvK, recvJ, hb]
    simp only [stepL, alK, alZ, List.tail_cons, Dn.mk.injEq, Ln.mk.injEq, true_and, and_true]
    omega
  have hR : Rt (alK r) [605] := by
    refine ⟨?_, ?_, ?_, ?_, ⟨?_, ?_⟩, ?_, ?_, ?_, ?_, ?_, ?_, ?_, ?_, ?_, ?_, ?_⟩ <;> simp [alK] <;> omega
  have hK : Rt (alZ r) [] := by
    refine ⟨?_, ?_, ?_, ?_, ⟨?_, ?_⟩, ?_, ?_, ?_, ?_, ?_, ?_, ?_, ?_, ?_, ?_, ?_⟩ <;> simp [alZ] <;> omega
  have k := stepd_of (k := 1) (L := alK r) (l := [605]) (p := 605) (chk_of hR ⟨by omega, by omega⟩ rfl (by simp)) (by rw [e]; exact hK)
  rw [e] at k
  exact ⟨k.1, m, k.2⟩
theorem row_two (w : World) (x y : Int) (hx : In64 x) (hy : In64 y) : Row (w.alloc (.cells #[.int .i64 x, .int .i64 y] 2)) (.slice (some ⟨w.heap.size, 0, none⟩) 2 2) [x, y] := by
  refine Or.inr ⟨w.heap.size, 0, 2, rfl, by simp, by unfold maxLen; simp, fun j hj => ?_, fun z hz => by simp at hz; rcases hz with rfl | rfl <;> assumption⟩
  rw [World.cell?_alloc_at _ _ _ _ rfl]
  match j, hj with
  | 0, _ => rfl
  | 1, _ => rfl
def AliveL : Prop := ∀ w : World, Calls (Tri Try.prog) 28 #[] w fun e w' => e = .returned (.bool true) ∧ Below w.heap.size w w'
set_option maxHeartbeats 4000000 in
theorem aliveL : AliveL := by
  intro w
  have HN := hide (new_any (id := 1) (out := 1000) ⟨by omega, by omega⟩ (row_two w 500 605 ⟨by omega, by omega⟩ ⟨by omega, by omega⟩) ⟨Nat.le_refl _, fun e => by cases e⟩ (by simp))
  unfold NewA at HN
  have HB := hide (below1L w (.cells #[.int .i64 500, .int .i64 605] 2))
  go_enter (Tri.at (by decide) Try.func28), Try.ntmps28
  go_wp2_with fail
  refine (unhide HN).mono ?_
  rintro z w1 ⟨r, e, hE, hz, hb⟩
  obtain ⟨rfl, r1, r2⟩ := eg3 hE
  rcases hz with ⟨h, _⟩ | ⟨_, a1, c1, rfl, hr, hs, _⟩
  · exact absurd rfl h
  replace HB := hide (below_via (unhide HB) hb)
  have HR := hide hr
  have HS := hide hs
  clear hb hr hs hE HN
  have H1 : Hid (∀ (w1 : World) (a : Option Addr) (c : Nat), Row w1 (.slice a 2 c) [500, 605] → Sl a 2 c → Calls (Tri Try.prog) 38 #[.agg #[.int .i64 (newK 1 1000 r).id, .int .i64 (newK 1 1000 r).st, .int .i64 (newK 1 1000 r).be, .int .i64 (newK 1 1000 r).out, .int .i64 (newK 1 1000 r).rt, .int .i64 (newK 1 1000 r).gr, .int .i64 (newK 1 1000 r).due, .int .i64 (newK 1 1000 r).inc, .int .i64 (newK 1 1000 r).got, .int .i64 (newK 1 1000 r).adj, .int .i64 (newK 1 1000 r).wri, .int .i64 (newK 1 1000 r).rcv, .slice a 2 c], .int .i64 500] w1 fun z w2 => ∃ a3 c3 m0 m1 m2 m3, z = .returned (.tuple #[.agg #[.int .i64 (alK r).id, .int .i64 (alK r).st, .int .i64 (alK r).be, .int .i64 (alK r).out, .int .i64 (alK r).rt, .int .i64 (alK r).gr, .int .i64 (alK r).due, .int .i64 (alK r).inc, .int .i64 (alK r).got, .int .i64 (alK r).adj, .int .i64 (alK r).wri, .int .i64 (alK r).rcv, .slice a3 1 c3], .agg #[.int .i64 m0, .int .i64 m1, .int .i64 m2, .int .i64 m3], .int .i64 0]) ∧ Row w2 (.slice a3 1 c3) [605] ∧ Sl a3 1 c3 ∧ Below w1.heap.size w1 w2) := hide (fun w1 a c h1 h2 => (step_1 (p := 500) h1 h2 (by simp)).mono fun z w2 ⟨a3, c3, g1, g2, g3, _, g5⟩ => by
    rw [(al_first r1 r2).1, (al_first r1 r2).2] at g1
    rw [(al_first r1 r2).2] at g2 g3
    exact ⟨a3, c3, _, _, _, _, g1, g2, g3, g5⟩)
  obtain ⟨Z1, m9, Z2⟩ := al_last r1 r2
  have H2 : Hid (∀ (w1 : World) (a : Option Addr) (c : Nat), Row w1 (.slice a 1 c) [605] → Sl a 1 c → Calls (Tri Try.prog) 38 #[.agg #[.int .i64 (alK r).id, .int .i64 (alK r).st, .int .i64 (alK r).be, .int .i64 (alK r).out, .int .i64 (alK r).rt, .int .i64 (alK r).gr, .int .i64 (alK r).due, .int .i64 (alK r).inc, .int .i64 (alK r).got, .int .i64 (alK r).adj, .int .i64 (alK r).wri, .int .i64 (alK r).rcv, .slice a 1 c], .int .i64 605] w1 fun z w2 => ∃ a3 c3 m0 m1 m2 m3, z = .returned (.tuple #[.agg #[.int .i64 (alZ r).id, .int .i64 (alZ r).st, .int .i64 (alZ r).be, .int .i64 (alZ r).out, .int .i64 (alZ r).rt, .int .i64 (alZ r).gr, .int .i64 (alZ r).due, .int .i64 (alZ r).inc, .int .i64 (alZ r).got, .int .i64 (alZ r).adj, .int .i64 (alZ r).wri, .int .i64 (alZ r).rcv, .slice a3 0 c3], .agg #[.int .i64 m0, .int .i64 m1, .int .i64 m2, .int .i64 m3], .int .i64 0]) ∧ Row w2 (.slice a3 0 c3) [] ∧ Sl a3 0 c3 ∧ Below w1.heap.size w1 w2) := hide (fun w1 a c h1 h2 => (step_1 (p := 605) h1 h2 (by simp)).mono fun z w2 ⟨a3, c3, g1, g2, g3, _, g5⟩ => by
    rw [Z1, Z2] at g1
    rw [Z2] at g2 g3
    exact ⟨a3, c3, _, _, _, _, g1, g2, g3, g5⟩)
  clear Z1 Z2 m9
  have d1 : decide (60000000000 < (newK 1 1000 r).rt) = true := decide_eq_true r1
  have d2 : decide ((newK 1 1000 r).rt < 80000000000) = true := decide_eq_true r2
  have d3 : ((alZ r).st == 2) = true := rfl
  have d4 : ((alZ r).inc == 105) = true := rfl
  have d5 : ((alZ r).gr == 0) = true := rfl
  clear r1 r2
  generalize newK 1 1000 r = K0 at *
  generalize alK r = K1 at *
  generalize alZ r = K2 at *
  have HK := hide (Blk.new w1 #[.int .i64 K0.id, .int .i64 K0.st, .int .i64 K0.be, .int .i64 K0.out, .int .i64 K0.rt, .int .i64 K0.gr, .int .i64 K0.due, .int .i64 K0.inc, .int .i64 K0.got, .int .i64 K0.adj, .int .i64 K0.wri, .int .i64 K0.rcv, .slice a1 2 c1] 62)
  replace HB := hide (below_via (unhide HB) (below1L w1 (.cells #[.int .i64 K0.id, .int .i64 K0.st, .int .i64 K0.be, .int .i64 K0.out, .int .i64 K0.rt, .int .i64 K0.gr, .int .i64 K0.due, .int .i64 K0.inc, .int .i64 K0.got, .int .i64 K0.adj, .int .i64 K0.wri, .int .i64 K0.rcv, .slice a1 2 c1] 62)))
  have HR1 := hide ((unhide HR).alloc (.cells #[.int .i64 K0.id, .int .i64 K0.st, .int .i64 K0.be, .int .i64 K0.out, .int .i64 K0.rt, .int .i64 K0.gr, .int .i64 K0.due, .int .i64 K0.inc, .int .i64 K0.got, .int .i64 K0.adj, .int .i64 K0.wri, .int .i64 K0.rcv, .slice a1 2 c1] 62))
  go_wp2_with fail
  refine (unhide H1 _ _ _ (unhide HR1) (unhide HS)).mono ?_
  rintro z w2 ⟨a2, c2, m0, m1, m2, m3, rfl, hr, hs, hb⟩
  have HR2 : Hid (Row ((w2.alloc (.cells #[.int .i64 K1.id, .int .i64 K1.st, .int .i64 K1.be, .int .i64 K1.out, .int .i64 K1.rt, .int .i64 K1.gr, .int .i64 K1.due, .int .i64 K1.inc, .int .i64 K1.got, .int .i64 K1.adj, .int .i64 K1.wri, .int .i64 K1.rcv, .slice a2 1 c2] 62)).alloc (.cells #[.int .i64 m0, .int .i64 m1, .int .i64 m2, .int .i64 m3] 74)) (.slice a2 1 c2) [605]) := hide ((hr.alloc _).alloc _)
  have HS2 := hide hs
  have bb : Below w2.heap.size w2 ((w2.alloc (.cells #[.int .i64 K1.id, .int .i64 K1.st, .int .i64 K1.be, .int .i64 K1.out, .int .i64 K1.rt, .int .i64 K1.gr, .int .i64 K1.due, .int .i64 K1.inc, .int .i64 K1.got, .int .i64 K1.adj, .int .i64 K1.wri, .int .i64 K1.rcv, .slice a2 1 c2] 62)).alloc (.cells #[.int .i64 m0, .int .i64 m1, .int .i64 m2, .int .i64 m3] 74)) := (below1L w2 _).alloc (by simp) _
  replace HB := hide (below_via (below_via (unhide HB) hb) bb)
  replace HK := hide (((unhide HK).keep hb).keep bb)
  clear hb hr hs bb HR HR1 HS H1
  go_wp2_with fail
  refine (unhide H2 _ _ _ (unhide HR2) (unhide HS2)).mono ?_
  rintro z w3 ⟨a4, c4, x0, x1, x2, x3, rfl, hr, hs, hb⟩
  have bb : Below w3.heap.size w3 ((w3.alloc (.cells #[.int .i64 K2.id, .int .i64 K2.st, .int .i64 K2.be, .int .i64 K2.out, .int .i64 K2.rt, .int .i64 K2.gr, .int .i64 K2.due, .int .i64 K2.inc, .int .i64 K2.got, .int .i64 K2.adj, .int .i64 K2.wri, .int .i64 K2.rcv, .slice a4 0 c4] 62)).alloc (.cells #[.int .i64 x0, .int .i64 x1, .int .i64 x2, .int .i64 x3] 74)) := (below1L w3 _).alloc (by simp) _
  replace HB := hide (below_via (below_via (unhide HB) hb) bb)
  replace HK := hide (((unhide HK).keep hb).keep bb)
  clear hb hr hs bb HR2 HS2 H2
  have q4 := (unhide HK).at 4 (.int .i64 K0.rt) rfl
  go_wp2_with fail
  go_ret
  exact ⟨rfl, unhide HB⟩
end Go.Proofs.Ytlaaomhcilnbkaa.Mn
