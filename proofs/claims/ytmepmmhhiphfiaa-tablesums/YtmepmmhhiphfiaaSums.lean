/- Proved here: TableSums: the sums of any rows, and their plug, or the error, are the document's. No condition. -/
import Derived.Test.YtmepmmhhiphfiaaTFacts
import Derived.Test.YtmepmmhhiphfiaaRSums
import Derived.Test.YtmepmmhhiphfiaaRPlug
import Derived.Below
import Derived.Deep.SlicePairs
namespace Go.Proofs.Ytmepmmhhiphfiaa.Mn.tableSums
open Go.ChangeShapes Go.WideShapes Go.ChangeAt Go.RowKit
set_option linter.unusedSimpArgs false
set_option maxRecDepth 100000 in
/-- A slice of rows that comes in. -/
theorem rowN_open {H : Type} {enc : TypeId × Value → H} {W : World} {base : Nat} {spare : Nat → Bool} {held : Bool} {T E : TypeId} {f0 f1 f2 f3 : Field} {fuel : Nat} {a : Option Addr} {len cap : Nat} {x : DataW H × List MemPlace}
    (ht : Try.prog.underlying T = some (.slice E)) (he : Try.prog.underlying E = some (.struct #[f0, f1, f2, f3])) (ce : Try.prog.cellsOf E = 4) (o0 : f0.offset = 0) (o1 : f1.offset = 1) (o2 : f2.offset = 2) (o3 : f3.offset = 3)
    (c0 : Try.prog.cellsOf f0.type = 1) (c1 : Try.prog.cellsOf f1.type = 1) (c2 : Try.prog.cellsOf f2.type = 1) (c3 : Try.prog.cellsOf f3.type = 1)
    (u0 : Try.prog.underlying f0.type = some (.int .i64)) (u1 : Try.prog.underlying f1.type = some (.int .i64)) (u2 : Try.prog.underlying f2.type = some (.int .i64)) (u3 : Try.prog.underlying f3.type = some (.int .i64))
    (h : DataW.trod enc Try.prog W base spare held fuel T [.slice a len cap] = some x) : ∃ l : List (List Int), RowN 4 W (.slice a len cap) l := by
  rcases Go.Deep.open_slice ht h with ⟨hc, _⟩ | ⟨ad, l, c, m, n, D, Pl, hc, hb, hl, hm, hmm, _, hx⟩
  · simp at hc
    obtain ⟨rfl, rfl, rfl⟩ := hc
    exact ⟨[], Or.inl ⟨_, _, rfl, rfl, fun _ => rfl⟩⟩
  · simp at hc
    obtain ⟨rfl, rfl, rfl⟩ := hc
    by_cases h0 : len = 0
    · subst h0; exact ⟨[], Or.inl ⟨_, cap, rfl, rfl, fun c => (by cases c)⟩⟩
    · have hlm : len ≤ m := by rw [hmm]; split <;> omega
      have each : ∀ i, i < len → ∃ q : List Int, q.length = 4 ∧ (∀ y ∈ q, In64 y) ∧ ∀ t, t < 4 → W.cell? (ad.add (i * 4 + t)) = some (.int .i64 (q.getD t 0)) := fun i hi => by
        obtain ⟨cs', h1, h2⟩ := hx i (by omega)
        rw [ce] at h1
        obtain ⟨_, hlen, hcell⟩ := World.cells?_some h1
        obtain ⟨xs, k, hk, hxy, _, hxl, hf⟩ := DataW.trod_struct he h2
        match xs, hxl, cs', hlen with
        | [y0, y1, y2, y3], _, [v0, v1, v2, v3], _ =>
          have g0 := hf 0 f0 rfl
          have g1 := hf 1 f1 rfl
          have g2 := hf 2 f2 rfl
          have g3 := hf 3 f3 rfl
          simp [o0, o1, o2, o3, c0, c1, c2, c3] at g0 g1 g2 g3
          obtain ⟨z0, e0, _, w0⟩ := DataW.trod_int u0 g0
          obtain ⟨z1, e1, _, w1⟩ := DataW.trod_int u1 g1
          obtain ⟨z2, e2, _, w2⟩ := DataW.trod_int u2 g2
          obtain ⟨z3, e3, _, w3⟩ := DataW.trod_int u3 g3
          simp at e0 e1 e2 e3
          subst e0 e1 e2 e3
          refine ⟨[z0, z1, z2, z3], rfl, fun y hy => ?_, fun t ht => ?_⟩
          · simp at hy
            rcases hy with rfl | rfl | rfl | rfl
            · exact in64_of w0
            · exact in64_of w1
            · exact in64_of w2
            · exact in64_of w3
          · have e := hcell t (by omega)
            rw [Go.Deep.add_add] at e
            rw [e]
            match t, ht with
            | 0, _ => rfl
            | 1, _ => rfl
            | 2, _ => rfl
            | 3, _ => rfl
      obtain ⟨q, hq⟩ : ∃ q : Nat → List Int, ∀ i, i < len → (q i).length = 4 ∧ (∀ y ∈ q i, In64 y) ∧ ∀ t, t < 4 → W.cell? (ad.add (i * 4 + t)) = some (.int .i64 ((q i).getD t 0)) :=
        (Classical.skolem (p := fun i (p : List Int) => i < len → p.length = 4 ∧ (∀ y ∈ p, In64 y) ∧ ∀ t, t < 4 → W.cell? (ad.add (i * 4 + t)) = some (.int .i64 (p.getD t 0)))).1 (fun i => by
          by_cases hi : i < len
          · obtain ⟨p, hp⟩ := each i hi
            exact ⟨p, fun _ => hp⟩
          · exact ⟨[], fun c => absurd c hi⟩)
      obtain ⟨b, off, spot⟩ := ad
      have hspot : spot = none := by simpa [Addr.add] using World.cell?_spot ((hq 0 (by omega)).2.2 0 (by omega))
      subst hspot
      have hlen : ((List.range len).map q).length = len := by simp
      refine ⟨(List.range len).map q, Or.inr ⟨b, off, cap, by rw [hlen], by omega, by omega, by omega, fun j hj t ht => ?_, fun f hf => ?_⟩⟩
      · rw [hlen] at hj
        have e : ((List.range len).map q).getD j [] = q j := by simp [List.getD, hj]
        have g := (hq j hj).2.2 t ht
        rw [Go.WideShapes.add_plain] at g
        unfold getN
        rw [e, Nat.add_assoc]
        exact g
      · obtain ⟨j, hj, rfl⟩ := List.mem_map.1 hf
        exact ⟨(hq j (List.mem_range.1 hj)).1, (hq j (List.mem_range.1 hj)).2.1⟩
theorem s_long (a0 : Option Addr) (l0 c0 : Nat) (r : Int) (d1 : decide ((200 : Int) < (l0 : Int)) = true) (hal : Hid Alive) (w : World) : Calls Try.prog 4 #[.slice a0 l0 c0, .int .i64 r] w fun e w' => e = .returned (.bool true) ∧ Below w.heap.size w w' := by
  go_enter Try.func4, Try.ntmps4
  go_wp2_with fail
  refine (unhide hal _).mono ?_
  rintro e w1 ⟨rfl, hb⟩
  replace hb := hide hb
  go_wp2_with fail
  go_ret
  exact ⟨rfl, unhide hb⟩
set_option maxRecDepth 20000 in
set_option maxHeartbeats 2000000 in
theorem s_ok (a0 : Option Addr) (l0 c0 : Nat) (r : Int) (l : List (List Int)) (A B E P F : Int) (d1 : decide ((200 : Int) < (l0 : Int)) = false) (hal : Hid Alive) (w : World) (hR : Hid (RowN 4 w (.slice a0 l0 c0) l)) (hm : l.length ≤ 1000) (hs : SumR l A B E) (hp : plugN l r = P) (hf : plugE l r = F) : Calls Try.prog 4 #[.slice a0 l0 c0, .int .i64 r] w fun e w' => e = .returned (.bool true) ∧ Below w.heap.size w w' := by
  have HL := hide hm
  have HS1 : Hid (∀ W v, RowN 4 W v l → SumsA 12 W v A B E) := hide (fun W v h => sums_any h hm hs)
  have HS2 : Hid (∀ W v, RowN 4 W v l → SumsA 14 W v A B E) := hide (fun W v h => rsums_any h hm hs)
  have HP1 : Hid (∀ W v, RowN 4 W v l → PlugA 15 W v r P F) := hide (fun W v h => by rw [← hp, ← hf]; exact plug_any r h hm)
  have HP2 : Hid (∀ W v, RowN 4 W v l → PlugA 16 W v r P F) := hide (fun W v h => by rw [← hp, ← hf]; exact rplug_any r h hm)
  unfold SumsA at HS1 HS2
  unfold PlugA at HP1 HP2
  have e1 : (A == A) = true := by simp
  have e2 : (B == B) = true := by simp
  have e3 : (E == E) = true := by simp
  have e4 : (P == P) = true := by simp
  have e5 : (F == F) = true := by simp
  clear hm hs hp hf
  go_enter Try.func4, Try.ntmps4
  go_wp2_with fail
  refine (unhide hal _).mono ?_
  rintro e w1 ⟨rfl, hb⟩
  have HB := hide hb
  replace hR := hide ((unhide hR).keep hb)
  have HT := hide (to_any _ _ _ (unhide hR) (unhide HL))
  clear hb
  go_wp2_with fail
  refine (unhide HT).mono ?_
  rintro e w2 ⟨u, rfl, hg⟩
  replace HB := hide (below_via (unhide HB) hg.below)
  replace hR := hide ((unhide hR).keep hg.below)
  have HQ := hide (unhide HS1 _ _ hg.row)
  clear hg HT
  go_wp2_with fail
  refine (unhide HQ).mono ?_
  rintro e w3 ⟨rfl, hb⟩
  replace HB := hide (below_via (unhide HB) hb)
  replace hR := hide ((unhide hR).keep hb)
  have HQ2 := hide (unhide HS2 _ _ (unhide hR))
  clear hb HQ
  go_wp2_with fail
  refine (unhide HQ2).mono ?_
  rintro e w4 ⟨rfl, hb⟩
  replace HB := hide (below_via (unhide HB) hb)
  replace hR := hide ((unhide hR).keep hb)
  have HT := hide (to_any _ _ _ (unhide hR) (unhide HL))
  clear hb HQ2
  go_wp2_with fail
  refine (unhide HT).mono ?_
  rintro e w5 ⟨u2, rfl, hg⟩
  replace HB := hide (below_via (unhide HB) hg.below)
  replace hR := hide ((unhide hR).keep hg.below)
  have HQ := hide (unhide HP1 _ _ hg.row)
  clear hg HT
  go_wp2_with fail
  refine (unhide HQ).mono ?_
  rintro e w6 ⟨rfl, hb⟩
  replace HB := hide (below_via (unhide HB) hb)
  replace hR := hide ((unhide hR).keep hb)
  have HQ2 := hide (unhide HP2 _ _ (unhide hR))
  clear hb HQ
  go_wp2_with fail
  refine (unhide HQ2).mono ?_
  rintro e w7 ⟨rfl, hb⟩
  replace HB := hide (below_via (unhide HB) hb)
  clear hb HQ2
  go_wp2_with fail
  go_ret
  exact ⟨rfl, unhide HB⟩
theorem walk (a0 : Option Addr) (l0 c0 : Nat) (l : List (List Int)) (r : Int) (w : World) (hR : RowN 4 w (.slice a0 l0 c0) l) (_wr : (Lit.int .i64 r).wf = true) : Calls Try.prog 4 #[.slice a0 l0 c0, .int .i64 r] w fun e w' => e = .returned (.bool true) ∧ Below w.heap.size w w' := by
  have hl := rowN_len hR
  by_cases h1 : 200 < l0
  · exact s_long a0 l0 c0 r (decide_eq_true (by omega)) (hide alive_any) w
  · obtain ⟨A, B, E, hs⟩ := sumR_ex l
    exact s_ok a0 l0 c0 r l A B E _ _ (decide_eq_false (by omega)) (hide alive_any) w (hide hR) (by omega) hs rfl rfl
theorem own : ownKnob Try.prog.godebug = none := by kernel_rfl
theorem laidOut : laidOutB Try.prog = true := by kernel_rfl
set_option linter.unusedVariables false in
set_option maxRecDepth 100000 in
theorem lifted (os : Os) (started : os.Started) (H : Type) (enc : TypeId × Value → H) :
    ReturnsInHanded {} Try.checked os 4 .any (Rows.tableSumsSpec.pre6 enc Try.prog Try.f4 Rows.tableSumsRow.domain false) (Rows.tableSumsSpec.post enc Try.prog Try.f4 false true false false) := by
  refine returnsInHanded_of_change (C := Try.checked) own started (by kernel_rfl) Try.func4
    (ChangeSpec.witness6 (enc := enc) (C := Try.checked) false ⟨#[], #[.slice none 0 0, .int .i64 0], []⟩ 8 (by kernel_rfl) (by kernel_rfl) (by kernel_rfl) (by kernel_rfl)) ?_
  intro W base args ds gs before hval0 hW hcnd _
  have hval : ∀ (j : Nat) t v, Try.f4.params[j]? = some t → args[j]? = some v → Value.okWide Try.prog W .any base t v := hval0
  have hW' := hW
  obtain ⟨p, q, hA0, hV, rfl, hfz, hnd⟩ := hW
  have hA : DataW.TrodAll enc Try.prog W 0 (fun _ => true) true Try.f4.params.toList args.toList ds p := hA0
  rw [Try.params4] at hA hval
  obtain ⟨v0, vs0, d0, ds0, p0, q0, hargs, rfl, rfl, h0, r0⟩ := trodAll_cons hA
  obtain ⟨v1, vs1, d1, ds1, p1, q1, rfl, rfl, rfl, h1, r1⟩ := trodAll_cons r0
  obtain ⟨rfl, rfl, rfl⟩ := trodAll_nil r1
  obtain rfl : args = #[v0, v1] := by cases args; simp_all
  obtain ⟨rfl, rfl⟩ := trodVars_none hV
  obtain ⟨a0, len0, cap0, rfl⟩ := okWide_slice Try.underlying28 (hval 0 28 v0 rfl rfl)
  have k0 := h0
  have lt0 : ∀ x ∈ p0, x.block < W.heap.size := by obtain ⟨m, hm⟩ := k0; exact DataW.trod_lt m _ _ _ hm
  obtain ⟨z0, w0⟩ : ∃ l : List (List Int), RowN 4 W (.slice a0 len0 cap0) l := by
    obtain ⟨fuel, hf⟩ := h0
    exact rowN_open Try.underlying28 Try.underlying48 (by kernel_rfl) rfl rfl rfl rfl (by kernel_rfl) (by kernel_rfl) (by kernel_rfl) (by kernel_rfl) Try.underlying2 Try.underlying2 Try.underlying2 Try.underlying2 hf
  obtain ⟨a1, rfl, rfl, rfl, w1⟩ := open_int Try.underlying2 (hval 1 2 v1 rfl rfl) h1
  clear hA0 hval0
  refine (walk a0 len0 cap0 z0 a1 W w0 w1).mono fun e W' ⟨he, bel⟩ => ?_
  subst he
  exact ⟨_, rfl, _, _, _, [], _, [], hW', trodAll_mk1 (shut_bool Try.underlying4 _), (trodAll_cons_mk (Below.trod laidOut (by kernel_rfl) (of_decide_eq_true (by kernel_rfl)) k0 bel lt0) (trodAll_cons_mk (shut_int Try.underlying2 w1) trodAll_mk0)), rfl, bel.frame _, fun h => by cases h⟩
theorem over : Rows.tableSumsRow.holds Try.pinned (OpenSpec.ofChange Rows.tableSumsSpec) :=
  OpenClaim.holds_of_wide 4 Try.f4 rfl rfl rfl rfl rfl rfl rfl ⟨rfl, rfl, rfl, rfl, rfl⟩ rfl rfl rfl rfl rfl (by kernel_rfl) Try.func4 (by kernel_rfl)
    (of_decide_eq_true (by kernel_rfl)) (by unfold Func.isWrapper; first | (rw [if_pos (by decide +kernel)]; kernel_rfl) | (rw [if_neg (by decide +kernel)]; exact ⟨rfl, rfl⟩))
    (fun os started H enc _ => lifted os started H enc)
/-- The statement. -/
theorem proved : Rows.TableSumsSaid := over
#print axioms proved
end Go.Proofs.Ytmepmmhhiphfiaa.Mn.tableSums
namespace Go.Proofs.Ytmepmmhhiphfiaa
theorem tableSums_holds : Rows.TableSumsSaid := Mn.tableSums.proved
end Go.Proofs.Ytmepmmhhiphfiaa
