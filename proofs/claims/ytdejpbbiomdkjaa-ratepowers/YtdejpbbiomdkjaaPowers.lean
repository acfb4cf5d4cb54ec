/- Proved here: RatePowers: powers and parts are the reference's, or the error. No condition. -/
import Derived.Test.YtdejpbbiomdkjaaAlive
import Derived.Test.YtdejpbbiomdkjaaBits15
import Derived.Lib.SmallJoins
import Derived.ProofKit
import Derived.OpenShut
import Derived.ShutString
import Derived.ChangeOld
import Derived.Below
namespace Go.Proofs.Ytdejpbbiomdkjaa.ratePowers
open Go.ChangeShapes Go.WideShapes Go.ChangeAt Go.RowKit
set_option linter.unusedSimpArgs false
def Good (r n o l : Int) (w : World) : Prop := Calls Try.prog 4 #[.agg #[.int .i64 r, .int .i64 n, .int .i64 o, .int .i64 l]] w fun e w' => e = .returned (.bool true) ∧ Below w.heap.size w w'
set_option maxHeartbeats 4000000 in
theorem go_mid (r n o l : Int) (w : World) (d1 : decide (100 < n) = true) (d2 : decide (n ≤ 600) = true) : Good r n o l w := by
  unfold Good
  have hal := hide alive_any
  go_enter Try.func4, Try.ntmps4
  go_wp2_with fail
  have A1 : (w.alloc (.cells #[.int .i64 r, .int .i64 n, .int .i64 o, .int .i64 l] 29)).heap[w.heap.size]? = some (.cells #[.int .i64 r, .int .i64 n, .int .i64 o, .int .i64 l] 29 (0, 0)) := heap_alloc_new w _
  have A3 := (Below.refl w.heap.size w).alloc (Nat.le_refl _) (.cells #[.int .i64 r, .int .i64 n, .int .i64 o, .int .i64 l] 29)
  generalize w.alloc (.cells #[.int .i64 r, .int .i64 n, .int .i64 o, .int .i64 l] 29) = W at A1 A3 ⊢
  refine (unhide hal _).mono ?_
  rintro e w1 ⟨rfl, hb1⟩
  replace A1 := (hb1.block _ (Array.getElem?_eq_some_iff.1 A1).1).trans A1
  replace A3 := hide (below_via A3 hb1)
  clear hb1 hal
  have c0 : w1.cell? ⟨w.heap.size, 0, none⟩ = some (.int .i64 r) := by rw [cell_of_row w1 _ 0 _ _ _ A1]; rfl
  have c1 : w1.cell? ⟨w.heap.size, 1, none⟩ = some (.int .i64 n) := by rw [cell_of_row w1 _ 1 _ _ _ A1]; rfl
  have c2 : w1.cell? ⟨w.heap.size, 2, none⟩ = some (.int .i64 o) := by rw [cell_of_row w1 _ 2 _ _ _ A1]; rfl
  have c3 : w1.cell? ⟨w.heap.size, 3, none⟩ = some (.int .i64 l) := by rw [cell_of_row w1 _ 3 _ _ _ A1]; rfl
  replace A1 := hide A1
  go_wp2_with fail
  go_quiet (fail)
  clear c0 c1 c2 c3 A1
  replace A3 := hide (show Below w.heap.size w (w1.drewN nq) from (unhide A3).trans ⟨rfl, rfl, rfl, Nat.le_refl _, fun _ _ => rfl⟩)
  generalize w1.drewN nq = w2 at A3 ⊢
  go_wp2_with fail
  go_ret
  exact ⟨rfl, unhide A3⟩
set_option maxHeartbeats 4000000 in
theorem go_lo (r n o l a e c g : Int) (w : World) (h1 : Hid (Pows r n a e)) (h2 : Hid (RPows r n a e)) (h3 : Hid (Parts r o l c g)) (h4 : Hid (RParts r o l c g)) (d1 : decide (100 < n) = false) : Good r n o l w := by
  unfold Good
  have hal := hide alive_any
  go_enter Try.func4, Try.ntmps4
  go_wp2_with fail
  have A1 : (w.alloc (.cells #[.int .i64 r, .int .i64 n, .int .i64 o, .int .i64 l] 29)).heap[w.heap.size]? = some (.cells #[.int .i64 r, .int .i64 n, .int .i64 o, .int .i64 l] 29 (0, 0)) := heap_alloc_new w _
  have A3 := (Below.refl w.heap.size w).alloc (Nat.le_refl _) (.cells #[.int .i64 r, .int .i64 n, .int .i64 o, .int .i64 l] 29)
  generalize w.alloc (.cells #[.int .i64 r, .int .i64 n, .int .i64 o, .int .i64 l] 29) = W at A1 A3 ⊢
  refine (unhide hal _).mono ?_
  rintro e w1 ⟨rfl, hb1⟩
  replace A1 := (hb1.block _ (Array.getElem?_eq_some_iff.1 A1).1).trans A1
  replace A3 := hide (below_via A3 hb1)
  clear hb1 hal
  have c0 : w1.cell? ⟨w.heap.size, 0, none⟩ = some (.int .i64 r) := by rw [cell_of_row w1 _ 0 _ _ _ A1]; rfl
  have c1 : w1.cell? ⟨w.heap.size, 1, none⟩ = some (.int .i64 n) := by rw [cell_of_row w1 _ 1 _ _ _ A1]; rfl
  have c2 : w1.cell? ⟨w.heap.size, 2, none⟩ = some (.int .i64 o) := by rw [cell_of_row w1 _ 2 _ _ _ A1]; rfl
  have c3 : w1.cell? ⟨w.heap.size, 3, none⟩ = some (.int .i64 l) := by rw [cell_of_row w1 _ 3 _ _ _ A1]; rfl
  replace A1 := hide A1
  go_wp2_with fail
  go_quiet (fail)
  clear c0 c1 c2 c3 A1
  replace A3 := hide (show Below w.heap.size w (w1.drewN nq) from (unhide A3).trans ⟨rfl, rfl, rfl, Nat.le_refl _, fun _ _ => rfl⟩)
  generalize w1.drewN nq = w2 at A3 ⊢
  go_wp2_with fail
  refine (unhide h1 _).mono ?_
  rintro e w3 ⟨rfl, hb3⟩
  replace A3 := hide (below_via (unhide A3) hb3)
  clear hb3
  go_wp2_with fail
  refine (unhide h2 _).mono ?_
  rintro e w4 ⟨rfl, hb4⟩
  replace A3 := hide (below_via (unhide A3) hb4)
  clear hb4
  go_wp2_with fail
  refine (unhide h3 _).mono ?_
  rintro e w5 ⟨rfl, hb5⟩
  replace A3 := hide (below_via (unhide A3) hb5)
  clear hb5
  go_wp2_with fail
  refine (unhide h4 _).mono ?_
  rintro e w6 ⟨rfl, hb6⟩
  replace A3 := hide (below_via (unhide A3) hb6)
  clear hb6
  go_wp2_with fail
  go_ret
  exact ⟨rfl, unhide A3⟩
set_option maxHeartbeats 4000000 in
theorem go_hi (r n o l a e c g : Int) (w : World) (h1 : Hid (Pows r n a e)) (h2 : Hid (RPows r n a e)) (h3 : Hid (Parts r o l c g)) (h4 : Hid (RParts r o l c g)) (d1 : decide (100 < n) = true) (d2 : decide (n ≤ 600) = false) : Good r n o l w := by
  unfold Good
  have hal := hide alive_any
  go_enter Try.func4, Try.ntmps4
  go_wp2_with fail
  have A1 : (w.alloc (.cells #[.int .i64 r, .int .i64 n, .int .i64 o, .int .i64 l] 29)).heap[w.heap.size]? = some (.cells #[.int .i64 r, .int .i64 n, .int .i64 o, .int .i64 l] 29 (0, 0)) := heap_alloc_new w _
  have A3 := (Below.refl w.heap.size w).alloc (Nat.le_refl _) (.cells #[.int .i64 r, .int .i64 n, .int .i64 o, .int .i64 l] 29)
  generalize w.alloc (.cells #[.int .i64 r, .int .i64 n, .int .i64 o, .int .i64 l] 29) = W at A1 A3 ⊢
  refine (unhide hal _).mono ?_
  rintro e w1 ⟨rfl, hb1⟩
  replace A1 := (hb1.block _ (Array.getElem?_eq_some_iff.1 A1).1).trans A1
  replace A3 := hide (below_via A3 hb1)
  clear hb1 hal
  have c0 : w1.cell? ⟨w.heap.size, 0, none⟩ = some (.int .i64 r) := by rw [cell_of_row w1 _ 0 _ _ _ A1]; rfl
  have c1 : w1.cell? ⟨w.heap.size, 1, none⟩ = some (.int .i64 n) := by rw [cell_of_row w1 _ 1 _ _ _ A1]; rfl
  have c2 : w1.cell? ⟨w.heap.size, 2, none⟩ = some (.int .i64 o) := by rw [cell_of_row w1 _ 2 _ _ _ A1]; rfl
  have c3 : w1.cell? ⟨w.heap.size, 3, none⟩ = some (.int .i64 l) := by rw [cell_of_row w1 _ 3 _ _ _ A1]; rfl
  replace A1 := hide A1
  go_wp2_with fail
  go_quiet (fail)
  clear c0 c1 c2 c3 A1
  replace A3 := hide (show Below w.heap.size w (w1.drewN nq) from (unhide A3).trans ⟨rfl, rfl, rfl, Nat.le_refl _, fun _ _ => rfl⟩)
  generalize w1.drewN nq = w2 at A3 ⊢
  go_wp2_with fail
  refine (unhide h1 _).mono ?_
  rintro e w3 ⟨rfl, hb3⟩
  replace A3 := hide (below_via (unhide A3) hb3)
  clear hb3
  go_wp2_with fail
  refine (unhide h2 _).mono ?_
  rintro e w4 ⟨rfl, hb4⟩
  replace A3 := hide (below_via (unhide A3) hb4)
  clear hb4
  go_wp2_with fail
  refine (unhide h3 _).mono ?_
  rintro e w5 ⟨rfl, hb5⟩
  replace A3 := hide (below_via (unhide A3) hb5)
  clear hb5
  go_wp2_with fail
  refine (unhide h4 _).mono ?_
  rintro e w6 ⟨rfl, hb6⟩
  replace A3 := hide (below_via (unhide A3) hb6)
  clear hb6
  go_wp2_with fail
  go_ret
  exact ⟨rfl, unhide A3⟩
theorem walk (r n o l : Int) (w : World) (wr : (Lit.int .i64 r).wf = true) (_wn : (Lit.int .i64 n).wf = true) (wo : (Lit.int .i64 o).wf = true) (wl : (Lit.int .i64 l).wf = true) : Calls Try.prog 4 #[.agg #[.int .i64 r, .int .i64 n, .int .i64 o, .int .i64 l]] w fun e w' => e = .returned (.bool true) ∧ Below w.heap.size w w' := by
  have hP : ∃ a e, Pows r n a e ∧ RPows r n a e := by
    by_cases h : May r
    · by_cases h0 : n < 0
      · exact ⟨_, _, power_lo r n h (decide_eq_true h0), rpower_lo r n h (decide_eq_true h0)⟩
      · by_cases h1 : 600 < n
        · exact ⟨_, _, power_hi r n h (decide_eq_false h0) (decide_eq_true h1), rpower_hi r n h (decide_eq_false h0) (decide_eq_true h1)⟩
        · obtain ⟨k, rfl⟩ : ∃ k : Nat, n = (k : Int) := ⟨n.toNat, by omega⟩
          exact ⟨_, _, power_yes r k (by omega) h, rpower_yes r k (by omega) h⟩
    · exact ⟨_, _, power_no r n h, rpower_no r n h⟩
  have hQ : ∃ c g, Parts r o l c g ∧ RParts r o l c g := by
    by_cases h0 : o < 0
    · exact ⟨_, _, part_lo r o l (decide_eq_true h0), rpart_lo r o l (decide_eq_true h0)⟩
    · by_cases h1 : l ≤ 0
      · exact ⟨_, _, part_hi r o l (decide_eq_false h0) (decide_eq_true h1), rpart_hi r o l (decide_eq_false h0) (decide_eq_true h1)⟩
      · exact ⟨_, _, part_yes r o l (in64_of wr) (in64_of wo) (in64_of wl) (by omega) (by omega), rpart_yes r o l (in64_of wr) (in64_of wo) (in64_of wl) (by omega) (by omega)⟩
  obtain ⟨a, e, p1, p2⟩ := hP
  obtain ⟨c, g, q1, q2⟩ := hQ
  by_cases d1 : 100 < n
  · by_cases d2 : n ≤ 600
    · exact go_mid r n o l w (decide_eq_true d1) (decide_eq_true d2)
    · exact go_hi r n o l a e c g w (hide p1) (hide p2) (hide q1) (hide q2) (decide_eq_true d1) (decide_eq_false d2)
  · exact go_lo r n o l a e c g w (hide p1) (hide p2) (hide q1) (hide q2) (decide_eq_false d1)
theorem cells29 : Try.prog.cellsOf 29 = 4 := by kernel_rfl
theorem one_int {H : Type} {enc : TypeId × Value → H} {P : Program} {w : World} {base : Nat} {spare : Nat → Bool} {held : Bool} {k : IntKind} {a : Int} {T : TypeId} (hu : P.underlying T = some (.int k)) (h : (Lit.int k a).wf = true) : ∃ n, DataW.trod enc P w base spare held n T [.int k a] = some (.lit (.int k a), []) := ⟨1, by simp [DataW.trod, hu, h]⟩
theorem own : ownKnob Try.prog.godebug = none := by kernel_rfl
set_option linter.unusedVariables false in
set_option maxRecDepth 100000 in
theorem lifted (os : Os) (started : os.Started) (H : Type) (enc : TypeId × Value → H) :
    ReturnsInHanded {} Try.checked os 4 .any (Rows.ratePowersSpec.pre6 enc Try.prog Try.f4 Rows.ratePowersRow.domain false) (Rows.ratePowersSpec.post enc Try.prog Try.f4 false true false false) := by
  refine returnsInHanded_of_change (C := Try.checked) own started (by kernel_rfl) Try.func4
    (ChangeSpec.witness6 (enc := enc) (C := Try.checked) false ⟨#[], #[.agg #[.int .i64 0, .int .i64 0, .int .i64 0, .int .i64 0]], []⟩ 8 (by kernel_rfl) (by kernel_rfl) (by kernel_rfl) (by kernel_rfl)) ?_
  intro W base args ds gs before hval0 hW hcnd _
  have hval : ∀ (j : Nat) t v, Try.f4.params[j]? = some t → args[j]? = some v → Value.okWide Try.prog W .any base t v := hval0
  have hW' := hW
  obtain ⟨p, q, hA0, hV, rfl, hfz, hnd⟩ := hW
  have hA : DataW.TrodAll enc Try.prog W 0 (fun _ => true) true Try.f4.params.toList args.toList ds p := hA0
  rw [Try.params4] at hA hval
  obtain ⟨v0, vs0, d0, ds0, p0, q0, hargs, rfl, rfl, h0, r0⟩ := trodAll_cons hA
  obtain ⟨rfl, rfl, rfl⟩ := trodAll_nil r0
  obtain rfl : args = #[v0] := by cases args; simp_all
  obtain ⟨rfl, rfl⟩ := trodVars_none hV
  obtain ⟨c00, c01, c02, c03, y00, y01, y02, y03, m0, rfl, rfl, rfl, hy00, hy01, hy02, hy03⟩ := Joins.open_agg4 Try.underlying29 (by kernel_rfl) cells29 (hval 0 29 v0 rfl rfl) h0
  obtain ⟨a00, e00, rfl, w00⟩ := DataW.trod_int Try.underlying2 hy00
  obtain ⟨a01, e01, rfl, w01⟩ := DataW.trod_int Try.underlying3 hy01
  obtain ⟨a02, e02, rfl, w02⟩ := DataW.trod_int Try.underlying2 hy02
  obtain ⟨a03, e03, rfl, w03⟩ := DataW.trod_int Try.underlying2 hy03
  simp at e00 e01 e02 e03
  subst e00 e01 e02 e03
  clear hA0 hval0
  simp only [List.append_nil] at hW'
  refine (walk a00 a01 a02 a03 W w00 w01 w02 w03).mono fun e W' ⟨he, bel⟩ => ?_
  subst he
  exact ⟨_, rfl, _, _, _, [], _, [], hW', trodAll_mk1 (shut_bool Try.underlying4 _), (trodAll_cons_mk (Joins.shut_agg4 (y0 := (.lit (.int .i64 a00), [])) (y1 := (.lit (.int .i64 a01), [])) (y2 := (.lit (.int .i64 a02), [])) (y3 := (.lit (.int .i64 a03), [])) Try.underlying29 (by kernel_rfl) cells29 (one_int Try.underlying2 w00) (one_int Try.underlying3 w01) (one_int Try.underlying2 w02) (one_int Try.underlying2 w03)) trodAll_mk0), rfl, bel.frame _, fun h => by cases h⟩
theorem over : Rows.ratePowersRow.holds Try.pinned (OpenSpec.ofChange Rows.ratePowersSpec) :=
  OpenClaim.holds_of_wide 4 Try.f4 rfl rfl rfl rfl rfl rfl rfl ⟨rfl, rfl, rfl, rfl, rfl⟩ rfl rfl rfl rfl rfl (by kernel_rfl) Try.func4 (by kernel_rfl)
    (of_decide_eq_true (by kernel_rfl)) (by unfold Func.isWrapper; first | (rw [if_pos (by decide +kernel)]; kernel_rfl) | (rw [if_neg (by decide +kernel)]; exact ⟨rfl, rfl⟩))
    (fun os started H enc _ => lifted os started H enc)
/-- The statement. -/
theorem proved : Rows.RatePowersSaid := over
#print axioms proved
end Go.Proofs.Ytdejpbbiomdkjaa.ratePowers
namespace Go.Proofs.Ytdejpbbiomdkjaa
theorem ratePowers_holds : Rows.RatePowersSaid := ratePowers.proved
end Go.Proofs.Ytdejpbbiomdkjaa
