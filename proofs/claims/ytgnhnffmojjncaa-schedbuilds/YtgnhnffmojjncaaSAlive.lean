/- The document's examples of layer 8 come out as the chapter says. -/
import Derived.Test.YtgnhnffmojjncaaSBld
namespace Go.Proofs.Ytgnhnffmojjncaa.Mn
open Go.RowKit
set_option linter.unusedSimpArgs false
theorem eql43 (p q r s p' q' r' s' : Int) (w : World) : (binOp .eql 43 (.agg #[.int .i64 p, .int .i64 q, .int .i64 r, .int .i64 s]) (.agg #[.int .i64 p', .int .i64 q', .int .i64 r', .int .i64 s'])).run Try.prog w = .ok (.bool (p == p' && q == q' && r == r' && s == s')) w := by
  have ht : Try.prog.underlying 43 = some (.struct (Try.prog.fieldsOf 43)) := by kernel_rfl
  have hp : Try.prog.stoodInHeld 43 = false := by kernel_rfl
  have hf := TypeDesc.struct.inj (Option.some.inj (ht.symm.trans Try.underlying43))
  have key : (Op.equalIn (9999 + 1) 43 (.agg #[.int .i64 p, .int .i64 q, .int .i64 r, .int .i64 s]) (.agg #[.int .i64 p', .int .i64 q', .int .i64 r', .int .i64 s'])).run Try.prog w = .ok (p == p' && q == q' && r == r' && s == s') w := by
    rw [run_equalIn_agg w 9999 43 _ _ ht hp, hf]
    simp [Op.eqFields, Go.part, isAgg, go_sem, Try.underlying2]
    by_cases h1 : p = p'
    · by_cases h2 : q = q'
      · by_cases h3 : r = r'
        · by_cases h4 : s = s'
          · simp [h1, h2, h3, h4, Go.part, isAgg, go_sem, Try.underlying2]
          · simp [h1, h2, h3, h4, Go.part, isAgg, go_sem, Try.underlying2]
        · simp [h1, h2, h3, Go.part, isAgg, go_sem, Try.underlying2]
      · simp [h1, h2, Go.part, isAgg, go_sem, Try.underlying2]
    · simp [h1, Go.part, isAgg, go_sem, Try.underlying2]
  simp only [binOp]
  simp [Op.equal, Op.maxDepth, key]
theorem al_rows : rowsUp (loanOf 2 1000 [10000000000] 4) 4 = [[10, 260, 250, 750], [8, 258, 250, 500], [5, 255, 250, 250], [2, 252, 250, 0]] := by decide +kernel
theorem al_over : ∀ j, j < 4 → ¬ over qI (loanOf 2 1000 [10000000000] 4) j := by
  intro j hj
  have h : rowsUp (loanOf 2 1000 [10000000000] 4) 4 = [rowAt (loanOf 2 1000 [10000000000] 4) 0, rowAt (loanOf 2 1000 [10000000000] 4) 1, rowAt (loanOf 2 1000 [10000000000] 4) 2, rowAt (loanOf 2 1000 [10000000000] 4) 3] := rfl
  rw [al_rows] at h
  unfold rowAt at h
  simp only [List.cons.injEq, and_true] at h
  unfold over
  match j, hj with
  | 0, _ => omega
  | 1, _ => omega
  | 2, _ => omega
  | 3, _ => omega
theorem al_lev : lvlR 10000000000 4 1000 = 257 := by
  have h := lvlR_is (x := 1000) (r := 10000000000) (k := 4) (by decide) (by decide) (by decide) (by decide) (by decide)
  refine h.only (halves_lev (qI_int2.bears _ (by decide) (by decide)) (by decide) ?_ (Or.inr ?_))
  · decide +kernel
  · decide +kernel
theorem al_terms : TermsOk 2 1000 [10000000000] 4 := ⟨by decide, by decide, by decide, by decide, by decide, by decide, by decide, by decide, fun r hr => by simp at hr; subst hr; decide⟩
def Alive : Prop := ∀ w : World, Calls Try.prog 9 #[] w fun e w' => e = .returned (.bool true) ∧ Below w.heap.size w w'
theorem al_row (w : World) : Row (w.alloc (.cells #[.int .i64 10000000000] 2)) (.slice (some ⟨w.heap.size, 0, none⟩) 1 1) [10000000000] := by
  refine Or.inr ⟨w.heap.size, 0, 1, rfl, by decide, by unfold maxLen; decide, fun j hj => ?_, fun z hz => by simp at hz; subst hz; exact ⟨by omega, by omega⟩⟩
  obtain rfl : j = 0 := by simp at hj; exact hj
  exact cell_new w _ _
/-- The cells of a row of rows. -/
theorem RowN.cells {m : Nat} {w : World} {b off n cap : Nat} {l : List (List Int)} (h : RowN m w (.slice (some ⟨b, off, none⟩) n cap) l) {j t : Nat} (hj : j < l.length) (ht : t < m) : w.cell? ⟨b, off + j * m + t, none⟩ = some (.int .i64 (getN l j t)) := by
  rcases h with ⟨a, c, h1, h2, _⟩ | ⟨b', off', c, h1, _, _, _, h2, _⟩
  · rw [h2] at hj; exact absurd hj (Nat.not_lt_zero j)
  · cases h1
    exact h2 j hj t ht
theorem RowN.open {m : Nat} {w : World} {u : Value} {l : List (List Int)} (h : RowN m w u l) (h0 : 0 < l.length) : ∃ b off cap, u = .slice (some ⟨b, off, none⟩) l.length cap ∧ l.length ≤ cap ∧ cap ≤ maxLen := by
  rcases h with ⟨a, c, h1, h2, _⟩ | ⟨b', off', c, h1, _, h2, h3, _⟩
  · rw [h2] at h0; exact absurd h0 (Nat.not_lt_zero _)
  · exact ⟨b', off', c, h1, h2, h3⟩
set_option maxHeartbeats 1000000 in
theorem alive_any : Alive := by
  intro w
  have HBd := hide (build_yes (w := w.alloc (.cells #[.int .i64 10000000000] 2)) al_terms (al_row w) (Or.inl ⟨rfl, al_rows.symm, al_over⟩))
  have HL := hide (level_ok 1000 10000000000 4 (by decide) (by decide) (by decide) (by decide))
  rw [al_lev] at HL
  have HB := hide (below1 w (.cells #[.int .i64 10000000000] 2))
  unfold BuildA at HBd
  unfold LevelA at HL
  go_enter Try.func9, Try.ntmps9
  go_wp2_with fail
  refine (unhide HBd).mono ?_
  rintro e w1 ⟨u, rfl, hu, hb⟩
  obtain ⟨b, off, cap, rfl, hc1, hc2⟩ := hu.open (by decide)
  replace HB := hide (below_via (unhide HB) hb)
  have HU := hide hu
  clear hb hu HBd
  go_wp2_with fail
  refine (unhide HL w1).mono ?_
  rintro e w2 ⟨rfl, hb⟩
  replace HB := hide (below_via (unhide HB) hb)
  replace HU := hide ((unhide HU).keep hb)
  clear hb HL
  have d0 := (unhide HU).cells (j := 1) (t := 0) (by decide) (by decide)
  have d1 := (unhide HU).cells (j := 1) (t := 1) (by decide) (by decide)
  have d2 := (unhide HU).cells (j := 1) (t := 2) (by decide) (by decide)
  have d3 := (unhide HU).cells (j := 1) (t := 3) (by decide) (by decide)
  have d4 := (unhide HU).cells (j := 3) (t := 1) (by decide) (by decide)
  simp only [Nat.one_mul, Nat.add_zero, show 3 * 4 = 12 from rfl] at d0 d1 d2 d3 d4
  change _ = some (Value.int .i64 8) at d0
  change _ = some (Value.int .i64 258) at d1
  change _ = some (Value.int .i64 250) at d2
  change _ = some (Value.int .i64 500) at d3
  change _ = some (Value.int .i64 252) at d4
  have hq : ∀ w, (binOp .eql 43 (.agg #[.int .i64 8, .int .i64 258, .int .i64 250, .int .i64 500]) (.agg #[.int .i64 8, .int .i64 258, .int .i64 250, .int .i64 500])).run Try.prog w = .ok (.bool true) w := fun w => eql43 8 258 250 500 8 258 250 500 w
  go_wp2_with fail
  go_ret
  exact ⟨rfl, unhide HB⟩
end Go.Proofs.Ytgnhnffmojjncaa.Mn
