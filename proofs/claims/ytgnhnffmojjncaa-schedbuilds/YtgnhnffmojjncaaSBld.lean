/- A loan's periods, as sched builds them. -/
import Derived.Test.YtgnhnffmojjncaaSChk
import Derived.Test.YtgnhnffmojjncaaRowN
namespace Go.Proofs.Ytgnhnffmojjncaa.Mn
open Go.RowKit
set_option linter.unusedSimpArgs false
theorem info43 : (Try.prog.info? 43).map (fun i => (i.zero, i.size, i.bytes)) = some (some (.agg #[.int .i64 0, .int .i64 0, .int .i64 0, .int .i64 0]), 4, 32) := by kernel_rfl
theorem info55 : (Try.prog.info? 55).map (fun i => (i.zero, i.size, i.bytes)) = some (some (.agg #[.int .i64 0, .int .i64 0, .int .i64 0, .int .i64 0]), 4, 32) := by kernel_rfl
/-- The rows of the first k periods. -/
def rowsUp (L : Loan) (k : Nat) : List (List Int) := (List.range k).map (rowAt L)
theorem rowsUp_succ (L : Loan) (k : Nat) : rowsUp L k ++ [rowAt L k] = rowsUp L (k + 1) := by
  unfold rowsUp
  rw [List.range_succ, List.map_append]
  rfl
theorem rowsUp_len (L : Loan) (k : Nat) : (rowsUp L k).length = k := by simp [rowsUp]
theorem rowAt_in {L : Loan} (hL : L.Ok) {i : Nat} (hi : i < L.n) (ho : ∀ j, j < i → ¬ over qI L j) : (rowAt L i).length = 4 ∧ ∀ y ∈ rowAt L i, In64 y := by
  obtain ⟨h1, h2, h3, h4, h5, h6, h7⟩ := paid_bd qI_int2 hL hi ho
  obtain ⟨x0, x1, _⟩ := left_in qI_int2 hL i (Nat.le_of_lt hi) ho
  refine ⟨rfl, fun y hy => ?_⟩
  simp only [rowAt, List.mem_cons, List.not_mem_nil, or_false] at hy
  rcases hy with rfl | rfl | rfl | rfl
  · exact ⟨by omega, by omega⟩
  · exact ⟨by omega, by omega⟩
  · unfold prin; exact ⟨by omega, by omega⟩
  · exact ⟨by omega, by omega⟩
/-- Rows are appended to: the parts stay. -/
theorem PRow.gbO {w w' : World} {pv v : Value} {P : Int} {n base m c : Nat} {E : TypeId} {xs : List Value} (h : PRow w pv P n) (hg : w.grownBy w' v.ownBlock) (ho : w.ownsRow base E m v c xs) (hE : E ≠ 2) : PRow w' pv P n := by
  rcases ho.2 with ⟨rfl, _⟩ | ⟨g, cap, cur, rfl, _, hb, _⟩
  · obtain ⟨g, e, a, h1, h2, h3⟩ := h
    exact ⟨g, e, a, (hg.block g (Array.getElem?_eq_some_iff.1 h1).1 (fun q => by cases q)).trans h1, h2, h3⟩
  · exact h.gb hg hb hE
/-- Where the program is ahead of period k: the rows so far, and the loan's block. -/
structure BSt (w wr : World) (b : Nat) (kd P : Int) (rv : Value) (rs : List Int) (n k m : Nat) (o : Value) : Prop where
  grow : GrowN 43 4 w wr o (rowsUp (loanOf kd P rs n) m)
  base : w.heap.size ≤ b
  sep : o.ownBlock ≠ some b
  crs : ∃ i0 q0 l pv, Crs wr b kd P rv n i0 (left qI (loanOf kd P rs n) k) q0 l pv ∧ (k < n → l = (st qI (loanOf kd P rs n) k).2) ∧ (kd = 2 ∧ 0 < k → k < n → PRow wr pv P n)
section
variable {w wr w' : World} {b : Nat} {kd P : Int} {rv : Value} {rs : List Int} {n k m : Nat} {o : Value}
theorem BSt.call (h : BSt w wr b kd P rv rs n k k o) (hT : TermsOk kd P rs n) (hR : Row w rv rs) (hi : k < n) (ho : ∀ j, j < k → ¬ over qI (loanOf kd P rs n) j) : StepA wr b kd P rv rs n k := by
  obtain ⟨i0, q0, l, pv, h1, h2, h3⟩ := h.crs
  have hne : rv.ownBlock ≠ some b := by
    rcases hR with ⟨a, c, _, e⟩ | ⟨rb, off, c, rfl, e0, _, h4, _⟩
    · have := hT.r0
      rw [e] at this
      exact absurd this (by decide)
    · intro q
      have := lt_of_cell (h4 0 e0)
      have e : rb = b := Option.some.inj q
      have := h.base
      omega
  exact step_any hT h1 (h2 hi) (hR.below h.grow.below (Nat.le_refl _)) (fun c => h3 c hi) hne hi ho
theorem BSt.past (h : BSt w wr b kd P rv rs n k k o) {i q l : Int} (hA : After wr w' b kd P rv rs n i (left qI (loanOf kd P rs n) (k + 1)) q l (kd = 2 ∧ k + 1 < n)) (hl : k + 1 < n → l = (st qI (loanOf kd P rs n) (k + 1)).2) : BSt w w' b kd P rv rs n (k + 1) k o := by
  obtain ⟨pv, h1, h2, _, h4⟩ := hA
  refine ⟨⟨h.grow.below.grown h4 h.grow.below.size (fun j hj => by have := h.base; cases hj; exact this), h.grow.owns.kept h4 (Or.inr h.sep), h.grow.small⟩, h.base, h.sep, i, q, l, pv, h1, hl, fun c d => h2 ⟨c.1, d⟩⟩
theorem BSt.alloc (h : BSt w wr b kd P rv rs n k m o) (x : Obj) : BSt w (wr.alloc x) b kd P rv rs n k m o := by
  obtain ⟨i0, q0, l, pv, h1, h2, h3⟩ := h.crs
  exact ⟨h.grow.alloc x, h.base, h.sep, i0, q0, l, pv, h1.alloc x, h2, fun c d => (h3 c d).keep ((Below.refl _ _).alloc (Nat.le_refl _) _)⟩
theorem BSt.push (h : BSt w wr b kd P rv rs n (k + 1) k o) {o' : Value} (hG : GrowN 43 4 w w' o' (rowsUp (loanOf kd P rs n) k ++ [rowAt (loanOf kd P rs n) k])) (hg : wr.grownBy w' o.ownBlock) (hs : ∀ j, o'.ownBlock = some j → o.ownBlock = some j ∨ wr.heap.size ≤ j) : BSt w w' b kd P rv rs n (k + 1) (k + 1) o' := by
  obtain ⟨i0, q0, l, pv, h1, h2, h3⟩ := h.crs
  rw [rowsUp_succ] at hG
  refine ⟨hG, h.base, fun c => ?_, i0, q0, l, pv, ?_, h2, fun c d => (h3 c d).gbO hg h.grow.owns (by decide)⟩
  · rcases hs b c with e | e
    · exact h.sep e
    · have := h1.lt; omega
  · exact (hg.block b h1.lt (fun c => h.sep c.symm)).trans h1
end
theorem over_end {e : Int} {l : List (List Int)} {L : Loan} {n k : Nat} (h : (e = 0 ∧ l = rowsUp L n ∧ ∀ j, j < n → ¬ over qI L j) ∨ (e = 3 ∧ l = [] ∧ ∃ j, j < n ∧ over qI L j)) (hk : k < n) (ho : over qI L k) : e = 3 ∧ l = [] := by
  rcases h with ⟨_, _, h⟩ | ⟨h1, h2, _⟩
  · exact absurd ho (h k hk)
  · exact ⟨h1, h2⟩
theorem none_end {e : Int} {l : List (List Int)} {L : Loan} {n : Nat} (h : (e = 0 ∧ l = rowsUp L n ∧ ∀ j, j < n → ¬ over qI L j) ∨ (e = 3 ∧ l = [] ∧ ∃ j, j < n ∧ over qI L j)) (ho : ∀ j, j < n → ¬ over qI L j) : e = 0 ∧ l = rowsUp L n := by
  rcases h with ⟨h1, h2, _⟩ | ⟨_, _, j, hj, h⟩
  · exact ⟨h1, h2⟩
  · exact absurd h (ho j hj)
/-- What a Build answers: rows and an error. -/
def BuildA (f : Nat) (w : World) (kd P : Int) (rv : Value) (n : Int) (l : List (List Int)) (e : Int) : Prop :=
  Calls Try.prog f #[.agg #[.int .i64 kd, .int .i64 P, rv, .int .i64 n]] w fun z w' => ∃ u, z = .returned (.tuple #[u, .int .i64 e]) ∧ RowN 4 w' u l ∧ Below w.heap.size w w'
theorem build_no {kd P n : Int} {rv : Value} {w : World} (hC : ∀ W : World, Below w.heap.size w W → ChkA 15 W kd P rv n 2) : BuildA 11 w kd P rv n [] 2 := by
  have H := hide (hC _ (below1 w (.cells #[.int .i64 kd, .int .i64 P, rv, .int .i64 n] 27)))
  have HB := hide (below1 w (.cells #[.int .i64 kd, .int .i64 P, rv, .int .i64 n] 27))
  clear hC
  unfold ChkA at H
  unfold BuildA
  go_enter Try.func11, Try.ntmps11
  go_wp2_with fail
  refine (unhide H).mono ?_
  rintro e w1 ⟨rfl, hb⟩
  replace HB := hide (below_via (unhide HB) hb)
  clear hb
  go_wp2_with fail
  go_ret2
  exact ⟨_, rfl, rowN_nil _ _, unhide HB⟩
set_option maxRecDepth 20000 in
set_option maxHeartbeats 4000000 in
theorem build_yes {kd P : Int} {rs : List Int} {n : Nat} {rv : Value} {w : World} {l : List (List Int)} {e : Int} (hT : TermsOk kd P rs n) (hR : Row w rv rs)
    (he : (e = 0 ∧ l = rowsUp (loanOf kd P rs n) n ∧ ∀ j, j < n → ¬ over qI (loanOf kd P rs n) j) ∨ (e = 3 ∧ l = [] ∧ ∃ j, j < n ∧ over qI (loanOf kd P rs n) j)) : BuildA 11 w kd P rv n l e := by
  obtain ⟨ra, rc, hv⟩ := row_slice hR
  subst hv
  have HChk := hide (chk_yes (Or.inl rfl) hT (hR.alloc (.cells #[.int .i64 kd, .int .i64 P, .slice ra rs.length rc, .int .i64 n] 27)))
  have HB := hide (below1 w (.cells #[.int .i64 kd, .int .i64 P, .slice ra rs.length rc, .int .i64 n] 27))
  have HT := hide (Tm.new w 27 kd P (.slice ra rs.length rc) n)
  have HE := hide he
  have HR := hide hR
  have HTm := hide hT
  have n0 := hT.n0
  have n1 := hT.n1
  obtain ⟨i0, hi, hz0, hz1, hz2⟩ := info_parts info43
  have hz0' := hide hz0
  have hz1' := hide hz1
  have hz2' := hide hz2
  have hi' := hide hi
  clear hz0 hz1 hz2 hi hT hR he
  unfold ChkA at HChk
  unfold BuildA
  go_enter Try.func11, Try.ntmps11
  go_wp2_with fail
  refine (unhide HChk).mono ?_
  rintro e1 w1 ⟨rfl, hb⟩
  replace HB := hide (below_via (unhide HB) hb)
  replace HT := hide ((unhide HT).keep hb)
  clear hb HChk
  have c0 := (unhide HT).c0
  have c1 := (unhide HT).c1
  have c2 := (unhide HT).c2
  have c3 := (unhide HT).c3
  have hlt := (unhide HT).lt
  go_wp2_with fail
  have HC := hide (show Crs (w1.alloc (.cells #[.int .i64 kd, .int .i64 P, .slice ra rs.length rc, .int .i64 n, .int .i64 0, .int .i64 P, .int .i64 0, .int .i64 0, .slice none 0 0] 50)) w1.heap.size kd P (.slice ra rs.length rc) n 0 P 0 0 (.slice none 0 0) from heap_alloc_new w1 _)
  replace HB := hide (below_via (unhide HB) (below1 w1 (.cells #[.int .i64 kd, .int .i64 P, .slice ra rs.length rc, .int .i64 n, .int .i64 0, .int .i64 P, .int .i64 0, .int .i64 0, .slice none 0 0] 50)))
  replace HT := hide ((unhide HT).alloc (.cells #[.int .i64 kd, .int .i64 P, .slice ra rs.length rc, .int .i64 n, .int .i64 0, .int .i64 P, .int .i64 0, .int .i64 0, .slice none 0 0] 50))
  have hbw : w.heap.size < w1.heap.size := hlt
  have hs2 : (w1.alloc (.cells #[.int .i64 kd, .int .i64 P, .slice ra rs.length rc, .int .i64 n, .int .i64 0, .int .i64 P, .int .i64 0, .int .i64 0, .slice none 0 0] 50)).heap.size = w1.heap.size + 1 := by simp
  clear c0 c1 c2 c3 hlt
  generalize w1.alloc (.cells #[.int .i64 kd, .int .i64 P, .slice ra rs.length rc, .int .i64 n, .int .i64 0, .int .i64 P, .int .i64 0, .int .i64 0, .slice none 0 0] 50) = W at *
  obtain ⟨w2, hrun, r1, r2⟩ := run_make_own (P := Try.prog) W w.heap.size 28 43 i0 (.agg #[.int .i64 0, .int .i64 0, .int .i64 0, .int .i64 0]) 4 Try.underlying28 (unhide hi') (unhide hz0') (unhide hz1') .i64 .i64 n (by rw [unhide hz2']; omega) (by unfold maxLen; omega) (by omega)
  rw [hrun]
  generalize hb9 : w1.heap.size = b at *
  have HS : Hid (BSt w w2 b kd P (.slice ra rs.length rc) rs n 0 0 (.slice (some ⟨W.heap.size, 0, none⟩) 0 n)) := hide (by
    refine ⟨⟨(unhide HB).grown r2 (unhide HB).size (fun k hk => by cases hk), r1, fun f hf => by cases hf⟩, by omega, fun c => ?_, 0, 0, 0, .slice none 0 0, ?_, fun _ => rfl, fun c => absurd c.2 (Nat.lt_irrefl 0)⟩
    · have : W.heap.size = b := Option.some.inj c
      omega
    · exact (r2.block b (unhide HC).lt (fun c => by cases c)).trans (unhide HC))
  have HT2 := hide (show Tm w2 w.heap.size 27 kd P (.slice ra rs.length rc) n from (r2.block w.heap.size (unhide HT).lt (fun c => by cases c)).trans (unhide HT))
  clear hrun r1 r2 HC HB HT hs2 hb9
  have c3 := (unhide HT2).c3
  generalize W.heap.size = g at *
  go_wp2_with fail
  go_loopw [6, 23] (fun o i wr => ∃ k : Nat, k ≤ n ∧ i = .int .i64 k ∧ Hid (BSt w wr b kd P (.slice ra rs.length rc) rs n k k o) ∧ Hid (∀ j, j < k → ¬ over qI (loanOf kd P rs n) j)) (fun _ i _ => n - (intOf i).toNat)
  case atStart => exact ⟨0, Nat.zero_le _, rfl, HS, hide (fun j hj => absurd hj (Nat.not_lt_zero j))⟩
  case round =>
    clear HS HT2 c3
    obtain ⟨k, hk, rfl, HS, HO⟩ := hrel
    by_cases hlt : k < n
    · have HCall := hide ((unhide HS).call (unhide HTm) (unhide HR) hlt (unhide HO))
      unfold StepA at HCall
      have HIn := hide (rowAt_in (unhide HTm).loan (show k < (loanOf kd P rs n).n from hlt) (unhide HO))
      obtain ⟨hb1, hb2, hb3, hb4, hb5, hb6, hb7⟩ := paid_bd qI_int2 (unhide HTm).loan (show k < (loanOf kd P rs n).n from hlt) (unhide HO)
      have HOv : Hid (over qI (loanOf kd P rs n) k ↔ 10000000000000 < left qI (loanOf kd P rs n) (k + 1) ∨ 10000000000000 < paid qI (loanOf kd P rs n) k) := hide Iff.rfl
      have HRow : Hid (rowAt (loanOf kd P rs n) k = [int qI (loanOf kd P rs n) k, paid qI (loanOf kd P rs n) k, prin qI (loanOf kd P rs n) k, left qI (loanOf kd P rs n) (k + 1)]) := hide rfl
      have HLt := hide (show left qI (loanOf kd P rs n) (k + 1) = left qI (loanOf kd P rs n) (k + 1) from rfl)
      obtain ⟨A, hA⟩ : ∃ A, int qI (loanOf kd P rs n) k = A := ⟨_, rfl⟩
      obtain ⟨B, hB⟩ : ∃ B, paid qI (loanOf kd P rs n) k = B := ⟨_, rfl⟩
      obtain ⟨C, hC⟩ : ∃ C, prin qI (loanOf kd P rs n) k = C := ⟨_, rfl⟩
      obtain ⟨D, hD⟩ : ∃ D, left qI (loanOf kd P rs n) (k + 1) = D := ⟨_, rfl⟩
      rw [hA, hB, hC, hD] at HCall HRow
      rw [hB, hD] at HOv
      have HD := hide hD
      clear hb1 hb2 hb3 hb4 hb5 hb6 hb7 hA hB hC hD HLt
      go_wp2_with fail
      refine (unhide HCall).mono ?_
      rintro e1 w3 ⟨rfl, l3, q3, hl3, hA3⟩
      rw [← unhide HD] at hA3
      replace HS := hide ((unhide HS).past hA3 hl3)
      clear hA3 hl3 HCall
      replace HS := hide ((unhide HS).alloc (.cells #[.int .i64 A, .int .i64 B, .int .i64 C, .int .i64 D] 43))
      by_cases t1 : 10000000000000 < B
      · have HE2 := hide (over_end (unhide HE) hlt ((unhide HOv).2 (Or.inr t1)))
        go_wp2_with fail
        go_ret2
        obtain ⟨rfl, rfl⟩ := unhide HE2
        exact ⟨_, rfl, rowN_nil _ _, (unhide HS).grow.below⟩
      by_cases t2 : 10000000000000 < D
      · have HE2 := hide (over_end (unhide HE) hlt ((unhide HOv).2 (Or.inl t2)))
        go_wp2_with fail
        go_ret2
        obtain ⟨rfl, rfl⟩ := unhide HE2
        exact ⟨_, rfl, rowN_nil _ _, (unhide HS).grow.below⟩
      have HO2 : Hid (∀ j, j < k + 1 → ¬ over qI (loanOf kd P rs n) j) := hide (fun j hj => by
        by_cases c : j = k
        · subst c
          intro h
          rcases (unhide HOv).1 h with h | h
          · exact t2 h
          · exact t1 h
        · exact unhide HO j (by omega))
      have HLen : Hid ((rowsUp (loanOf kd P rs n) k).length ≤ 1000000) := hide (by rw [rowsUp_len]; omega)
      go_wp2_with (at_builtin; refine pushN_law 43 28 4 32 (.agg #[.int .i64 0, .int .i64 0, .int .i64 0, .int .i64 0]) (by decide) (by decide) rfl Try.underlying28 info43 rfl _ _ rfl w _ _ (rowsUp (loanOf kd P rs n) k) (rowAt (loanOf kd P rs n) k) #[.int .i64 A, .int .i64 B, .int .i64 C, .int .i64 D] (by rw [unhide HRow]; rfl) (unhide HS).grow rfl (by simp [Act.eval, Act.put]) (unhide HLen) (unhide HIn) ?_)
      intro v' w4 hG4 hg4 hs4
      replace HS := hide ((unhide HS).push hG4 hg4 (fun j hj => by have := hs4 j hj; simpa using this))
      clear hG4 hg4 hs4
      go_wp2_with fail
      go_roundw
      case rel => exact ⟨k + 1, by omega, by go_num, HS, HO2⟩
      case measure => simp [intOf]; omega
    · have e9 : k = n := by omega
      subst e9
      have HE2 := hide (none_end (unhide HE) (unhide HO))
      go_wp2_with fail
      go_ret2
      obtain ⟨h1, h2⟩ := unhide HE2
      subst h1 h2
      exact ⟨_, rfl, (unhide HS).grow.row, (unhide HS).grow.below⟩
end Go.Proofs.Ytgnhnffmojjncaa.Mn
