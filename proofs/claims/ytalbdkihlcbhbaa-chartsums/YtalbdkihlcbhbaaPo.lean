/- What events are booked as. -/
import Derived.Test.YtalbdkihlcbhbaaLd
import Derived.Test.YtalbdkihlcbhbaaFn
namespace Go.Proofs.Ytalbdkihlcbhbaa
open Go.RowKit
set_option linter.unusedVariables false
set_option linter.unusedSimpArgs false
/-- The first account of a kind, the second one, the least amount. -/
def pA (n : Int) : Int := if n = 1 then 2 else if n = 2 then 2 else if n = 3 then 1 else if n = 4 then 2 else if n = 5 then 6 else if n = 6 then 3 else if n = 7 then 1 else 0
def pB (n : Int) : Int := if n = 1 then 1 else if n = 2 then 4 else if n = 3 then 2 else if n = 4 then 5 else if n = 5 then 3 else if n = 6 then 2 else if n = 7 then 7 else 0
def pM (n : Int) : Int := if n = 1 then 0 else if n = 2 then -1125899906842624 else if n = 3 then 0 else if n = 4 then -1125899906842624 else if n = 5 then -1125899906842624 else if n = 6 then 0 else if n = 7 then 0 else 0
abbrev PST : Array Value := #[.int .i64 1, .int .i64 2, .int .i64 1, .int .i64 0, .int .i64 2, .int .i64 2, .int .i64 4, .int .i64 (-1125899906842624), .int .i64 3, .int .i64 1, .int .i64 2, .int .i64 0, .int .i64 4, .int .i64 2, .int .i64 5, .int .i64 (-1125899906842624), .int .i64 5, .int .i64 6, .int .i64 3, .int .i64 (-1125899906842624), .int .i64 6, .int .i64 3, .int .i64 2, .int .i64 0, .int .i64 7, .int .i64 1, .int .i64 7, .int .i64 0]
theorem pst_cell {w : World} {b k : Nat} (h : Blk w b PST 50) (hk : k < 7) : w.cell? ⟨b, k * 4, none⟩ = some (.int .i64 ((k : Int) + 1)) ∧ w.cell? ⟨b, k * 4 + 1, none⟩ = some (.int .i64 (pA ((k : Int) + 1))) ∧ w.cell? ⟨b, k * 4 + 2, none⟩ = some (.int .i64 (pB ((k : Int) + 1))) ∧ w.cell? ⟨b, k * 4 + 3, none⟩ = some (.int .i64 (pM ((k : Int) + 1))) := by
  match k, hk with
  | 0, _ => exact ⟨h.at 0 _ rfl, h.at 1 _ rfl, h.at 2 _ rfl, h.at 3 _ rfl⟩
  | 1, _ => exact ⟨h.at 4 _ rfl, h.at 5 _ rfl, h.at 6 _ rfl, h.at 7 _ rfl⟩
  | 2, _ => exact ⟨h.at 8 _ rfl, h.at 9 _ rfl, h.at 10 _ rfl, h.at 11 _ rfl⟩
  | 3, _ => exact ⟨h.at 12 _ rfl, h.at 13 _ rfl, h.at 14 _ rfl, h.at 15 _ rfl⟩
  | 4, _ => exact ⟨h.at 16 _ rfl, h.at 17 _ rfl, h.at 18 _ rfl, h.at 19 _ rfl⟩
  | 5, _ => exact ⟨h.at 20 _ rfl, h.at 21 _ rfl, h.at 22 _ rfl, h.at 23 _ rfl⟩
  | 6, _ => exact ⟨h.at 24 _ rfl, h.at 25 _ rfl, h.at 26 _ rfl, h.at 27 _ rfl⟩
theorem pst_any (w : World) : Calls Try.prog 23 #[] w fun e w' => e = .returned (.slice (some ⟨w.heap.size, 0, none⟩) 7 7) ∧ w' = w.alloc (.cells PST 50) := by
  go_enter Try.func23, Try.ntmps23
  go_wp2_with fail
  go_ret
  exact ⟨rfl, rfl⟩
theorem kind_any (a p q r : Int) (w : World) : Calls Try.prog 24 #[.agg #[.int .i64 a, .int .i64 p, .int .i64 q, .int .i64 r]] w fun e w' => e = .returned (.int .i64 a) ∧ Below w.heap.size w w' := by
  go_enter Try.func24, Try.ntmps24
  go_wp2_with fail
  go_ret
  exact ⟨rfl, below1 _ _⟩
theorem size50 : (Try.prog.info? 50).map (·.size) = some 4 := by kernel_rfl
theorem row50 : isRowB Try.prog 50 = true := by kernel_rfl
abbrev pstOf (n : Int) : Value := .agg #[.int .i64 (accA n), .int .i64 (pA n), .int .i64 (pB n), .int .i64 (pM n)]
theorem pst_yes {k : Nat} (h : k < 7) : pstOf ((k : Int) + 1) = .agg #[.int .i64 ((k : Int) + 1), .int .i64 (pA ((k : Int) + 1)), .int .i64 (pB ((k : Int) + 1)), .int .i64 (pM ((k : Int) + 1))] := by
  unfold pstOf accA; rw [if_pos (accB_yes h)]
theorem pst_none {n : Int} (h : accB n = false) : pA n = 0 ∧ pB n = 0 ∧ pM n = 0 := by
  unfold accB at h
  simp at h
  have g : ∀ j : Int, 1 ≤ j → j ≤ 7 → ¬ n = j := fun j h1 h2 e => by subst e; have := h h1; omega
  unfold pA pB pM
  simp only [g 1 (by decide) (by decide), g 2 (by decide) (by decide), g 3 (by decide) (by decide), g 4 (by decide) (by decide), g 5 (by decide) (by decide), g 6 (by decide) (by decide), g 7 (by decide) (by decide), if_false]
  trivial
theorem pst_no {n : Int} (h : accB n = false) : pstOf n = .agg #[.int .i64 0, .int .i64 0, .int .i64 0, .int .i64 0] := by
  obtain ⟨h1, h2, h3⟩ := pst_none h
  unfold pstOf accA; rw [h1, h2, h3, h]; rfl
set_option maxHeartbeats 1000000 in
theorem lookp_any (n : Int) (b : Nat) (w : World) (hL : Blk w b PST 50) : Calls Try.prog 22 #[.slice (some ⟨b, 0, none⟩) 7 7, .int .i64 n, .func (.func 24) #[] #[]] w fun e w' => e = .returned (.tuple #[pstOf n, .bool (accB n)]) ∧ Below w.heap.size w w' := by
  have HL := hide (hL.alloc (.cells #[.int .i64 0, .int .i64 0, .int .i64 0, .int .i64 0] 50))
  have HR := hide (Blk.new w #[.int .i64 0, .int .i64 0, .int .i64 0, .int .i64 0] 50)
  have HB := hide (below1 w (.cells #[.int .i64 0, .int .i64 0, .int .i64 0, .int .i64 0] 50))
  clear hL
  go_enter Try.func22, Try.ntmps22
  go_wp2_with fail
  generalize w.alloc (.cells #[.int .i64 0, .int .i64 0, .int .i64 0, .int .i64 0] 50) = w1 at *
  go_loopw [13] (fun i wr => ∃ k : Nat, k ≤ 7 ∧ i = .int .i64 k ∧ Hid (Blk wr b PST 50) ∧ Hid (Blk wr w.heap.size #[.int .i64 0, .int .i64 0, .int .i64 0, .int .i64 0] 50) ∧ Hid (Below w.heap.size w wr) ∧ Hid (∀ j : Nat, j < k → ¬ ((j : Int) + 1 = n))) (fun i _ => 7 - (intOf i).toNat)
  case atStart => exact ⟨0, by omega, rfl, HL, HR, HB, hide (fun j hj => absurd hj (Nat.not_lt_zero j))⟩
  case round =>
    clear HL HR HB
    obtain ⟨k, hk, rfl, HL, HR, HB, HN⟩ := hrel
    by_cases hlt : k < 7
    · obtain ⟨m0, m1, m2, m3⟩ := pst_cell (unhide HL) hlt
      have Hk := hide hlt
      have k1 : (k : Int) < 7 := by omega
      have HY := hide (fun W => kind_any ((k : Int) + 1) (pA ((k : Int) + 1)) (pB ((k : Int) + 1)) (pM ((k : Int) + 1)) W)
      generalize hs1 : pA ((k : Int) + 1) = s1 at *
      have Hs1 := hide hs1
      clear hs1
      generalize hs2 : pB ((k : Int) + 1) = s2 at *
      have Hs2 := hide hs2
      clear hs2
      generalize hs3 : pM ((k : Int) + 1) = s3 at *
      have Hs3 := hide hs3
      clear hs3
      replace HL := hide (((unhide HL).alloc (.cells #[.int .i64 ((k : Int) + 1), .int .i64 s1, .int .i64 s2, .int .i64 s3] 50)))
      replace HR := hide (((unhide HR).alloc (.cells #[.int .i64 ((k : Int) + 1), .int .i64 s1, .int .i64 s2, .int .i64 s3] 50)))
      replace HB := hide (below_via (unhide HB) (below1 wr (.cells #[.int .i64 ((k : Int) + 1), .int .i64 s1, .int .i64 s2, .int .i64 s3] 50)))
      have HX := hide (Blk.new wr #[.int .i64 ((k : Int) + 1), .int .i64 s1, .int .i64 s2, .int .i64 s3] 50)
      go_wp2_with fail
      generalize wr.alloc (.cells #[.int .i64 ((k : Int) + 1), .int .i64 s1, .int .i64 s2, .int .i64 s3] 50) = w2 at *
      generalize wr.heap.size = xb at *
      refine (unhide HY _).mono ?_
      rintro e w3 ⟨rfl, hb⟩
      replace HL := hide ((unhide HL).keep hb)
      replace HR := hide ((unhide HR).keep hb)
      replace HX := hide ((unhide HX).keep hb)
      replace HB := hide (below_via (unhide HB) hb)
      clear hb HY
      by_cases he : (k : Int) + 1 = n
      · subst he
        go_wp2_with (first | refine load_blk rfl 50 _ rfl (show Blk _ _ _ _ from unhide HX) rfl row50 size50 rfl ?_ | refine store_blk rfl 50 _ _ rfl (show Blk _ _ _ _ from unhide HR) rfl rfl size50 rfl rfl rfl ?_)
        intro w4 k4 kp
        have k6 := kp.bel (Nat.le_refl _) (unhide HB)
        clear kp HX HR HL HB
        go_wp2_with fail
        exact bodyPost_ret (v := .tuple #[.agg #[.int .i64 ((k : Int) + 1), .int .i64 s1, .int .i64 s2, .int .i64 s3], .bool true]) (res_ct (cs0 := #[.int .i64 ((k : Int) + 1), .int .i64 s1, .int .i64 s2, .int .i64 s3]) rfl k4 row50 size50 rfl rfl rfl) rfl ⟨by rw [pst_yes (unhide Hk), accB_yes (unhide Hk), unhide Hs1, unhide Hs2, unhide Hs3], k6⟩
      · go_wp2_with (first | refine load_blk rfl 50 _ rfl (show Blk _ _ _ _ from unhide HX) rfl row50 size50 rfl ?_)
        go_roundw
        case rel => exact ⟨k + 1, by omega, by go_num, HL, HR, HB, hide (fun j hj => by
            rcases Nat.lt_succ_iff_lt_or_eq.1 hj with h | rfl
            · exact unhide HN j h
            · exact he)⟩
        case measure => simp [intOf]; omega
    · obtain rfl : k = 7 := by omega
      have HBn := hide (unhide HN)
      replace HR := hide ((unhide HR).alloc (.cells #[.int .i64 0, .int .i64 0, .int .i64 0, .int .i64 0] 50))
      have HX := hide (Blk.new wr #[.int .i64 0, .int .i64 0, .int .i64 0, .int .i64 0] 50)
      replace HB := hide (below_via (unhide HB) (below1 wr (.cells #[.int .i64 0, .int .i64 0, .int .i64 0, .int .i64 0] 50)))
      clear HN HL
      go_wp2_with (first | refine load_blk rfl 50 _ rfl (show Blk _ _ _ _ from unhide HX) rfl row50 size50 rfl ?_ | refine store_blk rfl 50 _ _ rfl (show Blk _ _ _ _ from unhide HR) rfl rfl size50 rfl rfl rfl ?_)
      intro w4 k4 kp
      have k6 := kp.bel (Nat.le_refl _) (unhide HB)
      clear kp HX HR HB
      go_wp2_with fail
      exact bodyPost_ret (v := .tuple #[.agg #[.int .i64 0, .int .i64 0, .int .i64 0, .int .i64 0], .bool false]) (res_ct (cs0 := #[.int .i64 0, .int .i64 0, .int .i64 0, .int .i64 0]) rfl k4 row50 size50 rfl rfl rfl) rfl ⟨by rw [pst_no (accB_no (unhide HBn)), accB_no (unhide HBn)], k6⟩
theorem pM_bd (k : Int) : pM k ≤ 0 ∧ -1125899906842624 ≤ pM k := by
  unfold pM
  split
  · decide
  split
  · decide
  split
  · decide
  split
  · decide
  split
  · decide
  split
  · decide
  split <;> decide
/-- What is booked, and the error. -/
def postE (k n : Int) : Int := if accB k = true ∧ pM k ≤ n ∧ n ≤ 1125899906842624 then 0 else 2
def postL (k n : Int) : List Li := if postE k n = 0 ∧ ¬ n = 0 then [(pA k, n), (pB k, -n)] else []
theorem wrap_in' {n : Int} (h : In64 n) : IntKind.i64.wrap n = n := by
  obtain ⟨a, b⟩ := h
  rw [IntKind.wrap_i64]
  omega
theorem two_row {w : World} {b : Nat} {p q r s : Int} {T : TypeId} (h : Blk w b #[.int .i64 p, .int .i64 q, .int .i64 r, .int .i64 s] T) : RowG 2 w (.slice (some ⟨b, 0, none⟩) 2 2) ([(p, q), (r, s)].map liL) := by
  refine Or.inr ⟨b, 0, 2, rfl, by simp, by simp, by decide, fun j hj t ht => ?_, fit_li _⟩
  rw [Nat.zero_add]
  have hj' : j < 2 := hj
  match j, hj', t, ht with
  | 0, _, 0, _ => exact h.at 0 _ rfl
  | 0, _, 1, _ => exact h.at 1 _ rfl
  | 1, _, 0, _ => exact h.at 2 _ rfl
  | 1, _, 1, _ => exact h.at 3 _ rfl
theorem two_grow {w w' : World} {p q r s : Int} {E : TypeId} (hb : Below w.heap.size w w') : GrowG E 2 w (w'.alloc (.cells #[.int .i64 p, .int .i64 q, .int .i64 r, .int .i64 s] E)) (.slice (some ⟨w'.heap.size, 0, none⟩) 2 2) ([(p, q), (r, s)].map liL) := by
  exact ⟨below_via hb (below1 _ _), World.ownsRow_lit w' #[.int .i64 p, .int .i64 q, .int .i64 r, .int .i64 s] 2 hb.size (by decide) rfl, fit_li _⟩
theorem post_any (k n : Int) (i : In64 n) (w : World) : Calls Try.prog 9 #[.int .i64 k, .int .i64 n] w fun e w' => ∃ v, e = .returned (.tuple #[v, .int .i64 (postE k n)]) ∧ GrowG 44 2 w w' v ((postL k n).map liL) := by
  have HL := hide (fun b W => lookp_any k b W)
  have HG := hide (pst_any w)
  have HB := hide (below1 w (.cells PST 50))
  have HX := hide (Blk.new w PST 50)
  have HE : Hid (∀ x, accB k = x → postE k n = if x = true ∧ pM k ≤ n ∧ n ≤ 1125899906842624 then 0 else 2) := hide (fun x h => by unfold postE; rw [h])
  have HZ : Hid (postL k n = if postE k n = 0 ∧ ¬ n = 0 then [(pA k, n), (pB k, -n)] else []) := hide rfl
  have HM : Hid (pM k ≤ 0 ∧ -1125899906842624 ≤ pM k) := hide (pM_bd k)
  generalize postE k n = E at *
  generalize postL k n = L at *
  go_enter Try.func9, Try.ntmps9
  go_wp2_with fail
  refine (unhide HG).mono ?_
  rintro e w1 ⟨rfl, hw⟩
  rw [← hw] at HB HX
  clear hw HG
  go_wp2_with fail
  refine (unhide HL _ _ (unhide HX)).mono ?_
  rintro e w2 ⟨rfl, hb⟩
  replace HB := hide (below_via (unhide HB) (below_via hb (below1 w2 (.cells #[.int .i64 (accA k), .int .i64 (pA k), .int .i64 (pB k), .int .i64 (pM k)] 50))))
  clear hb HX HL
  have i1 := i.lo
  have i2 := i.hi
  cases hB : accB k with
  | false =>
    replace HE := hide (unhide HE _ hB)
    clear hB
    obtain rfl : E = 2 := (unhide HE).trans (if_neg (fun h => by cases h.1))
    obtain rfl : L = [] := (unhide HZ).trans (if_neg (fun h => by cases h.1))
    clear HE HZ
    go_wp2_with fail
    go_ret2
    exact ⟨_, rfl, GrowG.nil _ _ _ _ (unhide HB)⟩
  | true =>
    replace HE := hide (unhide HE _ hB)
    clear hB
    by_cases h1 : n < pM k
    · obtain rfl : E = 2 := (unhide HE).trans (if_neg (fun h => by have := h.2; omega))
      obtain rfl : L = [] := (unhide HZ).trans (if_neg (fun h => by cases h.1))
      clear HE HZ
      go_wp2_with fail
      go_ret2
      exact ⟨_, rfl, GrowG.nil _ _ _ _ (unhide HB)⟩
    · by_cases h2 : 1125899906842624 < n
      · obtain rfl : E = 2 := (unhide HE).trans (if_neg (fun h => by have := h.2; omega))
        obtain rfl : L = [] := (unhide HZ).trans (if_neg (fun h => by cases h.1))
        clear HE HZ
        go_wp2_with fail
        go_ret2
        exact ⟨_, rfl, GrowG.nil _ _ _ _ (unhide HB)⟩
      · obtain rfl : E = 0 := (unhide HE).trans (if_pos ⟨rfl, by omega, by omega⟩)
        clear HE
        by_cases h3 : n = 0
        · obtain rfl : L = [] := (unhide HZ).trans (if_neg (fun h => h.2 h3))
          subst h3
          clear HZ
          go_wp2_with fail
          go_ret2
          exact ⟨_, rfl, GrowG.nil _ _ _ _ (unhide HB)⟩
        · obtain rfl : L = [(pA k, n), (pB k, -n)] := (unhide HZ).trans (if_pos ⟨rfl, h3⟩)
          clear HZ
          have m1 := unhide HM
          have i3 : -9223372036854775808 ≤ -n := by omega
          have hneg : IntKind.i64.wrap (-n) = -n := wrap_in' ⟨by omega, by omega⟩
          go_wp2_with fail
          go_ret2
          exact ⟨_, rfl, by have q := two_grow (E := 44) (p := pA k) (q := n) (r := pB k) (s := -n) (unhide HB); simpa using q⟩
end Go.Proofs.Ytalbdkihlcbhbaa
