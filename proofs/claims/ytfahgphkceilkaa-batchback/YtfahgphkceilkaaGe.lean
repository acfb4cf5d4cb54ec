/- Get of the program. -/
import Derived.Test.YtfahgphkceilkaaGr
namespace Go.Proofs.Ytfahgphkceilkaa
open Go.RowKit
set_option linter.unusedVariables false
set_option linter.unusedSimpArgs false
theorem get_form {xs : List Nat} (h : ¬ formE xs = 0) : getE xs = formE xs ∧ getS xs = 0 ∧ getV xs = 0 ∧ getL xs = [] := by
  have e : getE xs = formE xs := if_neg h
  have e2 : ¬ getE xs = 0 := by rw [e]; exact h
  exact ⟨e, if_neg e2, if_neg e2, if_neg e2⟩
theorem get_chk {xs : List Nat} (h : formE xs = 0) (h2 : ¬ chkB (seqN xs) (evN xs) (lisN xs) = 0) : getE xs = 6 ∧ getS xs = 0 ∧ getV xs = 0 ∧ getL xs = [] := by
  have e : getE xs = 6 := by unfold getE; rw [if_pos h, if_neg h2]
  have e2 : ¬ getE xs = 0 := by rw [e]; decide
  exact ⟨e, if_neg e2, if_neg e2, if_neg e2⟩
theorem get_yes {xs : List Nat} (h : formE xs = 0) (h2 : chkB (seqN xs) (evN xs) (lisN xs) = 0) : getE xs = 0 ∧ getS xs = seqN xs ∧ getV xs = evN xs ∧ getL xs = lisN xs := by
  have e : getE xs = 0 := by unfold getE; rw [if_pos h, if_pos h2]
  exact ⟨e, if_pos e, if_pos e, if_pos e⟩
set_option maxHeartbeats 4000000 in
theorem get_bad (v : Value) (xs : List Nat) (w : World) (h : RowG 1 w v (bys xs)) (hb : Bytes xs) (hf : ¬ formE xs = 0) : Calls Try.prog 18 #[v] w fun e w' => e = .returned (.tuple #[.agg #[.int .i64 0, .int .i64 0, .slice none 0 0], .int .i64 (formE xs)]) ∧ Below w.heap.size w w' := by
  obtain ⟨a, cap, rfl⟩ := rowG_slice h
  generalize (bys xs).length = n at *
  have HR := hide (h.alloc (.cells #[.int .i64 0, .int .i64 0, .slice none 0 0] 32))
  have HB := hide (below1 w (.cells #[.int .i64 0, .int .i64 0, .slice none 0 0] 32))
  have HX := hide (Blk.new w #[.int .i64 0, .int .i64 0, .slice none 0 0] 32)
  have HQ := hide (fun W h => cb_any (.slice a n cap) xs W h hb)
  clear h hb
  generalize formE xs = F at *
  go_enter Try.func18, Try.ntmps18
  go_wp2_with fail
  refine (unhide HQ _ (unhide HR)).mono ?_
  rintro r w2 ⟨rfl, hb⟩
  replace HX := hide ((show Blk _ _ _ _ from unhide HX).keep hb)
  replace HB := hide (below_via (unhide HB) hb)
  clear hb HR HQ
  go_wp2_with (refine store_blk rfl 32 _ _ rfl (show Blk _ _ _ _ from unhide HX) rfl rfl size32 rfl rfl rfl ?_)
  intro w4 k4 kp
  have k6 := kp.bel (Nat.le_refl _) (unhide HB)
  clear kp HX HB
  go_wp2_with fail
  exact bodyPost_ret (v := .tuple #[.agg #[.int .i64 0, .int .i64 0, .slice none 0 0], .int .i64 F]) (res_ct (cs0 := #[.int .i64 0, .int .i64 0, .slice none 0 0]) rfl k4 row32 size32 rfl rfl rfl) rfl ⟨rfl, k6⟩
set_option maxHeartbeats 4000000 in
theorem get_goy (x : Option Addr) (cap n m j4 : Nat) (xs : List Nat) (w : World) (a b : Int) (ls : List Li) (h : RowG 1 w (.slice x n cap) (bys xs)) (hb : Bytes xs) (hf : formE xs = 0) (hC : chkB a b ls = 0)
    (hn : 15 ≤ n) (hc : n ≤ cap) (hj1 : 11 ≤ j4) (hj2 : j4 ≤ cap) (hm : j4 - 11 = m) (hw : IntKind.i64.wrap ((n : Int) - 4) = (j4 : Int))
    (H1 : Hid (∀ W, RowG 1 W (.slice x n cap) (bys xs) → Calls Try.prog 32 #[.slice (loA 1 x 2 cap) 4 (cap - 2)] W fun e w' => e = .returned (.int .i64 a) ∧ w' = W))
    (H2 : Hid (∀ W, RowG 1 W (.slice x n cap) (bys xs) → Calls Try.prog 32 #[.slice (loA 1 x 6 cap) 4 (cap - 6)] W fun e w' => e = .returned (.int .i64 b) ∧ w' = W))
    (H3 : Hid (∀ W, RowG 1 W (.slice x n cap) (bys xs) → Calls Try.prog 33 #[.slice (loA 1 x 11 cap) m (cap - 11)] W fun e w' => ∃ u, e = .returned u ∧ GrowG 54 2 W w' u (ls.map liL))) :
    Calls Try.prog 18 #[.slice x n cap] w fun e w' => ∃ u, e = .returned (.tuple #[.agg #[.int .i64 a, .int .i64 b, u], .int .i64 0]) ∧ GrowG 54 2 w w' u (ls.map liL) := by
  have HR := hide (h.alloc (.cells #[.int .i64 0, .int .i64 0, .slice none 0 0] 32))
  have HB := hide (below1 w (.cells #[.int .i64 0, .int .i64 0, .slice none 0 0] 32))
  have HX := hide (Blk.new w #[.int .i64 0, .int .i64 0, .slice none 0 0] 32)
  have HQ := hide (fun W h => cb_any (.slice x n cap) xs W h hb)
  have HC := hide (fun v W h => chkb_any a b v ls W h)
  rw [hf] at HQ
  rw [hC] at HC
  clear h hb hf
  replace hn := hide hn
  replace hc := hide hc
  replace hj1 := hide hj1
  replace hj2 := hide hj2
  replace hm := hide hm
  replace hw := hide hw
  go_enter Try.func18, Try.ntmps18
  go_wp2_with fail
  refine (unhide HQ _ (unhide HR)).mono ?_
  rintro r w2 ⟨rfl, hb⟩
  replace HR := hide ((show RowG _ _ _ _ from unhide HR).keep hb)
  replace HX := hide ((show Blk _ _ _ _ from unhide HX).keep hb)
  replace HB := hide (below_via (unhide HB) hb)
  clear hb HQ
  go_wp2_with fail
  refine greg4 (xs := xs) (unhide hn) (unhide hc) (unhide hj1) (unhide hj2) (unhide hm) (unhide hw) (fun W hW => unhide H1 W ((unhide HR).keep hW)) (fun W hW => unhide H2 W ((unhide HR).keep hW)) (fun W hW => unhide H3 W ((unhide HR).keep hW)) (fun s1 s2 s3 u cb W hcb hB hG => ?_)
  obtain ⟨xu, nu, cu, rfl⟩ : ∃ xu nu cu, u = .slice xu nu cu := by
    obtain ⟨xu, cu, e1⟩ := rowG_slice hG.row
    exact ⟨xu, _, cu, e1⟩
  have HU := hide hB
  have HN := hide (hG.own (show Blk _ _ _ _ from unhide HX).lt)
  replace HX := hide ((show Blk _ _ _ _ from unhide HX).keep hG.below)
  have HG := hide (hG.from (unhide HB))
  replace HB := hide (below_via (unhide HB) hG.below)
  clear hB hG hcb H1 H2 H3 HR hn hc hj1 hj2 hm hw
  go_wp2_with (refine load_blk rfl 32 _ rfl (show Blk _ _ _ _ from unhide HU) rfl row32 size32 rfl ?_)
  refine (unhide HC _ W (unhide HG).row).mono ?_
  rintro r w4 ⟨rfl, hb⟩
  replace HU := hide ((show Blk _ _ _ _ from unhide HU).keep hb)
  replace HX := hide ((show Blk _ _ _ _ from unhide HX).keep hb)
  replace HB := hide (below_via (unhide HB) hb)
  replace HG := hide ((unhide HG).keep hb)
  clear hb HC
  go_wp2_with (first | refine load_blk rfl 32 _ rfl (show Blk _ _ _ _ from unhide HU) rfl row32 size32 rfl ?_ | refine store_blk rfl 32 _ _ rfl (show Blk _ _ _ _ from unhide HX) rfl rfl size32 rfl rfl rfl ?_)
  intro w5 k4 kp
  have k6 := kp.bel (Nat.le_refl _) (unhide HB)
  have k7 := growG_past (show GrowG _ _ _ _ _ _ from unhide HG) kp (unhide HN) k6
  clear kp HX HB HU HG HN
  go_wp2_with fail
  exact bodyPost_ret (v := .tuple #[.agg #[.int .i64 a, .int .i64 b, .slice xu nu cu], .int .i64 0]) (res_ct (cs0 := #[.int .i64 a, .int .i64 b, .slice xu nu cu]) rfl k4 row32 size32 rfl rfl rfl) rfl ⟨_, rfl, k7⟩
set_option maxHeartbeats 4000000 in
theorem get_gon (x : Option Addr) (cap n m j4 : Nat) (xs : List Nat) (w : World) (a b : Int) (ls : List Li) (h : RowG 1 w (.slice x n cap) (bys xs)) (hb : Bytes xs) (hf : formE xs = 0) (hC : ¬ chkB a b ls = 0)
    (hn : 15 ≤ n) (hc : n ≤ cap) (hj1 : 11 ≤ j4) (hj2 : j4 ≤ cap) (hm : j4 - 11 = m) (hw : IntKind.i64.wrap ((n : Int) - 4) = (j4 : Int))
    (H1 : Hid (∀ W, RowG 1 W (.slice x n cap) (bys xs) → Calls Try.prog 32 #[.slice (loA 1 x 2 cap) 4 (cap - 2)] W fun e w' => e = .returned (.int .i64 a) ∧ w' = W))
    (H2 : Hid (∀ W, RowG 1 W (.slice x n cap) (bys xs) → Calls Try.prog 32 #[.slice (loA 1 x 6 cap) 4 (cap - 6)] W fun e w' => e = .returned (.int .i64 b) ∧ w' = W))
    (H3 : Hid (∀ W, RowG 1 W (.slice x n cap) (bys xs) → Calls Try.prog 33 #[.slice (loA 1 x 11 cap) m (cap - 11)] W fun e w' => ∃ u, e = .returned u ∧ GrowG 54 2 W w' u (ls.map liL))) :
    Calls Try.prog 18 #[.slice x n cap] w fun e w' => e = .returned (.tuple #[.agg #[.int .i64 0, .int .i64 0, .slice none 0 0], .int .i64 6]) ∧ Below w.heap.size w w' := by
  have HR := hide (h.alloc (.cells #[.int .i64 0, .int .i64 0, .slice none 0 0] 32))
  have HB := hide (below1 w (.cells #[.int .i64 0, .int .i64 0, .slice none 0 0] 32))
  have HX := hide (Blk.new w #[.int .i64 0, .int .i64 0, .slice none 0 0] 32)
  have HQ := hide (fun W h => cb_any (.slice x n cap) xs W h hb)
  have HC := hide (fun v W h => chkb_any a b v ls W h)
  rw [hf] at HQ
  generalize chkB a b ls = C at *
  clear h hb hf
  replace hn := hide hn
  replace hc := hide hc
  replace hj1 := hide hj1
  replace hj2 := hide hj2
  replace hm := hide hm
  replace hw := hide hw
  go_enter Try.func18, Try.ntmps18
  go_wp2_with fail
  refine (unhide HQ _ (unhide HR)).mono ?_
  rintro r w2 ⟨rfl, hb⟩
  replace HR := hide ((show RowG _ _ _ _ from unhide HR).keep hb)
  replace HX := hide ((show Blk _ _ _ _ from unhide HX).keep hb)
  replace HB := hide (below_via (unhide HB) hb)
  clear hb HQ
  go_wp2_with fail
  refine greg4 (xs := xs) (unhide hn) (unhide hc) (unhide hj1) (unhide hj2) (unhide hm) (unhide hw) (fun W hW => unhide H1 W ((unhide HR).keep hW)) (fun W hW => unhide H2 W ((unhide HR).keep hW)) (fun W hW => unhide H3 W ((unhide HR).keep hW)) (fun s1 s2 s3 u cb W hcb hB hG => ?_)
  obtain ⟨xu, nu, cu, rfl⟩ : ∃ xu nu cu, u = .slice xu nu cu := by
    obtain ⟨xu, cu, e1⟩ := rowG_slice hG.row
    exact ⟨xu, _, cu, e1⟩
  have HU := hide hB
  have HN := hide (hG.own (show Blk _ _ _ _ from unhide HX).lt)
  replace HX := hide ((show Blk _ _ _ _ from unhide HX).keep hG.below)
  have HG := hide (hG.from (unhide HB))
  replace HB := hide (below_via (unhide HB) hG.below)
  clear hB hG hcb H1 H2 H3 HR hn hc hj1 hj2 hm hw
  go_wp2_with (refine load_blk rfl 32 _ rfl (show Blk _ _ _ _ from unhide HU) rfl row32 size32 rfl ?_)
  refine (unhide HC _ W (unhide HG).row).mono ?_
  rintro r w4 ⟨rfl, hb⟩
  replace HU := hide ((show Blk _ _ _ _ from unhide HU).keep hb)
  replace HX := hide ((show Blk _ _ _ _ from unhide HX).keep hb)
  replace HB := hide (below_via (unhide HB) hb)
  replace HG := hide ((unhide HG).keep hb)
  clear hb HC
  clear HG HU
  go_wp2_with (refine store_blk rfl 32 _ _ rfl (show Blk _ _ _ _ from unhide HX) rfl rfl size32 rfl rfl rfl ?_)
  intro w5 k4 kp
  have k6 := kp.bel (Nat.le_refl _) (unhide HB)
  clear kp HX HB
  go_wp2_with fail
  exact bodyPost_ret (v := .tuple #[.agg #[.int .i64 0, .int .i64 0, .slice none 0 0], .int .i64 6]) (res_ct (cs0 := #[.int .i64 0, .int .i64 0, .slice none 0 0]) rfl k4 row32 size32 rfl rfl rfl) rfl ⟨rfl, k6⟩
theorem get_any (v : Value) (xs : List Nat) (w : World) (h : RowG 1 w v (bys xs)) (hb : Bytes xs) : Calls Try.prog 18 #[v] w fun e w' => ∃ u, e = .returned (.tuple #[.agg #[.int .i64 (getS xs), .int .i64 (getV xs), u], .int .i64 (getE xs)]) ∧ GrowG 54 2 w w' u ((getL xs).map liL) := by
  by_cases hf : formE xs = 0
  · obtain ⟨h1, _, _, _⟩ := formE_ok hf
    have h10 := getD_lt hb 10
    obtain ⟨x, cap, rfl⟩ := rowG_slice h
    rw [bys_len] at h ⊢
    have hcap := rowG_le h
    have hsub : linesB (xs.getD 10 0) ((xs.drop 11).take (9 * xs.getD 10 0)) = lisN xs := lis_sub xs h1
    have H1 := fun (W : World) (hW : RowG 1 W (.slice x xs.length cap) (bys xs)) => num_int _ ((xs.drop 2).take 4) W (rowB_mid hW (show 2 ≤ 6 by decide) (by omega)) (bytes_take (bytes_drop hb _) _) (by rw [List.length_take]; omega)
    have H2 := fun (W : World) (hW : RowG 1 W (.slice x xs.length cap) (bys xs)) => num_int _ ((xs.drop 6).take 4) W (rowB_mid hW (show 6 ≤ 10 by decide) (by omega)) (bytes_take (bytes_drop hb _) _) (by rw [List.length_take]; omega)
    have e3 : xs.length - 4 - 11 = 9 * xs.getD 10 0 := by omega
    have H3 := fun (W : World) (hW : RowG 1 W (.slice x xs.length cap) (bys xs)) => by
      have k := rowB_mid hW (show 11 ≤ xs.length - 4 by omega) (show xs.length - 4 ≤ xs.length by omega)
      rw [e3] at k
      have k2 := lines_any _ ((xs.drop 11).take (9 * xs.getD 10 0)) (xs.getD 10 0) W k (bytes_take (bytes_drop hb _) _) (by rw [List.length_take, List.length_drop]; omega) (by omega)
      rw [hsub] at k2
      exact k2
    rw [num_at xs 2 hb] at H1
    rw [num_at xs 6 hb] at H2
    have hw4 : IntKind.i64.wrap ((xs.length : Int) - 4) = ((xs.length - 4 : Nat) : Int) := by
      rw [wrap_in' ⟨by omega, by omega⟩]
      omega
    by_cases hC : chkB (seqN xs) (evN xs) (lisN xs) = 0
    · obtain ⟨a0, a1, a2, a3⟩ := get_yes hf hC
      rw [a0, a1, a2, a3]
      exact get_goy x cap xs.length (9 * xs.getD 10 0) (xs.length - 4) xs w (seqN xs) (evN xs) (lisN xs) h hb hf hC (by omega) hcap (by omega) (by omega) e3 hw4 (hide H1) (hide H2) (hide H3)
    · obtain ⟨a0, a1, a2, a3⟩ := get_chk hf hC
      rw [a0, a1, a2, a3]
      exact (get_gon x cap xs.length (9 * xs.getD 10 0) (xs.length - 4) xs w (seqN xs) (evN xs) (lisN xs) h hb hf hC (by omega) hcap (by omega) (by omega) e3 hw4 (hide H1) (hide H2) (hide H3)).mono fun e w' ⟨q1, q2⟩ => ⟨_, q1, GrowG.nil _ _ _ _ q2⟩
  · obtain ⟨a0, a1, a2, a3⟩ := get_form hf
    rw [a0, a1, a2, a3]
    exact (get_bad v xs w h hb hf).mono fun e w' ⟨q1, q2⟩ => ⟨_, q1, GrowG.nil _ _ _ _ q2⟩
end Go.Proofs.Ytfahgphkceilkaa
