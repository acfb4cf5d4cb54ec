/- Proved here: FlowParts: parts together are the whole, each on its side; merged they are it; what is spread has the same total. No condition. -/
import Derived.Test.YtkjbkppjebljpaaLaws
namespace Go.Proofs.Ytkjbkppjebljpaa.flowParts
open Go.ChangeShapes Go.WideShapes Go.ChangeAt Go.RowKit
set_option linter.unusedSimpArgs false
theorem wp_fromR {o : Oper} {a : Act} {K : Act → World → Prop} {Q : Exit → Act → World → Prop} (s x : Operand)
    (ho : o.op = .call { callee := .builtin .append, args := #[s, x], argTypes := #[22, 22] })
    (w W : World) (v u : Value) (l m : List (Int × Int)) (hG : GrowF 40 w W v l) (hF : RowF W u m) (hs : a.eval s = v) (hx : a.eval x = u)
    (hlen : l.length + m.length ≤ 1000000)
    (h : ∀ v' W', GrowF 40 w W' v' (l ++ m) → K (a.put o.dst v') W') : o.wp Try.prog a W K Q := by
  obtain ⟨i0, hi, hz0, hz1, hz2⟩ := info_parts Try.info40
  have hsize := hG.below.size
  have row : ∀ (ad : Addr) (c : Nat), u = .slice (some ad) m.length c → (∀ j u, (flat m)[j]? = some u → W.cell? (ad.add j) = some u) → o.wp Try.prog a W K Q := by
    rintro ad c rfl hc
    refine wp_append_own W s x 22 ho w.heap.size 40 i0 (.agg #[.int .i64 0, .int .i64 0]) 2 16 Try.underlying22 hi hz0 hz1 hz2 rfl (by decide) v l.length _ hs hG.owns ad m.length c (flat m) hx (flat_len m) hc ?_ (by unfold maxLen; omega) (by omega) hsize ?_
    · exact flat_one m
    · intro v' W' hown hgrow _
      refine h v' W' ⟨hG.below.grown hgrow hsize (fun k hk => (hG.owns.lt k hk).1), ?_, ?_⟩
      · rw [flat_append, List.length_append]; exact hown
      · intro y hy
        rcases List.mem_append.1 hy with h1 | h1
        · exact hG.small y h1
        · exact hF.small y h1
  rcases hF with ⟨ad, c, rfl, rfl, hn⟩ | ⟨b, off, c, rfl, _, _, _, hc, _⟩
  · cases ad with
    | none =>
      rw [hn rfl] at hx
      have hrun := run_append_owned_none (P := Try.prog) W w.heap.size 22 o.type 40 i0 2 Try.underlying22 hi v l.length _ hG.owns
      unfold Oper.wp
      simp [execOp, ho, resolve, invoke, builtin, hs, hx, hrun, Result.andThen]
      have := h v W (by simpa using hG)
      exact this
    | some ad => exact row ad c rfl (fun j u hj => by simp [flat] at hj)
  · refine row _ c rfl (fun j u hj => ?_)
    have hj2 := (List.getElem?_eq_some_iff.1 hj).1
    rw [flat_len] at hj2
    rw [Addr.add_lit]
    have e := flat_at m (j / 2) (by omega)
    have g := hc (j / 2) (by omega)
    have q : j = j / 2 * 2 ∨ j = j / 2 * 2 + 1 := by omega
    rcases q with q | q
    · rw [q, e.1] at hj
      rw [show off + j = off + j / 2 * 2 from by omega, g.1, ← hj]
    · rw [q, e.2] at hj
      rw [show off + j = off + j / 2 * 2 + 1 from by omega, g.2, ← hj]
theorem listR_from {ops : Array Oper} {rest : List Oper} {o : Oper} {a : Act} {Q : Exit → Act → World → Prop} (hgd : o.guard = none) (s x : Operand)
    (ho : o.op = .call { callee := .builtin .append, args := #[s, x], argTypes := #[22, 22] })
    (w W : World) (v u : Value) (l m : List (Int × Int)) (hG : GrowF 40 w W v l) (hF : RowF W u m) (hs : a.eval s = v) (hx : a.eval x = u)
    (hlen : l.length + m.length ≤ 1000000)
    (h : ∀ v' W', GrowF 40 w W' v' (l ++ m) → wpList Try.prog ops Q rest (a.put o.dst v') W') : wpList Try.prog ops Q (o :: rest) a W :=
  wpList_plain hgd fun _ hK => wp_fromR s x ho w W v u l m hG hF hs hx hlen fun v' W' h2 => hK _ _ (h v' W' h2)
theorem GrowF.drewN {E : TypeId} {w wr : World} {v : Value} {l : List (Int × Int)} (h : GrowF E w wr v l) (n : Nat) : GrowF E w (wr.drewN n) v l := ⟨below_drewN h.below n, h.owns, h.small⟩
theorem chk_upto {l : List (Int × Int)} (D : Int) (h : chkE l = 0) : chkE (upto D l) = 0 := by
  obtain ⟨h1, h2⟩ := chkE_ok h
  obtain ⟨h3, h4⟩ := chk_ok h2
  exact chkE_of (by have := upto_len D l; omega) (chk_of (upto_rises h3) (fun f hf => h4 f (upto_mem f hf).1))
theorem chk_behind {l : List (Int × Int)} (D : Int) (h : chkE l = 0) : chkE (behind D l) = 0 := by
  obtain ⟨h1, h2⟩ := chkE_ok h
  obtain ⟨h3, h4⟩ := chk_ok h2
  exact chkE_of (by have := behind_len D l; omega) (chk_of (behind_rises h3) (fun f hf => h4 f (behind_mem f hf).1))
theorem nz_ok {l : List (Int × Int)} (h : chkE l = 0) : noOver (nz l) = true ∧ (nz l).length ≤ 600 := by
  obtain ⟨h1, h2⟩ := chkE_ok h
  obtain ⟨h3, h4⟩ := chk_ok h2
  exact ⟨by rw [noOver_nz]; exact noOver_of (fun f hf => (h4 f hf).2), by have := nz_len l; omega⟩
theorem mE_parts {l : List (Int × Int)} (D : Int) (h : chkE l = 0) : mE (upto D l) (behind D l) = 0 ∧ mL (upto D l) (behind D l) = nz l := by
  obtain ⟨h1, h2⟩ := chkE_ok h
  obtain ⟨h3, h4⟩ := chk_ok h2
  have e := parts_both (D := D) h3
  have := mE_ok (chk_upto D h) (chk_behind D h) (by rw [e]; exact (nz_ok h).1) (by rw [e]; exact (nz_ok h).2)
  rw [e] at this
  exact this
theorem mE_alone {l : List (Int × Int)} (h : chkE l = 0) : mE l [] = 0 ∧ mL l [] = nz l := by
  have e := both_nil l
  have := mE_ok (b := []) h (show chkE [] = 0 from rfl) (by rw [e]; exact (nz_ok h).1) (by rw [e]; exact (nz_ok h).2)
  rw [e] at this
  exact this
theorem tot_ok {l : List (Int × Int)} (h : chkE l = 0) : okN (tot l) = tot l ∧ okE (tot l) = 0 := by
  obtain ⟨h1, h2⟩ := chkE_ok h
  obtain ⟨_, h3⟩ := chk_ok h2
  have := mem_len (fun f hf => (h3 f hf).2)
  have ht : turn (tot l) = 0 := turn_in ⟨by omega, by omega⟩
  exact ⟨okN_in ht, okE_in ht⟩
theorem total_ok (v : Value) (l : List (Int × Int)) (w : World) (h : RowF w v l) (hm : l.length ≤ 1000) (hc : chkE l = 0) : Calls Try.prog 14 #[v] w fun e w' => e = .returned (.tuple #[.int .i64 (tot l), .int .i64 0]) ∧ Below w.heap.size w w' := by
  have := total_any v l w h hm
  rwa [(tot_ok hc).1, (tot_ok hc).2] at this
theorem spr_whole {l : List (Int × Int)} (h : chkE l = 0) : spr 0 l [3652059] = [tot l] := by
  obtain ⟨h1, h2⟩ := chkE_ok h
  obtain ⟨h3, h4⟩ := chk_ok h2
  show [within 0 3652059 l] = _
  rw [within_all h3 (fun f hf => (h4 f hf).1)]
theorem sE_whole {l : List (Int × Int)} (h : chkE l = 0) : (may (tot l) = true → sE l [3652059] = 0 ∧ sL l [3652059] = [tot l]) ∧ (may (tot l) = false → sE l [3652059] = 3 ∧ sL l [3652059] = []) := by
  obtain ⟨h1, h2⟩ := chkE_ok h
  obtain ⟨h3, h4⟩ := chk_ok h2
  have hd : dayE [3652059] = 0 := by decide +kernel
  have ha : (l.any fun f => decide (lastD 0 [3652059] < f.1)) = false := by
    rw [List.any_eq_false]
    intro f hf
    have := (h4 f hf).1
    show ¬ decide ((3652059 : Int) < f.1) = true
    simp; omega
  have e : sE l [3652059] = if may (tot l) = true then 0 else 3 := by
    unfold sE
    rw [if_pos h, if_pos hd, if_neg (by rw [ha]; decide), spr_whole h]
    simp
  refine ⟨fun q => ?_, fun q => ?_⟩
  · rw [if_pos q] at e
    exact ⟨e, by unfold sL; rw [if_pos e]; exact spr_whole h⟩
  · rw [if_neg (by rw [q]; decide)] at e
    exact ⟨e, by unfold sL; rw [if_neg (by rw [e]; decide)]⟩
theorem l_1 (a0 : Option Addr) (l0 c0 : Nat) (D : Int) (d0 : decide ((200 : Int) < (l0 : Int)) = true) (hal : Hid Alive) (w : World) : Calls Try.prog 6 #[.slice a0 l0 c0, .int .i64 D] w fun e w' => e = .returned (.bool true) ∧ Below w.heap.size w w' := by
  go_enter Try.func6, Try.ntmps6
  go_wp2_with fail
  refine (unhide hal w).mono ?_
  rintro e w1 ⟨rfl, b⟩
  have HB := hide b
  clear b
  go_wp2_with fail
  go_ret
  exact ⟨rfl, unhide HB⟩
theorem l_2 (a0 : Option Addr) (l0 c0 : Nat) (z0 : List (Int × Int)) (D : Int) (d0 : decide ((200 : Int) < (l0 : Int)) = false) (hal : Hid Alive) (w : World) (A : Hid (RowF w (.slice a0 l0 c0) z0)) (LA : Hid (z0.length ≤ 1000)) (hc : Hid (chkE z0 ≠ 0)) : Calls Try.prog 6 #[.slice a0 l0 c0, .int .i64 D] w fun e w' => e = .returned (.bool true) ∧ Below w.heap.size w w' := by
  have b1 : (chkE z0 != 0) = true := by simpa using unhide hc
  go_enter Try.func6, Try.ntmps6
  go_wp2_with fail
  refine (unhide hal w).mono ?_
  rintro e w1 ⟨rfl, b⟩
  replace A := hide ((unhide A).keep b)
  have HB := hide b
  clear b
  go_wp2_with fail
  refine (to_any _ z0 w1 (unhide A) (unhide LA)).mono ?_
  rintro e w2 ⟨x, rfl, g⟩
  replace A := hide ((unhide A).keep g.below)
  replace HB := hide (below_via (unhide HB) g.below)
  have Rx := hide g.row
  clear g
  go_wp2_with fail
  refine (check_any _ z0 w2 (unhide Rx)).mono ?_
  rintro e w3 ⟨rfl, b⟩
  replace A := hide ((unhide A).keep b)
  replace Rx := hide ((unhide Rx).keep b)
  replace HB := hide (below_via (unhide HB) b)
  clear b
  go_wp2_with fail
  go_ret
  exact ⟨rfl, unhide HB⟩
set_option maxRecDepth 20000 in
set_option maxHeartbeats 2000000 in
theorem main_yes (a0 : Option Addr) (l0 c0 : Nat) (z0 : List (Int × Int)) (D : Int) (d0 : decide ((200 : Int) < (l0 : Int)) = false) (hal : Hid Alive) (w : World) (A : Hid (RowF w (.slice a0 l0 c0) z0)) (LA : Hid (z0.length ≤ 1000)) (hc : Hid (chkE z0 = 0)) (hw : Hid (upto D z0 ++ behind D z0 = z0)) (hp : Hid (mE (upto D z0) (behind D z0) = 0 ∧ mL (upto D z0) (behind D z0) = nz z0)) (hq : Hid (mE z0 [] = 0 ∧ mL z0 [] = nz z0)) (hu : Hid (∀ f ∈ upto D z0, f.1 ≤ D)) (hs : Hid (sE z0 [3652059] = 0 ∧ sL z0 [3652059] = [tot z0])) (Lu : Hid ((upto D z0).length ≤ 1000)) (Lb : Hid ((behind D z0).length ≤ 1000)) (Ln : Hid ((nz z0).length ≤ 1000)) : Calls Try.prog 6 #[.slice a0 l0 c0, .int .i64 D] w fun e w' => e = .returned (.bool true) ∧ Below w.heap.size w w' := by
  go_enter Try.func6, Try.ntmps6
  go_wp2_with fail
  refine (unhide hal w).mono ?_
  rintro e w1 ⟨rfl, b⟩
  replace A := hide ((unhide A).keep b)
  have HB := hide b
  clear b
  go_wp2_with fail
  refine (to_any _ z0 w1 (unhide A) (unhide LA)).mono ?_
  rintro e w2 ⟨x, rfl, g⟩
  replace A := hide ((unhide A).keep g.below)
  replace HB := hide (below_via (unhide HB) g.below)
  have Rx := hide g.row
  clear g
  go_wp2_with fail
  refine (check_any _ z0 w2 (unhide Rx)).mono ?_
  rintro e w3 ⟨rfl, b⟩
  replace A := hide ((unhide A).keep b)
  replace Rx := hide ((unhide Rx).keep b)
  replace HB := hide (below_via (unhide HB) b)
  clear b
  clear Rx
  rw [unhide hc]
  go_wp2_with fail
  refine (to_any _ z0 w3 (unhide A) (unhide LA)).mono ?_
  rintro e w4 ⟨x, rfl, g⟩
  replace A := hide ((unhide A).keep g.below)
  replace HB := hide (below_via (unhide HB) g.below)
  have Rx := hide g.row
  clear g
  go_wp2_with fail
  refine (part_any _ D z0 w4 (unhide Rx) (unhide LA)).mono ?_
  rintro e w5 ⟨p, q, rfl, gp, gq, ap⟩
  replace A := hide ((unhide A).keep gp.below)
  replace Rx := hide ((unhide Rx).keep gp.below)
  replace HB := hide (below_via (unhide HB) gp.below)
  have Rp := hide gp.row
  have Rq := hide gq.row
  clear gp gq ap
  clear Rx
  have Lw : Hid ((upto D z0).length + (behind D z0).length ≤ 1000000) := hide (by have := unhide Lu; have := unhide Lb; omega)
  have hm0 := unhide hu
  generalize upto D z0 = U at *
  generalize behind D z0 = V at *
  obtain ⟨px, pc, ep⟩ := rowF_slice (unhide Rp)
  subst ep
  have SA := A
  have SP := Rp
  have SQ := Rq
  have SB := HB
  go_wp2_with fail
  refine (from_any _ U w5 (unhide Rp) (unhide Lu)).mono ?_
  rintro e w6 ⟨f1, rfl, g⟩
  replace A := hide ((unhide A).keep g.below)
  replace Rp := hide ((unhide Rp).keep g.below)
  replace Rq := hide ((unhide Rq).keep g.below)
  replace HB := hide (below_via (unhide HB) g.below)
  have G1 := hide g
  clear g
  go_wp2_with fail
  refine (from_any _ V w6 (unhide Rq) (unhide Lb)).mono ?_
  rintro e w7 ⟨f2, rfl, g⟩
  replace A := hide ((unhide A).keep g.below)
  replace Rp := hide ((unhide Rp).keep g.below)
  replace Rq := hide ((unhide Rq).keep g.below)
  replace G1 := hide ((unhide G1).keep g.below)
  replace HB := hide (below_via (unhide HB) g.below)
  have Rf2 := hide g.row
  clear g
  go_wp2_with (at_builtin; refine listR_from rfl _ _ rfl w5 w7 _ _ U V (unhide G1) (unhide Rf2) rfl rfl (unhide Lw) ?_)
  intro f3 wX gX
  rw [unhide hw] at gX
  clear A Rp Rq HB G1 Rf2
  have A := hide ((unhide SA).keep gX.below)
  have Rp := hide ((unhide SP).keep gX.below)
  have Rq := hide ((unhide SQ).keep gX.below)
  have HB := hide (below_via (unhide SB) gX.below)
  have Rf3 := hide gX.row
  clear gX SA SP SQ SB
  have hF := hide (fsame_any _ _ z0 z0 wX (unhide Rf3) (unhide A))
  rw [sameF_refl] at hF
  go_wp2_with fail
  refine (unhide hF).mono ?_
  rintro e w8 ⟨rfl, n8, rfl⟩
  replace A := hide ((unhide A).later (w' := wX.drewN n8) (fun _ _ h => h))
  replace Rp := hide ((unhide Rp).later (w' := wX.drewN n8) (fun _ _ h => h))
  replace Rq := hide ((unhide Rq).later (w' := wX.drewN n8) (fun _ _ h => h))
  replace Rf3 := hide ((unhide Rf3).later (w' := wX.drewN n8) (fun _ _ h => h))
  replace HB := hide (below_drewN (unhide HB) n8)
  clear hF
  generalize wX.drewN n8 = v8 at *
  clear Rf3
  have hlm := unhide Lu
  go_wp2_with fail
  go_loopw [45] (fun i wr => ∃ k : Nat, k ≤ U.length ∧ i = .int .i64 k ∧ Hid (Below v8.heap.size v8 wr)) (fun i _ => U.length - (intOf i).toNat)
  case atStart => exact ⟨0, Nat.zero_le _, rfl, hide (Below.refl _ _)⟩
  case round =>
    obtain ⟨k, hk, rfl, HW⟩ := hrel
    by_cases hlt : k < U.length
    · rcases unhide Rp with ⟨_, _, _, h, _⟩ | ⟨bb, oo, cc, h1, _, h3, h4, h5, h6⟩
      · rw [h] at hlt; cases hlt
      cases h1
      obtain ⟨c0, c1⟩ := (show CellsF v8 bb oo U from h5).keep (unhide HW) k hlt
      have hz := hm0 _ (getF_mem hlt)
      clear h3 h4 h5 h6 hm0
      generalize getF U k = f at *
      obtain ⟨d, x⟩ := f
      replace c0 : wr.cell? ⟨bb, oo + k * 2, none⟩ = some (.int .i64 d) := c0
      replace c1 : wr.cell? ⟨bb, oo + k * 2 + 1, none⟩ = some (.int .i64 x) := c1
      replace hz : d ≤ D := hz
      have hz1 : decide (D < d) = false := decide_eq_false (by omega)
      replace HW := hide (below_new2 (unhide HW) (.cells #[.int .i64 d, .int .i64 x] 39))
      go_wp2_with fail
      go_roundw
      case rel => exact ⟨k + 1, by omega, by go_num, HW⟩
      case measure => simp [intOf]; omega
    · have hkl : k = U.length := by omega
      subst hkl
      clear hm0
      replace A := hide ((unhide A).keep (unhide HW))
      replace Rp := hide ((unhide Rp).keep (unhide HW))
      replace Rq := hide ((unhide Rq).keep (unhide HW))
      replace HB := hide (below_via (unhide HB) (unhide HW))
      clear HW
      go_wp2_with fail
      refine (merge_all _ _ U V wr (unhide Rp) (unhide Rq)).mono ?_
      rintro e w9 ⟨bo, rfl, r, b⟩
      replace A := hide ((unhide A).keep b)
      replace Rp := hide ((unhide Rp).keep b)
      replace Rq := hide ((unhide Rq).keep b)
      replace HB := hide (below_via (unhide HB) b)
      have Rbo := hide r
      clear r b
      rw [(unhide hp).2] at Rbo
      rw [(unhide hp).1]
      go_wp2_with fail
      refine (to_any _ z0 w9 (unhide A) (unhide LA)).mono ?_
      rintro e w10 ⟨x, rfl, g⟩
      replace A := hide ((unhide A).keep g.below)
      replace Rp := hide ((unhide Rp).keep g.below)
      replace Rq := hide ((unhide Rq).keep g.below)
      replace Rbo := hide ((unhide Rbo).keep g.below)
      replace HB := hide (below_via (unhide HB) g.below)
      have Rx := hide g.row
      clear g
      go_wp2_with fail
      refine (merge_all _ _ z0 [] w10 (unhide Rx) (rowF_nil _)).mono ?_
      rintro e w11 ⟨wa, rfl, r, b⟩
      replace A := hide ((unhide A).keep b)
      replace Rp := hide ((unhide Rp).keep b)
      replace Rq := hide ((unhide Rq).keep b)
      replace Rbo := hide ((unhide Rbo).keep b)
      replace Rx := hide ((unhide Rx).keep b)
      replace HB := hide (below_via (unhide HB) b)
      have Rwa := hide r
      clear r b
      rw [(unhide hq).2] at Rwa
      rw [(unhide hq).1]
      clear Rx Rp Rq
      go_wp2_with fail
      refine (from_any _ (nz z0) w11 (unhide Rbo) (unhide Ln)).mono ?_
      rintro e w12 ⟨u1, rfl, g⟩
      replace A := hide ((unhide A).keep g.below)
      replace Rbo := hide ((unhide Rbo).keep g.below)
      replace Rwa := hide ((unhide Rwa).keep g.below)
      replace HB := hide (below_via (unhide HB) g.below)
      have Ru1 := hide g.row
      clear g
      go_wp2_with fail
      refine (from_any _ (nz z0) w12 (unhide Rwa) (unhide Ln)).mono ?_
      rintro e w13 ⟨u2, rfl, g⟩
      replace A := hide ((unhide A).keep g.below)
      replace Rbo := hide ((unhide Rbo).keep g.below)
      replace Rwa := hide ((unhide Rwa).keep g.below)
      replace Ru1 := hide ((unhide Ru1).keep g.below)
      replace HB := hide (below_via (unhide HB) g.below)
      have Ru2 := hide g.row
      clear g
      have hF := hide (fsame_any _ _ (nz z0) (nz z0) w13 (unhide Ru1) (unhide Ru2))
      rw [sameF_refl] at hF
      go_wp2_with fail
      refine (unhide hF).mono ?_
      rintro e w14 ⟨rfl, n14, rfl⟩
      replace A := hide ((unhide A).later (w' := w13.drewN n14) (fun _ _ h => h))
      replace Rbo := hide ((unhide Rbo).later (w' := w13.drewN n14) (fun _ _ h => h))
      replace Rwa := hide ((unhide Rwa).later (w' := w13.drewN n14) (fun _ _ h => h))
      replace Ru1 := hide ((unhide Ru1).later (w' := w13.drewN n14) (fun _ _ h => h))
      replace Ru2 := hide ((unhide Ru2).later (w' := w13.drewN n14) (fun _ _ h => h))
      replace HB := hide (below_drewN (unhide HB) n14)
      clear hF
      generalize w13.drewN n14 = v14 at *
      clear Ru1 Ru2 Rbo Rwa
      go_wp2_with fail
      refine (to_any _ z0 v14 (unhide A) (unhide LA)).mono ?_
      rintro e w15 ⟨x, rfl, g⟩
      replace A := hide ((unhide A).keep g.below)
      replace HB := hide (below_via (unhide HB) g.below)
      have Rx := hide g.row
      clear g
      have Rd : Hid (Row (w15.alloc (.cells #[.int .i64 3652059] 3)) (.slice (some ⟨w15.heap.size, 0, none⟩) 1 1) [3652059]) := hide (row_lit w15 3 [3652059] (by decide) (by decide) (by intro z hz; simp at hz; subst hz; exact ⟨by omega, by omega⟩))
      replace A := hide ((unhide A).alloc (.cells #[.int .i64 3652059] 3))
      replace Rx := hide ((unhide Rx).alloc (.cells #[.int .i64 3652059] 3))
      replace HB := hide (below_new2 (unhide HB) (.cells #[.int .i64 3652059] 3))
      have hSp := hide (spread_all _ _ z0 [3652059] _ (unhide Rx) (unhide Rd))
      unfold SpreadA at hSp
      rw [(unhide hs).1, (unhide hs).2] at hSp
      clear hs Rx Rd
      go_wp2_with fail
      refine (unhide hSp).mono ?_
      rintro e w16 ⟨sv, rfl, r, b⟩
      replace A := hide ((unhide A).keep b)
      replace HB := hide (below_via (unhide HB) b)
      have Rs := hide r
      clear r b hSp
      go_wp2_with fail
      refine (to_any _ z0 w16 (unhide A) (unhide LA)).mono ?_
      rintro e w17 ⟨x, rfl, g⟩
      replace A := hide ((unhide A).keep g.below)
      replace Rs := hide ((unhide Rs).below g.below (Nat.le_refl _))
      replace HB := hide (below_via (unhide HB) g.below)
      have Rx := hide g.row
      clear g
      go_wp2_with fail
      refine (total_ok _ z0 w17 (unhide Rx) (unhide LA) (unhide hc)).mono ?_
      rintro e w18 ⟨rfl, b⟩
      replace A := hide ((unhide A).keep b)
      replace Rs := hide ((unhide Rs).below b (Nat.le_refl _))
      replace Rx := hide ((unhide Rx).keep b)
      replace HB := hide (below_via (unhide HB) b)
      clear b
      clear Rx A
      obtain ⟨t, et⟩ : ∃ t, t = tot z0 := ⟨_, rfl⟩
      rw [← et] at Rs
      rw [← et]
      clear et
      rcases unhide Rs with ⟨_, _, _, h⟩ | ⟨bs, os, cs, h1, _, _, h5, _⟩
      · cases h
      subst h1
      have s0 : w18.cell? ⟨bs, os, none⟩ = some (.int .i64 t) := h5 0 (by simp)
      have s1 : (t == t) = true := by simp
      clear h5 Rs
      simp only [List.length_cons, List.length_nil, Nat.zero_add]
      go_wp2_with fail
      go_ret
      exact ⟨rfl, unhide HB⟩
set_option maxRecDepth 20000 in
set_option maxHeartbeats 2000000 in
theorem main_over (a0 : Option Addr) (l0 c0 : Nat) (z0 : List (Int × Int)) (D : Int) (d0 : decide ((200 : Int) < (l0 : Int)) = false) (hal : Hid Alive) (w : World) (A : Hid (RowF w (.slice a0 l0 c0) z0)) (LA : Hid (z0.length ≤ 1000)) (hc : Hid (chkE z0 = 0)) (hw : Hid (upto D z0 ++ behind D z0 = z0)) (hp : Hid (mE (upto D z0) (behind D z0) = 0 ∧ mL (upto D z0) (behind D z0) = nz z0)) (hq : Hid (mE z0 [] = 0 ∧ mL z0 [] = nz z0)) (hu : Hid (∀ f ∈ upto D z0, f.1 ≤ D)) (hs : Hid (sE z0 [3652059] = 3 ∧ sL z0 [3652059] = [])) (hy : Hid (may (tot z0) = false)) (Lu : Hid ((upto D z0).length ≤ 1000)) (Lb : Hid ((behind D z0).length ≤ 1000)) (Ln : Hid ((nz z0).length ≤ 1000)) : Calls Try.prog 6 #[.slice a0 l0 c0, .int .i64 D] w fun e w' => e = .returned (.bool true) ∧ Below w.heap.size w w' := by
  go_enter Try.func6, Try.ntmps6
  go_wp2_with fail
  refine (unhide hal w).mono ?_
  rintro e w1 ⟨rfl, b⟩
  replace A := hide ((unhide A).keep b)
  have HB := hide b
  clear b
  go_wp2_with fail
  refine (to_any _ z0 w1 (unhide A) (unhide LA)).mono ?_
  rintro e w2 ⟨x, rfl, g⟩
  replace A := hide ((unhide A).keep g.below)
  replace HB := hide (below_via (unhide HB) g.below)
  have Rx := hide g.row
  clear g
  go_wp2_with fail
  refine (check_any _ z0 w2 (unhide Rx)).mono ?_
  rintro e w3 ⟨rfl, b⟩
  replace A := hide ((unhide A).keep b)
  replace Rx := hide ((unhide Rx).keep b)
  replace HB := hide (below_via (unhide HB) b)
  clear b
  clear Rx
  rw [unhide hc]
  go_wp2_with fail
  refine (to_any _ z0 w3 (unhide A) (unhide LA)).mono ?_
  rintro e w4 ⟨x, rfl, g⟩
  replace A := hide ((unhide A).keep g.below)
  replace HB := hide (below_via (unhide HB) g.below)
  have Rx := hide g.row
  clear g
  go_wp2_with fail
  refine (part_any _ D z0 w4 (unhide Rx) (unhide LA)).mono ?_
  rintro e w5 ⟨p, q, rfl, gp, gq, ap⟩
  replace A := hide ((unhide A).keep gp.below)
  replace Rx := hide ((unhide Rx).keep gp.below)
  replace HB := hide (below_via (unhide HB) gp.below)
  have Rp := hide gp.row
  have Rq := hide gq.row
  clear gp gq ap
  clear Rx
  have Lw : Hid ((upto D z0).length + (behind D z0).length ≤ 1000000) := hide (by have := unhide Lu; have := unhide Lb; omega)
  have hm0 := unhide hu
  generalize upto D z0 = U at *
  generalize behind D z0 = V at *
  obtain ⟨px, pc, ep⟩ := rowF_slice (unhide Rp)
  subst ep
  have SA := A
  have SP := Rp
  have SQ := Rq
  have SB := HB
  go_wp2_with fail
  refine (from_any _ U w5 (unhide Rp) (unhide Lu)).mono ?_
  rintro e w6 ⟨f1, rfl, g⟩
  replace A := hide ((unhide A).keep g.below)
  replace Rp := hide ((unhide Rp).keep g.below)
  replace Rq := hide ((unhide Rq).keep g.below)
  replace HB := hide (below_via (unhide HB) g.below)
  have G1 := hide g
  clear g
  go_wp2_with fail
  refine (from_any _ V w6 (unhide Rq) (unhide Lb)).mono ?_
  rintro e w7 ⟨f2, rfl, g⟩
  replace A := hide ((unhide A).keep g.below)
  replace Rp := hide ((unhide Rp).keep g.below)
  replace Rq := hide ((unhide Rq).keep g.below)
  replace G1 := hide ((unhide G1).keep g.below)
  replace HB := hide (below_via (unhide HB) g.below)
  have Rf2 := hide g.row
  clear g
  go_wp2_with (at_builtin; refine listR_from rfl _ _ rfl w5 w7 _ _ U V (unhide G1) (unhide Rf2) rfl rfl (unhide Lw) ?_)
  intro f3 wX gX
  rw [unhide hw] at gX
  clear A Rp Rq HB G1 Rf2
  have A := hide ((unhide SA).keep gX.below)
  have Rp := hide ((unhide SP).keep gX.below)
  have Rq := hide ((unhide SQ).keep gX.below)
  have HB := hide (below_via (unhide SB) gX.below)
  have Rf3 := hide gX.row
  clear gX SA SP SQ SB
  have hF := hide (fsame_any _ _ z0 z0 wX (unhide Rf3) (unhide A))
  rw [sameF_refl] at hF
  go_wp2_with fail
  refine (unhide hF).mono ?_
  rintro e w8 ⟨rfl, n8, rfl⟩
  replace A := hide ((unhide A).later (w' := wX.drewN n8) (fun _ _ h => h))
  replace Rp := hide ((unhide Rp).later (w' := wX.drewN n8) (fun _ _ h => h))
  replace Rq := hide ((unhide Rq).later (w' := wX.drewN n8) (fun _ _ h => h))
  replace Rf3 := hide ((unhide Rf3).later (w' := wX.drewN n8) (fun _ _ h => h))
  replace HB := hide (below_drewN (unhide HB) n8)
  clear hF
  generalize wX.drewN n8 = v8 at *
  clear Rf3
  have hlm := unhide Lu
  go_wp2_with fail
  go_loopw [45] (fun i wr => ∃ k : Nat, k ≤ U.length ∧ i = .int .i64 k ∧ Hid (Below v8.heap.size v8 wr)) (fun i _ => U.length - (intOf i).toNat)
  case atStart => exact ⟨0, Nat.zero_le _, rfl, hide (Below.refl _ _)⟩
  case round =>
    obtain ⟨k, hk, rfl, HW⟩ := hrel
    by_cases hlt : k < U.length
    · rcases unhide Rp with ⟨_, _, _, h, _⟩ | ⟨bb, oo, cc, h1, _, h3, h4, h5, h6⟩
      · rw [h] at hlt; cases hlt
      cases h1
      obtain ⟨c0, c1⟩ := (show CellsF v8 bb oo U from h5).keep (unhide HW) k hlt
      have hz := hm0 _ (getF_mem hlt)
      clear h3 h4 h5 h6 hm0
      generalize getF U k = f at *
      obtain ⟨d, x⟩ := f
      replace c0 : wr.cell? ⟨bb, oo + k * 2, none⟩ = some (.int .i64 d) := c0
      replace c1 : wr.cell? ⟨bb, oo + k * 2 + 1, none⟩ = some (.int .i64 x) := c1
      replace hz : d ≤ D := hz
      have hz1 : decide (D < d) = false := decide_eq_false (by omega)
      replace HW := hide (below_new2 (unhide HW) (.cells #[.int .i64 d, .int .i64 x] 39))
      go_wp2_with fail
      go_roundw
      case rel => exact ⟨k + 1, by omega, by go_num, HW⟩
      case measure => simp [intOf]; omega
    · have hkl : k = U.length := by omega
      subst hkl
      clear hm0
      replace A := hide ((unhide A).keep (unhide HW))
      replace Rp := hide ((unhide Rp).keep (unhide HW))
      replace Rq := hide ((unhide Rq).keep (unhide HW))
      replace HB := hide (below_via (unhide HB) (unhide HW))
      clear HW
      go_wp2_with fail
      refine (merge_all _ _ U V wr (unhide Rp) (unhide Rq)).mono ?_
      rintro e w9 ⟨bo, rfl, r, b⟩
      replace A := hide ((unhide A).keep b)
      replace Rp := hide ((unhide Rp).keep b)
      replace Rq := hide ((unhide Rq).keep b)
      replace HB := hide (below_via (unhide HB) b)
      have Rbo := hide r
      clear r b
      rw [(unhide hp).2] at Rbo
      rw [(unhide hp).1]
      go_wp2_with fail
      refine (to_any _ z0 w9 (unhide A) (unhide LA)).mono ?_
      rintro e w10 ⟨x, rfl, g⟩
      replace A := hide ((unhide A).keep g.below)
      replace Rp := hide ((unhide Rp).keep g.below)
      replace Rq := hide ((unhide Rq).keep g.below)
      replace Rbo := hide ((unhide Rbo).keep g.below)
      replace HB := hide (below_via (unhide HB) g.below)
      have Rx := hide g.row
      clear g
      go_wp2_with fail
      refine (merge_all _ _ z0 [] w10 (unhide Rx) (rowF_nil _)).mono ?_
      rintro e w11 ⟨wa, rfl, r, b⟩
      replace A := hide ((unhide A).keep b)
      replace Rp := hide ((unhide Rp).keep b)
      replace Rq := hide ((unhide Rq).keep b)
      replace Rbo := hide ((unhide Rbo).keep b)
      replace Rx := hide ((unhide Rx).keep b)
      replace HB := hide (below_via (unhide HB) b)
      have Rwa := hide r
      clear r b
      rw [(unhide hq).2] at Rwa
      rw [(unhide hq).1]
      clear Rx Rp Rq
      go_wp2_with fail
      refine (from_any _ (nz z0) w11 (unhide Rbo) (unhide Ln)).mono ?_
      rintro e w12 ⟨u1, rfl, g⟩
      replace A := hide ((unhide A).keep g.below)
      replace Rbo := hide ((unhide Rbo).keep g.below)
      replace Rwa := hide ((unhide Rwa).keep g.below)
      replace HB := hide (below_via (unhide HB) g.below)
      have Ru1 := hide g.row
      clear g
      go_wp2_with fail
      refine (from_any _ (nz z0) w12 (unhide Rwa) (unhide Ln)).mono ?_
      rintro e w13 ⟨u2, rfl, g⟩
      replace A := hide ((unhide A).keep g.below)
      replace Rbo := hide ((unhide Rbo).keep g.below)
      replace Rwa := hide ((unhide Rwa).keep g.below)
      replace Ru1 := hide ((unhide Ru1).keep g.below)
      replace HB := hide (below_via (unhide HB) g.below)
      have Ru2 := hide g.row
      clear g
      have hF := hide (fsame_any _ _ (nz z0) (nz z0) w13 (unhide Ru1) (unhide Ru2))
      rw [sameF_refl] at hF
      go_wp2_with fail
      refine (unhide hF).mono ?_
      rintro e w14 ⟨rfl, n14, rfl⟩
      replace A := hide ((unhide A).later (w' := w13.drewN n14) (fun _ _ h => h))
      replace Rbo := hide ((unhide Rbo).later (w' := w13.drewN n14) (fun _ _ h => h))
      replace Rwa := hide ((unhide Rwa).later (w' := w13.drewN n14) (fun _ _ h => h))
      replace Ru1 := hide ((unhide Ru1).later (w' := w13.drewN n14) (fun _ _ h => h))
      replace Ru2 := hide ((unhide Ru2).later (w' := w13.drewN n14) (fun _ _ h => h))
      replace HB := hide (below_drewN (unhide HB) n14)
      clear hF
      generalize w13.drewN n14 = v14 at *
      clear Ru1 Ru2 Rbo Rwa
      go_wp2_with fail
      refine (to_any _ z0 v14 (unhide A) (unhide LA)).mono ?_
      rintro e w15 ⟨x, rfl, g⟩
      replace A := hide ((unhide A).keep g.below)
      replace HB := hide (below_via (unhide HB) g.below)
      have Rx := hide g.row
      clear g
      have Rd : Hid (Row (w15.alloc (.cells #[.int .i64 3652059] 3)) (.slice (some ⟨w15.heap.size, 0, none⟩) 1 1) [3652059]) := hide (row_lit w15 3 [3652059] (by decide) (by decide) (by intro z hz; simp at hz; subst hz; exact ⟨by omega, by omega⟩))
      replace A := hide ((unhide A).alloc (.cells #[.int .i64 3652059] 3))
      replace Rx := hide ((unhide Rx).alloc (.cells #[.int .i64 3652059] 3))
      replace HB := hide (below_new2 (unhide HB) (.cells #[.int .i64 3652059] 3))
      have hSp := hide (spread_all _ _ z0 [3652059] _ (unhide Rx) (unhide Rd))
      unfold SpreadA at hSp
      rw [(unhide hs).1, (unhide hs).2] at hSp
      clear hs Rx Rd
      go_wp2_with fail
      refine (unhide hSp).mono ?_
      rintro e w16 ⟨sv, rfl, r, b⟩
      replace A := hide ((unhide A).keep b)
      replace HB := hide (below_via (unhide HB) b)
      have Rs := hide r
      clear r b hSp
      go_wp2_with fail
      refine (to_any _ z0 w16 (unhide A) (unhide LA)).mono ?_
      rintro e w17 ⟨x, rfl, g⟩
      replace A := hide ((unhide A).keep g.below)
      replace Rs := hide ((unhide Rs).below g.below (Nat.le_refl _))
      replace HB := hide (below_via (unhide HB) g.below)
      have Rx := hide g.row
      clear g
      go_wp2_with fail
      refine (total_ok _ z0 w17 (unhide Rx) (unhide LA) (unhide hc)).mono ?_
      rintro e w18 ⟨rfl, b⟩
      replace A := hide ((unhide A).keep b)
      replace Rs := hide ((unhide Rs).below b (Nat.le_refl _))
      replace Rx := hide ((unhide Rx).keep b)
      replace HB := hide (below_via (unhide HB) b)
      clear b
      clear Rx A
      have hM := hide (rmay_of (a := tot z0) (unhide hy) w18)
      generalize tot z0 = t at *
      clear hy
      obtain ⟨sa, sc, es⟩ := row_slice (unhide Rs)
      subst es
      go_wp2_with fail
      refine (unhide hM).mono ?_
      rintro e wZ ⟨rfl, rfl⟩
      go_wp2_with fail
      go_ret
      exact ⟨rfl, unhide HB⟩
theorem walk (a0 : Option Addr) (l0 c0 : Nat) (z0 : List (Int × Int)) (D : Int) (w : World) (h0 : RowF w (.slice a0 l0 c0) z0) (_hD : (Lit.int .i64 D).wf = true) : Calls Try.prog 6 #[.slice a0 l0 c0, .int .i64 D] w fun e w' => e = .returned (.bool true) ∧ Below w.heap.size w w' := by
  have hal := hide alive_any
  have e0 := rowF_len h0
  by_cases q0 : (200 : Int) < (l0 : Int)
  · exact l_1 a0 l0 c0 D (decide_eq_true q0) hal w
  · have LA : z0.length ≤ 1000 := by omega
    by_cases h : chkE z0 = 0
    · have hr := (chk_ok (chkE_ok h).2).1
      cases hy : may (tot z0) with
      | true => exact main_yes a0 l0 c0 z0 D (decide_eq_false q0) hal w (hide h0) (hide LA) (hide h) (hide (parts_whole hr)) (hide (mE_parts D h)) (hide (mE_alone h)) (hide (fun f hf => (upto_mem f hf).2)) (hide ((sE_whole h).1 hy)) (hide (Nat.le_trans (upto_len D z0) LA)) (hide (Nat.le_trans (behind_len D z0) LA)) (hide (Nat.le_trans (nz_len z0) LA))
      | false => exact main_over a0 l0 c0 z0 D (decide_eq_false q0) hal w (hide h0) (hide LA) (hide h) (hide (parts_whole hr)) (hide (mE_parts D h)) (hide (mE_alone h)) (hide (fun f hf => (upto_mem f hf).2)) (hide ((sE_whole h).2 hy)) (hide hy) (hide (Nat.le_trans (upto_len D z0) LA)) (hide (Nat.le_trans (behind_len D z0) LA)) (hide (Nat.le_trans (nz_len z0) LA))
    · exact l_2 a0 l0 c0 z0 D (decide_eq_false q0) hal w (hide h0) (hide LA) (hide h)
theorem own : ownKnob Try.prog.godebug = none := by kernel_rfl
theorem laidOut : laidOutB Try.prog = true := by kernel_rfl
set_option linter.unusedVariables false in
set_option maxRecDepth 100000 in
theorem lifted (os : Os) (started : os.Started) (H : Type) (enc : TypeId × Value → H) :
    ReturnsInHanded {} Try.checked os 6 .any (Rows.flowPartsSpec.pre6 enc Try.prog Try.f6 Rows.flowPartsRow.domain false) (Rows.flowPartsSpec.post enc Try.prog Try.f6 false true false false) := by
  refine returnsInHanded_of_change (C := Try.checked) own started (by kernel_rfl) Try.func6
    (ChangeSpec.witness6 (enc := enc) (C := Try.checked) false ⟨#[], #[.slice none 0 0, .int .i64 0], []⟩ 8 (by kernel_rfl) (by kernel_rfl) (by kernel_rfl) (by kernel_rfl)) ?_
  intro W base args ds gs before hval0 hW hcnd _
  have hval : ∀ (j : Nat) t v, Try.f6.params[j]? = some t → args[j]? = some v → Value.okWide Try.prog W .any base t v := hval0
  have hW' := hW
  obtain ⟨p, q, hA0, hV, rfl, hfz, hnd⟩ := hW
  have hA : DataW.TrodAll enc Try.prog W 0 (fun _ => true) true Try.f6.params.toList args.toList ds p := hA0
  rw [Try.params6] at hA hval
  obtain ⟨v0, vs0, d0, ds0, p0, q0, hargs, rfl, rfl, h0, r0⟩ := trodAll_cons hA
  obtain ⟨v1, vs1, d1, ds1, p1, q1, rfl, rfl, rfl, h1, r1⟩ := trodAll_cons r0
  obtain ⟨rfl, rfl, rfl⟩ := trodAll_nil r1
  obtain rfl : args = #[v0, v1] := by cases args; simp_all
  obtain ⟨rfl, rfl⟩ := trodVars_none hV
  obtain ⟨a0, len0, cap0, rfl⟩ := okWide_slice Try.underlying22 (hval 0 22 v0 rfl rfl)
  have k0 := h0
  have lt0 : ∀ x ∈ p0, x.block < W.heap.size := by obtain ⟨m, hm⟩ := k0; exact DataW.trod_lt m _ _ _ hm
  obtain ⟨z0, w0⟩ : ∃ l : List (Int × Int), RowF W (.slice a0 len0 cap0) l := by
    obtain ⟨fuel, hf⟩ := h0
    exact rowF_open Try.underlying22 Try.underlying40 (by kernel_rfl) rfl rfl (by kernel_rfl) (by kernel_rfl) Try.underlying3 Try.underlying2 hf
  obtain ⟨a1, rfl, rfl, rfl, w1⟩ := open_int Try.underlying3 (hval 1 3 v1 rfl rfl) h1
  clear hA0 hval0
  refine (walk a0 len0 cap0 z0 a1 W w0 w1).mono fun e W' ⟨he, bel⟩ => ?_
  subst he
  exact ⟨_, rfl, _, _, _, [], _, [], hW', trodAll_mk1 (shut_bool Try.underlying4 _), (trodAll_cons_mk (Below.trod laidOut (by kernel_rfl) (of_decide_eq_true (by kernel_rfl)) k0 bel lt0) (trodAll_cons_mk (shut_int Try.underlying3 w1) trodAll_mk0)), rfl, bel.frame _, fun h => by cases h⟩
theorem over : Rows.flowPartsRow.holds Try.pinned (OpenSpec.ofChange Rows.flowPartsSpec) :=
  OpenClaim.holds_of_wide 6 Try.f6 rfl rfl rfl rfl rfl rfl rfl ⟨rfl, rfl, rfl, rfl, rfl⟩ rfl rfl rfl rfl rfl (by kernel_rfl) Try.func6 (by kernel_rfl)
    (of_decide_eq_true (by kernel_rfl)) (by unfold Func.isWrapper; first | (rw [if_pos (by decide +kernel)]; kernel_rfl) | (rw [if_neg (by decide +kernel)]; exact ⟨rfl, rfl⟩))
    (fun os started H enc _ => lifted os started H enc)
/-- The statement. -/
theorem proved : Rows.FlowPartsSaid := over
#print axioms proved
end Go.Proofs.Ytkjbkppjebljpaa.flowParts
namespace Go.Proofs.Ytkjbkppjebljpaa
theorem flowParts_holds : Rows.FlowPartsSaid := flowParts.proved
end Go.Proofs.Ytkjbkppjebljpaa
