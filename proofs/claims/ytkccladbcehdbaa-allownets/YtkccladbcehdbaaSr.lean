/- A stage's row, of all that was put. -/
import Derived.Test.YtkccladbcehdbaaEn
import Derived.Deep.RegionHeld3
namespace Go.Proofs.Ytkccladbcehdbaa
open Go.RowKit
set_option linter.unusedVariables false
set_option linter.unusedSimpArgs false
theorem storeO_blk {op : Oper} {a : Act} {w : World} {K : Act → World → Prop} {Q : Exit → Act → World → Prop} (ty : TypeId) (x y : Operand) (ho : op.op = .store ty x y) {b : Nat} {T : TypeId} {old cells : Array Value} (hB : Blk w b old T) (hx : a.eval x = .pointer (some ⟨b, 0, none⟩)) (hy : a.eval y = .agg cells) {n : Nat} (hi : (Try.prog.info? ty).map (·.size) = some n) (ho' : old.size = n) (hn : cells.size = n) (h1 : cells.toList.all Value.oneCell' = true)
    (h : ∀ W, Blk W b cells T → Past w W b → K (a.put op.dst undef) W) : op.wp Try.prog a w K Q :=
  wp_store_mid ty x y ho b 0 cells hx hy (hB.there (ho'.trans hn.symm)) (hi.trans (by rw [hn])) (all_oneCell_toArray (cs := cells.toList) (fun v hv => List.all_eq_true.1 h1 v hv)) (h _ (by have k := blk_setCells cells.toList 0 hB; rw [sets_all (ho'.trans hn.symm)] at k; exact k) (past_setCells _ _ _))
theorem size26 : (Try.prog.info? 26).map (·.size) = some 6 := by kernel_rfl
theorem row26 : isRowB Try.prog 26 = true := by kernel_rfl
theorem size27 : (Try.prog.info? 27).map (·.size) = some 18 := by kernel_rfl
theorem row27 : isRowB Try.prog 27 = true := by kernel_rfl
theorem bd56 (s c : Int) (w : World) : Sem.run Try.prog (Instr.build 56 #[(0, .int .i64 s), (1, .int .i64 c)]) w = .ok (ky s c) w := by kernel_rfl
theorem bd26 (a b c d e : Int) (w : World) : Sem.run Try.prog (Instr.build 26 #[(0, .int .i64 a), (1, .int .i64 b), (2, .int .i64 c), (3, .int .i64 d), (4, .int .i64 e)]) w = .ok (.agg #[.int .i64 a, .int .i64 b, .int .i64 c, .int .i64 d, .int .i64 e, .int .i64 0]) w := by kernel_rfl
theorem below_keep {B : Nat} {w W W' : World} (h : Below B w W) (k : Below W.heap.size W W') (hB : B ≤ W.heap.size) : Below B w W' := h.trans (k.mono hB)
set_option maxHeartbeats 4000000 in
theorem sr_any (w : World) (b : Nat) (f : Int → Int → Int) (s o z : Int) (hm : MapAt w b f) (hs : In64 s) (hz : Hid (endN o (f s 0) (f s 1) (f s 2) (f s 3) = z)) (hE : Hid (∀ w : World, Calls Try.prog 27 #[.agg #[.int .i64 o, .int .i64 (f s 0), .int .i64 (f s 1), .int .i64 (f s 2), .int .i64 (f s 3), .int .i64 0]] w fun e w' => e = .returned (.tuple #[.int .i64 (endN o (f s 0) (f s 1) (f s 2) (f s 3)), .int .i64 (endE o (f s 0) (f s 1) (f s 2) (f s 3))]) ∧ Below w.heap.size w w')) :
    Calls Try.prog 21 #[.int .i64 s, .int .i64 o, .map (some b)] w fun e w' => e = .returned (.agg #[.int .i64 o, .int .i64 (f s 0), .int .i64 (f s 1), .int .i64 (f s 2), .int .i64 (f s 3), .int .i64 z]) ∧ Below w.heap.size w w' := by
  have HL := hide (below1 w (.cells #[.int .i64 0, .int .i64 0, .int .i64 0, .int .i64 0, .int .i64 0, .int .i64 0] 26))
  have HR := hide (Blk.new w #[.int .i64 0, .int .i64 0, .int .i64 0, .int .i64 0, .int .i64 0, .int .i64 0] 26)
  have HM := hide (hm.alloc (.cells #[.int .i64 0, .int .i64 0, .int .i64 0, .int .i64 0, .int .i64 0, .int .i64 0] 26))
  replace hs := hide hs
  clear hm
  go_enter Try.func21, Try.ntmps21
  go_wp2_with fail
  generalize w.alloc (.cells #[.int .i64 0, .int .i64 0, .int .i64 0, .int .i64 0, .int .i64 0, .int .i64 0] 26) = W0 at *
  generalize hrb : w.heap.size = rb at *
  refine wp_region_held_drew (S := fun W => Below W0.heap.size W0 W) (by kernel_rfl) (Below.refl _ _).drew (fun hS => ?_)
  generalize hV : W0.drew = V0 at *
  clear hV
  refine wpAnyH_take (i := 0) (v := .int .i64 o) rfl (by kernel_rfl) (by kernel_rfl) (by kernel_rfl) (fun _ _ _ h => h) (Or.inl ⟨by rfl, fun W hS => by go_simp⟩) hS ?_
  refine wpAnyH_take (i := 1) (v := .map (some b)) rfl (by kernel_rfl) (by kernel_rfl) (by kernel_rfl) (fun _ _ _ h => h) (Or.inl ⟨by rfl, fun W hS => by go_simp⟩) hS ?_
  refine wpAnyH_take (i := 2) (v := .int .i64 s) rfl (by kernel_rfl) (by kernel_rfl) (by kernel_rfl) (fun _ _ _ h => h) (Or.inl ⟨by rfl, fun W hS => by go_simp⟩) hS ?_
  refine wpAnyH_take (i := 3) (v := ky s 0) rfl (by kernel_rfl) (by kernel_rfl) (by kernel_rfl) (fun _ _ _ h => h) (Or.inl ⟨by rfl, fun W hS => by have f1 := bd56 s 0 W; go_simp⟩) hS ?_
  refine wpAnyH_take (i := 4) (v := .int .i64 (f s 0)) rfl (by kernel_rfl) (by kernel_rfl) (by kernel_rfl) (fun _ _ _ h => h) (Or.inl ⟨by rfl, fun W hS => by have f1 := look_run ((show MapAt _ _ _ from unhide HM).keep hS) (show In64 s from unhide hs) in_0; go_simp⟩) hS ?_
  refine wpAnyH_take (i := 5) (v := .map (some b)) rfl (by kernel_rfl) (by kernel_rfl) (by kernel_rfl) (fun _ _ _ h => h) (Or.inl ⟨by rfl, fun W hS => by go_simp⟩) hS ?_
  refine wpAnyH_take (i := 6) (v := .int .i64 s) rfl (by kernel_rfl) (by kernel_rfl) (by kernel_rfl) (fun _ _ _ h => h) (Or.inl ⟨by rfl, fun W hS => by go_simp⟩) hS ?_
  refine wpAnyH_take (i := 7) (v := ky s 1) rfl (by kernel_rfl) (by kernel_rfl) (by kernel_rfl) (fun _ _ _ h => h) (Or.inl ⟨by rfl, fun W hS => by have f1 := bd56 s 1 W; go_simp⟩) hS ?_
  refine wpAnyH_take (i := 8) (v := .int .i64 (f s 1)) rfl (by kernel_rfl) (by kernel_rfl) (by kernel_rfl) (fun _ _ _ h => h) (Or.inl ⟨by rfl, fun W hS => by have f1 := look_run ((show MapAt _ _ _ from unhide HM).keep hS) (show In64 s from unhide hs) in_1; go_simp⟩) hS ?_
  refine wpAnyH_take (i := 9) (v := .map (some b)) rfl (by kernel_rfl) (by kernel_rfl) (by kernel_rfl) (fun _ _ _ h => h) (Or.inl ⟨by rfl, fun W hS => by go_simp⟩) hS ?_
  refine wpAnyH_take (i := 10) (v := .int .i64 s) rfl (by kernel_rfl) (by kernel_rfl) (by kernel_rfl) (fun _ _ _ h => h) (Or.inl ⟨by rfl, fun W hS => by go_simp⟩) hS ?_
  refine wpAnyH_take (i := 11) (v := ky s 2) rfl (by kernel_rfl) (by kernel_rfl) (by kernel_rfl) (fun _ _ _ h => h) (Or.inl ⟨by rfl, fun W hS => by have f1 := bd56 s 2 W; go_simp⟩) hS ?_
  refine wpAnyH_take (i := 12) (v := .int .i64 (f s 2)) rfl (by kernel_rfl) (by kernel_rfl) (by kernel_rfl) (fun _ _ _ h => h) (Or.inl ⟨by rfl, fun W hS => by have f1 := look_run ((show MapAt _ _ _ from unhide HM).keep hS) (show In64 s from unhide hs) in_2; go_simp⟩) hS ?_
  refine wpAnyH_take (i := 13) (v := .map (some b)) rfl (by kernel_rfl) (by kernel_rfl) (by kernel_rfl) (fun _ _ _ h => h) (Or.inl ⟨by rfl, fun W hS => by go_simp⟩) hS ?_
  refine wpAnyH_take (i := 14) (v := .int .i64 s) rfl (by kernel_rfl) (by kernel_rfl) (by kernel_rfl) (fun _ _ _ h => h) (Or.inl ⟨by rfl, fun W hS => by go_simp⟩) hS ?_
  refine wpAnyH_take (i := 15) (v := ky s 3) rfl (by kernel_rfl) (by kernel_rfl) (by kernel_rfl) (fun _ _ _ h => h) (Or.inl ⟨by rfl, fun W hS => by have f1 := bd56 s 3 W; go_simp⟩) hS ?_
  refine wpAnyH_take (i := 16) (v := .int .i64 (f s 3)) rfl (by kernel_rfl) (by kernel_rfl) (by kernel_rfl) (fun _ _ _ h => h) (Or.inl ⟨by rfl, fun W hS => by have f1 := look_run ((show MapAt _ _ _ from unhide HM).keep hS) (show In64 s from unhide hs) in_3; go_simp⟩) hS ?_
  refine wpAnyH_take (i := 17) (v := .agg #[.int .i64 o, .int .i64 (f s 0), .int .i64 (f s 1), .int .i64 (f s 2), .int .i64 (f s 3), .int .i64 0]) rfl (by kernel_rfl) (by kernel_rfl) (by kernel_rfl) (fun _ _ _ h => h) (Or.inl ⟨by rfl, fun W hS => by have f1 := bd26 o (f s 0) (f s 1) (f s 2) (f s 3) W; go_simp⟩) hS ?_
  refine wpAnyH_all (rs := [18]) (by kernel_rfl) (by simp) (AllReadyH.cons (i := 18) rfl (fun KK hK => ?_) AllReadyH.nil)
  rw [if_pos (by rfl)]
  have lt := hide hS.size
  have hS1 := hide (below_keep hS (below1 V0 (.cells #[.int .i64 0, .int .i64 0, .int .i64 0, .int .i64 0, .int .i64 0, .int .i64 0] 26)) hS.size)
  have HN := hide (Blk.new V0 #[.int .i64 0, .int .i64 0, .int .i64 0, .int .i64 0, .int .i64 0, .int .i64 0] 26)
  clear hS
  go_wp2_with fail
  refine hK.out _ _ (unhide hS1) (fun hS => ?_)
  clear hK hS1
  generalize V0.alloc (.cells #[.int .i64 0, .int .i64 0, .int .i64 0, .int .i64 0, .int .i64 0, .int .i64 0] 26) = V1 at *
  generalize V0.heap.size = nb at *
  refine wpAnyH_all (rs := [19]) (by kernel_rfl) (by simp) (AllReadyH.cons (i := 19) rfl (fun KK hK => ?_) AllReadyH.nil)
  rw [if_pos (by rfl)]
  refine storeO_blk 26 _ _ rfl (show Blk _ _ _ _ from unhide HN) rfl rfl size26 rfl rfl rfl ?_
  intro V2 k2 kp
  have hS1 := hide (kp.bel (unhide lt) hS)
  clear hS HN kp
  refine hK.out _ _ (unhide hS1) (fun hS => ?_)
  clear hK hS1
  refine wpAnyH_done (by kernel_rfl) ?_ _
  have HX := hide k2
  have l1 := (unhide HR).lt
  replace HR := hide ((unhide HR).keep hS)
  replace HL := hide (below_keep (unhide HL) hS (by have := (unhide HL).size; omega))
  clear k2 hS HM hs
  go_wp2_with (refine load_blk rfl 26 _ rfl (show Blk _ _ _ _ from unhide HX) rfl row26 size26 rfl ?_)
  refine (unhide hE _).mono ?_
  rintro e w3 ⟨rfl, hb⟩
  replace HX := hide ((show Blk _ _ _ _ from unhide HX).keep hb)
  replace HR := hide ((show Blk _ _ _ _ from unhide HR).keep hb)
  have l2 := hb.size
  have l3 := (unhide HL).size
  replace HL := hide (below_keep (unhide HL) hb (by omega))
  have c5 := (show Blk _ _ _ _ from unhide HX).at 5 (.int .i64 0) rfl
  have f5 := (show Blk _ _ _ _ from unhide HX).fz 5
  rw [unhide hz]
  have hne : rb ≠ nb := by have := unhide lt; omega
  have lt2 : rb ≤ nb := by have := unhide lt; omega
  have HX2 : Hid (Blk (w3.setCell ⟨nb, 5, none⟩ (.int .i64 z)) nb #[.int .i64 o, .int .i64 (f s 0), .int .i64 (f s 1), .int .i64 (f s 2), .int .i64 (f s 3), .int .i64 z] 26) := hide ((show Blk _ _ _ _ from unhide HX).set 5 (.int .i64 z))
  have HR2 := hide ((show Blk _ _ _ _ from unhide HR).other hne 5 (.int .i64 z))
  have HL2 := hide ((unhide HL).setCell (p := ⟨nb, 5, none⟩) (by first | exact lt2 | omega) (.int .i64 z))
  clear hb hE HX HR HL hz lt
  go_wp2_with (first | refine load_blk rfl 26 _ rfl (show Blk _ _ _ _ from unhide HX2) rfl row26 size26 rfl ?_ | refine store_blk rfl 26 _ _ rfl (show Blk _ _ _ _ from unhide HR2) rfl rfl size26 rfl rfl rfl ?_)
  intro V5 k5 kp
  have k6 := kp.bel (by omega) (unhide HL2)
  clear kp HX2 HR2 HL2
  go_wp2_with fail
  exact bodyPost_ret (v := .agg #[.int .i64 o, .int .i64 (f s 0), .int .i64 (f s 1), .int .i64 (f s 2), .int .i64 (f s 3), .int .i64 z]) (res_c (cs0 := #[.int .i64 o, .int .i64 (f s 0), .int .i64 (f s 1), .int .i64 (f s 2), .int .i64 (f s 3), .int .i64 z]) rfl k5 row26 size26 rfl rfl) rfl ⟨rfl, by rw [hrb]; exact k6⟩
end Go.Proofs.Ytkccladbcehdbaa
