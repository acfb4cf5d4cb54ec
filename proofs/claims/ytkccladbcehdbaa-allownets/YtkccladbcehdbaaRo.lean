/- Roll, whole. -/
import Derived.Test.YtkccladbcehdbaaRp
namespace Go.Proofs.Ytkccladbcehdbaa
open Go.RowKit
set_option linter.unusedVariables false
set_option linter.unusedSimpArgs false
theorem MapAt.past {w W : World} {b m : Nat} {f : Int → Int → Int} (h : MapAt w m f) (k : Past w W b) (hlt : m < b) : MapAt W m f := by
  obtain ⟨es, clock, h1, h2⟩ := h
  exact ⟨es, clock, ((k.bel (Nat.le_refl b) (Below.refl b w)).block m hlt).trans h1, h2⟩
theorem store_at {ops : Array Oper} {rest : List Oper} {op : Oper} {a : Act} {w : World} {Q : Exit → Act → World → Prop} (hgd : op.guard = none) (ty : TypeId) (x y : Operand) (ho : op.op = .store ty x y) {b k : Nat} {T : TypeId} {old cells new : Array Value} (hB : Blk w b old T) (hx : a.eval x = .pointer (some ⟨b, k, none⟩)) (hy : a.eval y = .agg cells) {n : Nat} (hi : (Try.prog.info? ty).map (·.size) = some n) (hn : cells.size = n) (hk : k + n ≤ old.size) (h1 : cells.toList.all (·.oneCell') = true) (hnew : setsN old k cells.toList = new)
    (h : ∀ W, Blk W b new T → Past w W b → wpList Try.prog ops Q rest (a.put op.dst undef) W) : wpList Try.prog ops Q (op :: rest) a w :=
  wpList_store_mid hgd ty x y ho b k cells hx hy (fun j hj => by
    rw [cell_of_row w b (k + j) _ _ _ hB, Array.getElem?_eq_getElem (by omega)]
    exact ⟨rfl, hB.fz _⟩) (hi.trans (by rw [hn])) (all_oneCell_toArray (cs := cells.toList) (fun v hv => List.all_eq_true.1 h1 v hv)) (h _ (by have q := blk_setCells cells.toList k hB; rw [hnew] at q; exact q) (past_setCells _ _ _))
theorem ro_full (a b c : Int) (x : Option Addr) (n cap : Nat) (d1 : decide ((4096 : Int) < (n : Int)) = true) (w : World) : Calls Try.prog 10 #[.agg #[.int .i64 a, .int .i64 b, .int .i64 c], .slice x n cap] w fun q w' => q = .returned (.tuple #[.agg #[.int .i64 0, .int .i64 0, .int .i64 0, .int .i64 0, .int .i64 0, .int .i64 0, .int .i64 0, .int .i64 0, .int .i64 0, .int .i64 0, .int .i64 0, .int .i64 0, .int .i64 0, .int .i64 0, .int .i64 0, .int .i64 0, .int .i64 0, .int .i64 0], .int .i64 10]) ∧ Below w.heap.size w w' := by
  have HL : Hid (Below w.heap.size w ((w.alloc (.cells #[.int .i64 a, .int .i64 b, .int .i64 c] 22)).alloc (.cells #[.int .i64 0, .int .i64 0, .int .i64 0, .int .i64 0, .int .i64 0, .int .i64 0, .int .i64 0, .int .i64 0, .int .i64 0, .int .i64 0, .int .i64 0, .int .i64 0, .int .i64 0, .int .i64 0, .int .i64 0, .int .i64 0, .int .i64 0, .int .i64 0] 27))) := hide (below_via (below1 w _) (below1 _ _))
  have HO : Hid (Blk ((w.alloc (.cells #[.int .i64 a, .int .i64 b, .int .i64 c] 22)).alloc (.cells #[.int .i64 0, .int .i64 0, .int .i64 0, .int .i64 0, .int .i64 0, .int .i64 0, .int .i64 0, .int .i64 0, .int .i64 0, .int .i64 0, .int .i64 0, .int .i64 0, .int .i64 0, .int .i64 0, .int .i64 0, .int .i64 0, .int .i64 0, .int .i64 0] 27)) w.heap.size #[.int .i64 a, .int .i64 b, .int .i64 c] 22) := hide ((Blk.new w _ _).alloc _)
  have HR : Hid (Blk ((w.alloc (.cells #[.int .i64 a, .int .i64 b, .int .i64 c] 22)).alloc (.cells #[.int .i64 0, .int .i64 0, .int .i64 0, .int .i64 0, .int .i64 0, .int .i64 0, .int .i64 0, .int .i64 0, .int .i64 0, .int .i64 0, .int .i64 0, .int .i64 0, .int .i64 0, .int .i64 0, .int .i64 0, .int .i64 0, .int .i64 0, .int .i64 0] 27)) (w.heap.size + 1) #[.int .i64 0, .int .i64 0, .int .i64 0, .int .i64 0, .int .i64 0, .int .i64 0, .int .i64 0, .int .i64 0, .int .i64 0, .int .i64 0, .int .i64 0, .int .i64 0, .int .i64 0, .int .i64 0, .int .i64 0, .int .i64 0, .int .i64 0, .int .i64 0] 27) := hide (by have := Blk.new (w.alloc (.cells #[.int .i64 a, .int .i64 b, .int .i64 c] 22)) #[.int .i64 0, .int .i64 0, .int .i64 0, .int .i64 0, .int .i64 0, .int .i64 0, .int .i64 0, .int .i64 0, .int .i64 0, .int .i64 0, .int .i64 0, .int .i64 0, .int .i64 0, .int .i64 0, .int .i64 0, .int .i64 0, .int .i64 0, .int .i64 0] 27; simpa using this)
  clear HO
  go_enter Try.func10, Try.ntmps10
  go_wp2_with (refine store_blk rfl 27 _ _ rfl (show Blk _ _ _ _ from unhide HR) rfl rfl size27 rfl rfl rfl ?_)
  intro W1 k1 kp
  have k2 := kp.bel (by omega) (unhide HL)
  clear kp HR HL
  go_wp2_with fail
  exact bodyPost_ret (v := .tuple #[.agg #[.int .i64 0, .int .i64 0, .int .i64 0, .int .i64 0, .int .i64 0, .int .i64 0, .int .i64 0, .int .i64 0, .int .i64 0, .int .i64 0, .int .i64 0, .int .i64 0, .int .i64 0, .int .i64 0, .int .i64 0, .int .i64 0, .int .i64 0, .int .i64 0], .int .i64 10]) (res_ct (cs0 := #[.int .i64 0, .int .i64 0, .int .i64 0, .int .i64 0, .int .i64 0, .int .i64 0, .int .i64 0, .int .i64 0, .int .i64 0, .int .i64 0, .int .i64 0, .int .i64 0, .int .i64 0, .int .i64 0, .int .i64 0, .int .i64 0, .int .i64 0, .int .i64 0]) rfl k1 row27 size27 rfl rfl rfl) rfl ⟨rfl, k2⟩
theorem ro_no (a b c : Int) (x : Option Addr) (n cap : Nat) (l : List Ch) (d1 : decide ((4096 : Int) < (n : Int)) = false) (hm : l.length ≤ 4096) (w : World) (hR : RowG 5 w (.slice x n cap) (l.map chL)) (hq : mayB a b c l = false) : Calls Try.prog 10 #[.agg #[.int .i64 a, .int .i64 b, .int .i64 c], .slice x n cap] w fun q w' => q = .returned (.tuple #[.agg #[.int .i64 0, .int .i64 0, .int .i64 0, .int .i64 0, .int .i64 0, .int .i64 0, .int .i64 0, .int .i64 0, .int .i64 0, .int .i64 0, .int .i64 0, .int .i64 0, .int .i64 0, .int .i64 0, .int .i64 0, .int .i64 0, .int .i64 0, .int .i64 0], .int .i64 2]) ∧ Below w.heap.size w w' := by
  have HL : Hid (Below w.heap.size w ((w.alloc (.cells #[.int .i64 a, .int .i64 b, .int .i64 c] 22)).alloc (.cells #[.int .i64 0, .int .i64 0, .int .i64 0, .int .i64 0, .int .i64 0, .int .i64 0, .int .i64 0, .int .i64 0, .int .i64 0, .int .i64 0, .int .i64 0, .int .i64 0, .int .i64 0, .int .i64 0, .int .i64 0, .int .i64 0, .int .i64 0, .int .i64 0] 27))) := hide (below_via (below1 w _) (below1 _ _))
  have HO : Hid (Blk ((w.alloc (.cells #[.int .i64 a, .int .i64 b, .int .i64 c] 22)).alloc (.cells #[.int .i64 0, .int .i64 0, .int .i64 0, .int .i64 0, .int .i64 0, .int .i64 0, .int .i64 0, .int .i64 0, .int .i64 0, .int .i64 0, .int .i64 0, .int .i64 0, .int .i64 0, .int .i64 0, .int .i64 0, .int .i64 0, .int .i64 0, .int .i64 0] 27)) w.heap.size #[.int .i64 a, .int .i64 b, .int .i64 c] 22) := hide ((Blk.new w _ _).alloc _)
  have HR : Hid (Blk ((w.alloc (.cells #[.int .i64 a, .int .i64 b, .int .i64 c] 22)).alloc (.cells #[.int .i64 0, .int .i64 0, .int .i64 0, .int .i64 0, .int .i64 0, .int .i64 0, .int .i64 0, .int .i64 0, .int .i64 0, .int .i64 0, .int .i64 0, .int .i64 0, .int .i64 0, .int .i64 0, .int .i64 0, .int .i64 0, .int .i64 0, .int .i64 0] 27)) (w.heap.size + 1) #[.int .i64 0, .int .i64 0, .int .i64 0, .int .i64 0, .int .i64 0, .int .i64 0, .int .i64 0, .int .i64 0, .int .i64 0, .int .i64 0, .int .i64 0, .int .i64 0, .int .i64 0, .int .i64 0, .int .i64 0, .int .i64 0, .int .i64 0, .int .i64 0] 27) := hide (by have := Blk.new (w.alloc (.cells #[.int .i64 a, .int .i64 b, .int .i64 c] 22)) #[.int .i64 0, .int .i64 0, .int .i64 0, .int .i64 0, .int .i64 0, .int .i64 0, .int .i64 0, .int .i64 0, .int .i64 0, .int .i64 0, .int .i64 0, .int .i64 0, .int .i64 0, .int .i64 0, .int .i64 0, .int .i64 0, .int .i64 0, .int .i64 0] 27; simpa using this)
  have HV := hide (fun w' (h : RowG 5 w' (.slice x n cap) (l.map chL)) => mr_any a b c _ l w' h hm)
  have HW : Hid (RowG 5 ((w.alloc (.cells #[.int .i64 a, .int .i64 b, .int .i64 c] 22)).alloc (.cells #[.int .i64 0, .int .i64 0, .int .i64 0, .int .i64 0, .int .i64 0, .int .i64 0, .int .i64 0, .int .i64 0, .int .i64 0, .int .i64 0, .int .i64 0, .int .i64 0, .int .i64 0, .int .i64 0, .int .i64 0, .int .i64 0, .int .i64 0, .int .i64 0] 27)) (.slice x n cap) (l.map chL)) := hide ((hR.alloc _).alloc _)
  clear hR hm
  go_enter Try.func10, Try.ntmps10
  go_wp2_with fail
  generalize (w.alloc (.cells #[.int .i64 a, .int .i64 b, .int .i64 c] 22)).alloc (.cells #[.int .i64 0, .int .i64 0, .int .i64 0, .int .i64 0, .int .i64 0, .int .i64 0, .int .i64 0, .int .i64 0, .int .i64 0, .int .i64 0, .int .i64 0, .int .i64 0, .int .i64 0, .int .i64 0, .int .i64 0, .int .i64 0, .int .i64 0, .int .i64 0] 27) = W0 at *
  refine (unhide HV _ (unhide HW)).mono ?_
  rintro e w1 ⟨rfl, hb⟩
  rw [hq]
  replace HO := hide ((show Blk _ _ _ _ from unhide HO).keep hb)
  replace HR := hide ((show Blk _ _ _ _ from unhide HR).keep hb)
  have hsz := (unhide HL).size
  replace HL := hide (below_via (unhide HL) hb)
  clear hb HV HW HO
  go_wp2_with (refine store_blk rfl 27 _ _ rfl (show Blk _ _ _ _ from unhide HR) rfl rfl size27 rfl rfl rfl ?_)
  intro W1 k1 kp
  have k2 := kp.bel (by omega) (unhide HL)
  clear kp HR HL
  go_wp2_with fail
  exact bodyPost_ret (v := .tuple #[.agg #[.int .i64 0, .int .i64 0, .int .i64 0, .int .i64 0, .int .i64 0, .int .i64 0, .int .i64 0, .int .i64 0, .int .i64 0, .int .i64 0, .int .i64 0, .int .i64 0, .int .i64 0, .int .i64 0, .int .i64 0, .int .i64 0, .int .i64 0, .int .i64 0], .int .i64 2]) (res_ct (cs0 := #[.int .i64 0, .int .i64 0, .int .i64 0, .int .i64 0, .int .i64 0, .int .i64 0, .int .i64 0, .int .i64 0, .int .i64 0, .int .i64 0, .int .i64 0, .int .i64 0, .int .i64 0, .int .i64 0, .int .i64 0, .int .i64 0, .int .i64 0, .int .i64 0]) rfl k1 row27 size27 rfl rfl rfl) rfl ⟨rfl, k2⟩
theorem sr_row (w : World) (m : Nat) (l : List Ch) (s o : Int) (hm : MapAt w m (putS l)) (hs : In64 s) (h : RwB (rwS l s o)) :
    Calls Try.prog 21 #[.int .i64 s, .int .i64 o, .map (some m)] w fun e w' => e = .returned (.agg (cells6 (rwS l s o))) ∧ Below w.heap.size w w' := by
  obtain ⟨⟨a1, a2⟩, ⟨b1, b2⟩, ⟨c1, c2⟩, ⟨d1, d2⟩, ⟨e1, e2⟩, _⟩ := id h
  exact sr_any w m (putS l) s o (rwS l s o).z hm hs (hide h.end_) (hide fun w => en_any _ _ _ _ _ _ ⟨by simp only [rwS] at a1 a2; omega, by simp only [rwS] at a1 a2; omega⟩ ⟨by simp only [rwS] at b1 b2; omega, by simp only [rwS] at b1 b2; omega⟩ ⟨by simp only [rwS] at c1 c2; omega, by simp only [rwS] at c1 c2; omega⟩ ⟨by simp only [rwS] at d1 d2; omega, by simp only [rwS] at d1 d2; omega⟩ ⟨by simp only [rwS] at e1 e2; omega, by simp only [rwS] at e1 e2; omega⟩ w)
set_option maxHeartbeats 4000000 in
theorem ro_yes (a b c : Int) (x : Option Addr) (n cap : Nat) (l : List Ch) (d1 : decide ((4096 : Int) < (n : Int)) = false) (hm : l.length ≤ 4096) (w : World) (hR : RowG 5 w (.slice x n cap) (l.map chL)) (hq : mayB a b c l = true) : Calls Try.prog 10 #[.agg #[.int .i64 a, .int .i64 b, .int .i64 c], .slice x n cap] w fun q w' => q = .returned (.tuple #[.agg (cells18 (rwS l 1 a) (rwS l 2 b) (rwS l 3 c)), .int .i64 0]) ∧ Below w.heap.size w w' := by
  have HL : Hid (Below w.heap.size w ((w.alloc (.cells #[.int .i64 a, .int .i64 b, .int .i64 c] 22)).alloc (.cells #[.int .i64 0, .int .i64 0, .int .i64 0, .int .i64 0, .int .i64 0, .int .i64 0, .int .i64 0, .int .i64 0, .int .i64 0, .int .i64 0, .int .i64 0, .int .i64 0, .int .i64 0, .int .i64 0, .int .i64 0, .int .i64 0, .int .i64 0, .int .i64 0] 27))) := hide (below_via (below1 w _) (below1 _ _))
  have HO : Hid (Blk ((w.alloc (.cells #[.int .i64 a, .int .i64 b, .int .i64 c] 22)).alloc (.cells #[.int .i64 0, .int .i64 0, .int .i64 0, .int .i64 0, .int .i64 0, .int .i64 0, .int .i64 0, .int .i64 0, .int .i64 0, .int .i64 0, .int .i64 0, .int .i64 0, .int .i64 0, .int .i64 0, .int .i64 0, .int .i64 0, .int .i64 0, .int .i64 0] 27)) w.heap.size #[.int .i64 a, .int .i64 b, .int .i64 c] 22) := hide ((Blk.new w _ _).alloc _)
  have HR : Hid (Blk ((w.alloc (.cells #[.int .i64 a, .int .i64 b, .int .i64 c] 22)).alloc (.cells #[.int .i64 0, .int .i64 0, .int .i64 0, .int .i64 0, .int .i64 0, .int .i64 0, .int .i64 0, .int .i64 0, .int .i64 0, .int .i64 0, .int .i64 0, .int .i64 0, .int .i64 0, .int .i64 0, .int .i64 0, .int .i64 0, .int .i64 0, .int .i64 0] 27)) (w.heap.size + 1) #[.int .i64 0, .int .i64 0, .int .i64 0, .int .i64 0, .int .i64 0, .int .i64 0, .int .i64 0, .int .i64 0, .int .i64 0, .int .i64 0, .int .i64 0, .int .i64 0, .int .i64 0, .int .i64 0, .int .i64 0, .int .i64 0, .int .i64 0, .int .i64 0] 27) := hide (by have := Blk.new (w.alloc (.cells #[.int .i64 a, .int .i64 b, .int .i64 c] 22)) #[.int .i64 0, .int .i64 0, .int .i64 0, .int .i64 0, .int .i64 0, .int .i64 0, .int .i64 0, .int .i64 0, .int .i64 0, .int .i64 0, .int .i64 0, .int .i64 0, .int .i64 0, .int .i64 0, .int .i64 0, .int .i64 0, .int .i64 0, .int .i64 0] 27; simpa using this)
  have HV := hide (fun w' (h : RowG 5 w' (.slice x n cap) (l.map chL)) => mr_any a b c _ l w' h hm)
  have HW : Hid (RowG 5 ((w.alloc (.cells #[.int .i64 a, .int .i64 b, .int .i64 c] 22)).alloc (.cells #[.int .i64 0, .int .i64 0, .int .i64 0, .int .i64 0, .int .i64 0, .int .i64 0, .int .i64 0, .int .i64 0, .int .i64 0, .int .i64 0, .int .i64 0, .int .i64 0, .int .i64 0, .int .i64 0, .int .i64 0, .int .i64 0, .int .i64 0, .int .i64 0] 27)) (.slice x n cap) (l.map chL)) := hide ((hR.alloc _).alloc _)
  have hq' := mayB_iff.1 hq
  obtain ⟨o1, o2, o3, hok⟩ := hq'
  have HG := hide (fun w' (h : RowG 5 w' (.slice x n cap) (l.map chL)) => gt_any _ l w' h hm hok)
  have HA := hide (rwS_bd hok hm o1 1)
  have HB := hide (rwS_bd hok hm o2 2)
  have HC := hide (rwS_bd hok hm o3 3)
  clear hR hm hok o1 o2 o3
  go_enter Try.func10, Try.ntmps10
  go_wp2_with fail
  generalize (w.alloc (.cells #[.int .i64 a, .int .i64 b, .int .i64 c] 22)).alloc (.cells #[.int .i64 0, .int .i64 0, .int .i64 0, .int .i64 0, .int .i64 0, .int .i64 0, .int .i64 0, .int .i64 0, .int .i64 0, .int .i64 0, .int .i64 0, .int .i64 0, .int .i64 0, .int .i64 0, .int .i64 0, .int .i64 0, .int .i64 0, .int .i64 0] 27) = W0 at *
  refine (unhide HV _ (unhide HW)).mono ?_
  rintro e w1 ⟨rfl, hb⟩
  rw [hq]
  replace HO := hide ((show Blk _ _ _ _ from unhide HO).keep hb)
  replace HR := hide ((show Blk _ _ _ _ from unhide HR).keep hb)
  have hsz := (unhide HL).size
  replace HL := hide (below_via (unhide HL) hb)
  have HW1 := hide ((show RowG _ _ _ _ from unhide HW).keep hb)
  clear hb HV HW hq
  go_wp2_with fail
  refine (unhide HG _ (unhide HW1)).mono ?_
  rintro e w2 ⟨m, rfl, hmm, hb⟩
  replace HO := hide ((show Blk _ _ _ _ from unhide HO).keep hb)
  replace HR := hide ((show Blk _ _ _ _ from unhide HR).keep hb)
  replace HL := hide (below_via (unhide HL) hb)
  have HM := hide hmm
  have hml := hmm.lt
  clear hb hmm HG HW1
  have HX := hide (Blk.new w2 #[.int .i64 0, .int .i64 0, .int .i64 0, .int .i64 0, .int .i64 0, .int .i64 0, .int .i64 0, .int .i64 0, .int .i64 0, .int .i64 0, .int .i64 0, .int .i64 0, .int .i64 0, .int .i64 0, .int .i64 0, .int .i64 0, .int .i64 0, .int .i64 0] 27)
  have hlt := (show Blk _ _ _ _ from unhide HR).lt
  replace HO := hide ((show Blk _ _ _ _ from unhide HO).alloc (.cells #[.int .i64 0, .int .i64 0, .int .i64 0, .int .i64 0, .int .i64 0, .int .i64 0, .int .i64 0, .int .i64 0, .int .i64 0, .int .i64 0, .int .i64 0, .int .i64 0, .int .i64 0, .int .i64 0, .int .i64 0, .int .i64 0, .int .i64 0, .int .i64 0] 27))
  replace HR := hide ((show Blk _ _ _ _ from unhide HR).alloc (.cells #[.int .i64 0, .int .i64 0, .int .i64 0, .int .i64 0, .int .i64 0, .int .i64 0, .int .i64 0, .int .i64 0, .int .i64 0, .int .i64 0, .int .i64 0, .int .i64 0, .int .i64 0, .int .i64 0, .int .i64 0, .int .i64 0, .int .i64 0, .int .i64 0] 27))
  replace HL := hide (below_via (unhide HL) (below1 w2 (.cells #[.int .i64 0, .int .i64 0, .int .i64 0, .int .i64 0, .int .i64 0, .int .i64 0, .int .i64 0, .int .i64 0, .int .i64 0, .int .i64 0, .int .i64 0, .int .i64 0, .int .i64 0, .int .i64 0, .int .i64 0, .int .i64 0, .int .i64 0, .int .i64 0] 27)))
  replace HM := hide ((show MapAt _ _ _ from unhide HM).alloc (.cells #[.int .i64 0, .int .i64 0, .int .i64 0, .int .i64 0, .int .i64 0, .int .i64 0, .int .i64 0, .int .i64 0, .int .i64 0, .int .i64 0, .int .i64 0, .int .i64 0, .int .i64 0, .int .i64 0, .int .i64 0, .int .i64 0, .int .i64 0, .int .i64 0] 27))
  go_wp2_with fail
  generalize w2.alloc (.cells #[.int .i64 0, .int .i64 0, .int .i64 0, .int .i64 0, .int .i64 0, .int .i64 0, .int .i64 0, .int .i64 0, .int .i64 0, .int .i64 0, .int .i64 0, .int .i64 0, .int .i64 0, .int .i64 0, .int .i64 0, .int .i64 0, .int .i64 0, .int .i64 0] 27) = V0 at *
  generalize hxb : w2.heap.size = xb at *
  refine wp_loop_rounds 4 ?_
  rw [rounds_succ]
  have c0 := (show Blk _ _ _ _ from unhide HO).at 0 (.int .i64 a) rfl
  go_wp2_with fail
  refine (sr_row _ m l 1 a (unhide HM) in_1 (unhide HA)).mono ?_
  rintro e w3 ⟨rfl, hb⟩
  replace HO := hide ((show Blk _ _ _ _ from unhide HO).keep hb)
  replace HR := hide ((show Blk _ _ _ _ from unhide HR).keep hb)
  replace HX := hide ((show Blk _ _ _ _ from unhide HX).keep hb)
  replace HM := hide ((show MapAt _ _ _ from unhide HM).keep hb)
  replace HL := hide (below_via (unhide HL) hb)
  clear hb c0
  go_wp2_with (refine store_at (new := #[.int .i64 (rwS l 1 a).o, .int .i64 (rwS l 1 a).i, .int .i64 (rwS l 1 a).u, .int .i64 (rwS l 1 a).n, .int .i64 (rwS l 1 a).x, .int .i64 (rwS l 1 a).z, .int .i64 0, .int .i64 0, .int .i64 0, .int .i64 0, .int .i64 0, .int .i64 0, .int .i64 0, .int .i64 0, .int .i64 0, .int .i64 0, .int .i64 0, .int .i64 0]) rfl 26 _ _ rfl (show Blk _ _ _ _ from unhide HX) rfl rfl size26 rfl (Nat.le_of_ble_eq_true rfl) rfl rfl ?_)
  intro V1 k1 kp
  have hne : w.heap.size + 1 < xb := by omega
  replace HO := hide (kp.blk (show w.heap.size ≠ xb by omega) (show Blk _ _ _ _ from unhide HO))
  replace HR := hide (kp.blk (show w.heap.size + 1 ≠ xb by omega) (show Blk _ _ _ _ from unhide HR))
  replace HM := hide ((show MapAt _ _ _ from unhide HM).past kp (show m < xb by omega))
  replace HL := hide (kp.bel (show w.heap.size ≤ xb by omega) (unhide HL))
  have HX := hide k1
  clear k1 kp hne
  go_wp2_with fail
  rw [rounds_succ]
  have c1 := (show Blk _ _ _ _ from unhide HO).at 1 (.int .i64 b) rfl
  go_wp2_with fail
  refine (sr_row _ m l 2 b (unhide HM) in_2 (unhide HB)).mono ?_
  rintro e w3 ⟨rfl, hb⟩
  replace HO := hide ((show Blk _ _ _ _ from unhide HO).keep hb)
  replace HR := hide ((show Blk _ _ _ _ from unhide HR).keep hb)
  replace HX := hide ((show Blk _ _ _ _ from unhide HX).keep hb)
  replace HM := hide ((show MapAt _ _ _ from unhide HM).keep hb)
  replace HL := hide (below_via (unhide HL) hb)
  clear hb c1
  go_wp2_with (refine store_at (new := #[.int .i64 (rwS l 1 a).o, .int .i64 (rwS l 1 a).i, .int .i64 (rwS l 1 a).u, .int .i64 (rwS l 1 a).n, .int .i64 (rwS l 1 a).x, .int .i64 (rwS l 1 a).z, .int .i64 (rwS l 2 b).o, .int .i64 (rwS l 2 b).i, .int .i64 (rwS l 2 b).u, .int .i64 (rwS l 2 b).n, .int .i64 (rwS l 2 b).x, .int .i64 (rwS l 2 b).z, .int .i64 0, .int .i64 0, .int .i64 0, .int .i64 0, .int .i64 0, .int .i64 0]) rfl 26 _ _ rfl (show Blk _ _ _ _ from unhide HX) rfl rfl size26 rfl (Nat.le_of_ble_eq_true rfl) rfl rfl ?_)
  intro V2 k1 kp
  have hne : w.heap.size + 1 < xb := by omega
  replace HO := hide (kp.blk (show w.heap.size ≠ xb by omega) (show Blk _ _ _ _ from unhide HO))
  replace HR := hide (kp.blk (show w.heap.size + 1 ≠ xb by omega) (show Blk _ _ _ _ from unhide HR))
  replace HM := hide ((show MapAt _ _ _ from unhide HM).past kp (show m < xb by omega))
  replace HL := hide (kp.bel (show w.heap.size ≤ xb by omega) (unhide HL))
  have HX := hide k1
  clear k1 kp hne
  go_wp2_with fail
  rw [rounds_succ]
  have c2 := (show Blk _ _ _ _ from unhide HO).at 2 (.int .i64 c) rfl
  go_wp2_with fail
  refine (sr_row _ m l 3 c (unhide HM) in_3 (unhide HC)).mono ?_
  rintro e w3 ⟨rfl, hb⟩
  replace HO := hide ((show Blk _ _ _ _ from unhide HO).keep hb)
  replace HR := hide ((show Blk _ _ _ _ from unhide HR).keep hb)
  replace HX := hide ((show Blk _ _ _ _ from unhide HX).keep hb)
  replace HM := hide ((show MapAt _ _ _ from unhide HM).keep hb)
  replace HL := hide (below_via (unhide HL) hb)
  clear hb c2
  go_wp2_with (refine store_at (new := #[.int .i64 (rwS l 1 a).o, .int .i64 (rwS l 1 a).i, .int .i64 (rwS l 1 a).u, .int .i64 (rwS l 1 a).n, .int .i64 (rwS l 1 a).x, .int .i64 (rwS l 1 a).z, .int .i64 (rwS l 2 b).o, .int .i64 (rwS l 2 b).i, .int .i64 (rwS l 2 b).u, .int .i64 (rwS l 2 b).n, .int .i64 (rwS l 2 b).x, .int .i64 (rwS l 2 b).z, .int .i64 (rwS l 3 c).o, .int .i64 (rwS l 3 c).i, .int .i64 (rwS l 3 c).u, .int .i64 (rwS l 3 c).n, .int .i64 (rwS l 3 c).x, .int .i64 (rwS l 3 c).z]) rfl 26 _ _ rfl (show Blk _ _ _ _ from unhide HX) rfl rfl size26 rfl (Nat.le_of_ble_eq_true rfl) rfl rfl ?_)
  intro V3 k1 kp
  have hne : w.heap.size + 1 < xb := by omega
  replace HO := hide (kp.blk (show w.heap.size ≠ xb by omega) (show Blk _ _ _ _ from unhide HO))
  replace HR := hide (kp.blk (show w.heap.size + 1 ≠ xb by omega) (show Blk _ _ _ _ from unhide HR))
  replace HM := hide ((show MapAt _ _ _ from unhide HM).past kp (show m < xb by omega))
  replace HL := hide (kp.bel (show w.heap.size ≤ xb by omega) (unhide HL))
  have HX := hide k1
  clear k1 kp hne
  go_wp2_with fail
  rw [rounds_succ]
  go_wp2_with (first | refine load_blk rfl 27 _ rfl (show Blk _ _ _ _ from unhide HX) rfl row27 size27 rfl ?_ | refine store_blk rfl 27 _ _ rfl (show Blk _ _ _ _ from unhide HR) rfl rfl size27 rfl rfl rfl ?_)
  intro V5 k5 kp
  have k6 := kp.bel (by omega) (unhide HL)
  clear kp HX HR HL HM HO HA HB HC
  go_wp2_with fail
  exact bodyPost_ret (v := .tuple #[.agg (cells18 (rwS l 1 a) (rwS l 2 b) (rwS l 3 c)), .int .i64 0]) (res_ct (cs0 := cells18 (rwS l 1 a) (rwS l 2 b) (rwS l 3 c)) rfl k5 row27 size27 rfl rfl rfl) rfl ⟨rfl, k6⟩
theorem roll_any : RollA 10 := by
  intro w v a b c l h
  obtain ⟨x, cap, rfl⟩ := rowG_slice h
  rw [List.length_map] at h ⊢
  by_cases hm : l.length ≤ 4096
  · cases hq : mayB a b c l
    · exact (ro_no a b c x l.length cap l (decide_eq_false (by omega)) hm w h hq).mono fun q w' ⟨h1, h2⟩ => ⟨rw0, rw0, rw0, 2, h1, h2, .inr (.inl ⟨hm, hq, rfl, rfl, rfl, rfl⟩)⟩
    · exact (ro_yes a b c x l.length cap l (decide_eq_false (by omega)) hm w h hq).mono fun q w' ⟨h1, h2⟩ => ⟨_, _, _, 0, h1, h2, .inr (.inr ⟨hm, hq, rfl, rfl, rfl, rfl⟩)⟩
  · exact (ro_full a b c x l.length cap (decide_eq_true (by omega)) w).mono fun q w' ⟨h1, h2⟩ => ⟨rw0, rw0, rw0, 10, h1, h2, .inl ⟨by omega, rfl, rfl, rfl, rfl⟩⟩
end Go.Proofs.Ytkccladbcehdbaa
