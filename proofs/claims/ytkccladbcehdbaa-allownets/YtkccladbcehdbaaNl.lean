/- The drawn region of AllowNets, by itself. -/
import Derived.Test.YtkccladbcehdbaaRt
import Derived.Test.YtkccladbcehdbaaNr
import Derived.Test.YtkccladbcehdbaaEq
namespace Go.Proofs.Ytkccladbcehdbaa
open Go.RowKit
set_option linter.unusedVariables false
set_option linter.unusedSimpArgs false
theorem bne_selfE (x : Int) : (x == x) = true := by simp
theorem beq_selfB (x : Bool) : (x == x) = true := by simp
set_option maxRecDepth 20000 in
set_option maxHeartbeats 8000000 in
theorem lreg5 {Q : Exit → Act → World → Prop} {x0 x2 x7 x8 x9 x10 x11 x12 x13 x14 x15 x16 x17 x18 x19 x20 x21 x22 x23 x24 x25 x26 x27 x28 x29 x30 x31 x32 x33 x34 x35 x36 x37 x38 x39 x40 x41 x42 x43 x44 x45 x46 x47 x48 : Value} {V : World} {ba bb bx : Nat} {r s t N : Rw} {E : Int} (hE : (E == E) = true) (hA : Hid (Blk V ba (cells6 N) 26)) (hB : Hid (Blk V bb (cells6 N) 33)) (hX : Hid (Blk V bx (cells18 r s t) 34)) (hr : Hid (RwI6 r)) (hn : Hid (RwI6 N))
    (h : ∀ (W : World), Below V.heap.size V W → Q .normal ⟨List.toArray (x0 :: (.pointer (some ⟨bx, 0, none⟩) : Value) :: (.bool true : Value) :: (.pointer (some ⟨ba, 0, none⟩) : Value) :: (.int .i64 E : Value) :: (.pointer (some ⟨bb, 0, none⟩) : Value) :: (.int .i64 E : Value) :: x7 :: x8 :: x9 :: x10 :: x11 :: x12 :: x13 :: x14 :: x15 :: x16 :: x17 :: x18 :: x19 :: x20 :: x21 :: x22 :: x23 :: x24 :: (.agg (cells6 N) : Value) :: (.agg (cells6 N) : Value) :: (.bool true : Value) :: (.bool true : Value) :: (.int .i64 E : Value) :: (.int .i64 E : Value) :: (.bool true : Value) :: (.bool true : Value) :: (.bool true : Value) :: (.pointer (some ⟨bx, 0, none⟩) : Value) :: (.agg (cells6 r) : Value) :: (.bool (tieB r.o r.i r.u r.n r.x r.z) : Value) :: (.pointer (some ⟨bx, 0, none⟩) : Value) :: (.agg (cells6 r) : Value) :: (.bool (tieB r.o r.i r.u r.n r.x r.z) : Value) :: (.bool true : Value) :: (.bool true : Value) :: (.bool true : Value) :: (.agg (cells6 N) : Value) :: (.bool (tieB N.o N.i N.u N.n N.x N.z) : Value) :: (.agg (cells6 N) : Value) :: (.bool (tieB N.o N.i N.u N.n N.x N.z) : Value) :: (.bool true : Value) :: (.bool true : Value) :: []), []⟩ W) :
    Code.wp Try.prog ((Try.f4.body.bind (regionAt 5)).getD .skip) Q ⟨List.toArray (x0 :: (.pointer (some ⟨bx, 0, none⟩) : Value) :: x2 :: (.pointer (some ⟨ba, 0, none⟩) : Value) :: (.int .i64 E : Value) :: (.pointer (some ⟨bb, 0, none⟩) : Value) :: (.int .i64 E : Value) :: x7 :: x8 :: x9 :: x10 :: x11 :: x12 :: x13 :: x14 :: x15 :: x16 :: x17 :: x18 :: x19 :: x20 :: x21 :: x22 :: x23 :: x24 :: x25 :: x26 :: x27 :: x28 :: x29 :: x30 :: x31 :: x32 :: x33 :: x34 :: x35 :: x36 :: x37 :: x38 :: x39 :: x40 :: x41 :: x42 :: x43 :: x44 :: x45 :: x46 :: x47 :: x48 :: []), []⟩ V := by
  have H := hide h
  clear h
  conv => arg 2; whnf
  refine wp_region_noPanic ?_
  refine wp_region_held_drew (S := fun W => Below V.heap.size V W) (by kernel_rfl) (Below.refl _ _).drew (fun hS => ?_)
  generalize hV : V.drew = V0 at *
  clear hV
  refine anyH_at (i := 0) (v := .agg (cells6 N)) 25 rfl (by kernel_rfl) (by kernel_rfl) (by kernel_rfl) (by kernel_rfl) (fun _ _ _ h => h) (Or.inl ⟨by kernel_rfl, fun W hS => by have q9 := (show Blk _ _ _ _ from unhide hA).keep hS; have c0 := q9.at 0 (.int .i64 N.o) rfl; have c1 := q9.at 1 (.int .i64 N.i) rfl; have c2 := q9.at 2 (.int .i64 N.u) rfl; have c3 := q9.at 3 (.int .i64 N.n) rfl; have c4 := q9.at 4 (.int .i64 N.x) rfl; have c5 := q9.at 5 (.int .i64 N.z) rfl; go_simp⟩) hS ?_
  try simp only [Act.put, List.setIfInBounds_toArray, List.set_cons_zero, List.set_cons_succ]
  refine anyH_at (i := 1) (v := .agg (cells6 N)) 26 rfl (by kernel_rfl) (by kernel_rfl) (by kernel_rfl) (by kernel_rfl) (fun _ _ _ h => h) (Or.inl ⟨by kernel_rfl, fun W hS => by have q9 := (show Blk _ _ _ _ from unhide hB).keep hS; have c0 := q9.at 0 (.int .i64 N.o) rfl; have c1 := q9.at 1 (.int .i64 N.i) rfl; have c2 := q9.at 2 (.int .i64 N.u) rfl; have c3 := q9.at 3 (.int .i64 N.n) rfl; have c4 := q9.at 4 (.int .i64 N.x) rfl; have c5 := q9.at 5 (.int .i64 N.z) rfl; go_simp⟩) hS ?_
  try simp only [Act.put, List.setIfInBounds_toArray, List.set_cons_zero, List.set_cons_succ]
  refine anyH_at (i := 2) (v := .bool true) 27 rfl (by kernel_rfl) (by kernel_rfl) (by kernel_rfl) (by kernel_rfl) (fun _ _ _ h => h) (Or.inl ⟨by kernel_rfl, fun W hS => by have f1 : ∀ W, (Op.equalIn 10000 33 (.agg (cells6 N)) (.agg (cells6 N))).run Try.prog W = .ok true W := fun W => eqr33 9998 N W; go_simp⟩) hS ?_
  try simp only [Act.put, List.setIfInBounds_toArray, List.set_cons_zero, List.set_cons_succ]
  refine anyH_at (i := 3) (v := .bool true) 28 rfl (by kernel_rfl) (by kernel_rfl) (by kernel_rfl) (by kernel_rfl) (fun _ _ _ h => h) (Or.inl ⟨by kernel_rfl, fun W hS => by go_simp⟩) hS ?_
  try simp only [Act.put, List.setIfInBounds_toArray, List.set_cons_zero, List.set_cons_succ]
  refine anyH_at (i := 4) (v := .int .i64 E) 29 rfl (by kernel_rfl) (by kernel_rfl) (by kernel_rfl) (by kernel_rfl) (fun _ _ _ h => h) (Or.inl ⟨by kernel_rfl, fun W hS => by go_simp⟩) hS ?_
  try simp only [Act.put, List.setIfInBounds_toArray, List.set_cons_zero, List.set_cons_succ]
  refine anyH_at (i := 5) (v := .int .i64 E) 30 rfl (by kernel_rfl) (by kernel_rfl) (by kernel_rfl) (by kernel_rfl) (fun _ _ _ h => h) (Or.inl ⟨by kernel_rfl, fun W hS => by go_simp⟩) hS ?_
  try simp only [Act.put, List.setIfInBounds_toArray, List.set_cons_zero, List.set_cons_succ]
  refine anyH_at (i := 6) (v := .bool true) 31 rfl (by kernel_rfl) (by kernel_rfl) (by kernel_rfl) (by kernel_rfl) (fun _ _ _ h => h) (Or.inl ⟨by kernel_rfl, fun W hS => by have f1 := bne_selfE E; go_simp⟩) hS ?_
  try simp only [Act.put, List.setIfInBounds_toArray, List.set_cons_zero, List.set_cons_succ]
  refine anyH_at (i := 7) (v := .bool true) 32 rfl (by kernel_rfl) (by kernel_rfl) (by kernel_rfl) (by kernel_rfl) (fun _ _ _ h => h) (Or.inl ⟨by kernel_rfl, fun W hS => by go_simp⟩) hS ?_
  try simp only [Act.put, List.setIfInBounds_toArray, List.set_cons_zero, List.set_cons_succ]
  refine anyH_at (i := 8) (v := .bool true) 33 rfl (by kernel_rfl) (by kernel_rfl) (by kernel_rfl) (by kernel_rfl) (fun _ _ _ h => h) (Or.inl ⟨by kernel_rfl, fun W hS => by go_simp⟩) hS ?_
  try simp only [Act.put, List.setIfInBounds_toArray, List.set_cons_zero, List.set_cons_succ]
  refine anyH_at (i := 9) (v := .pointer (some ⟨bx, 0, none⟩)) 34 rfl (by kernel_rfl) (by kernel_rfl) (by kernel_rfl) (by kernel_rfl) (fun _ _ _ h => h) (Or.inl ⟨by kernel_rfl, fun W hS => by go_simp⟩) hS ?_
  try simp only [Act.put, List.setIfInBounds_toArray, List.set_cons_zero, List.set_cons_succ]
  refine anyH_at (i := 10) (v := .agg (cells6 r)) 35 rfl (by kernel_rfl) (by kernel_rfl) (by kernel_rfl) (by kernel_rfl) (fun _ _ _ h => h) (Or.inl ⟨by kernel_rfl, fun W hS => by have q9 := (show Blk _ _ _ _ from unhide hX).keep hS; have c0 := q9.at 0 (.int .i64 r.o) rfl; have c1 := q9.at 1 (.int .i64 r.i) rfl; have c2 := q9.at 2 (.int .i64 r.u) rfl; have c3 := q9.at 3 (.int .i64 r.n) rfl; have c4 := q9.at 4 (.int .i64 r.x) rfl; have c5 := q9.at 5 (.int .i64 r.z) rfl; go_simp⟩) hS ?_
  try simp only [Act.put, List.setIfInBounds_toArray, List.set_cons_zero, List.set_cons_succ]
  refine anyH_at (i := 12) (v := .pointer (some ⟨bx, 0, none⟩)) 37 rfl (by kernel_rfl) (by kernel_rfl) (by kernel_rfl) (by kernel_rfl) (fun _ _ _ h => h) (Or.inl ⟨by kernel_rfl, fun W hS => by go_simp⟩) hS ?_
  try simp only [Act.put, List.setIfInBounds_toArray, List.set_cons_zero, List.set_cons_succ]
  refine anyH_at (i := 13) (v := .agg (cells6 r)) 38 rfl (by kernel_rfl) (by kernel_rfl) (by kernel_rfl) (by kernel_rfl) (fun _ _ _ h => h) (Or.inl ⟨by kernel_rfl, fun W hS => by have q9 := (show Blk _ _ _ _ from unhide hX).keep hS; have c0 := q9.at 0 (.int .i64 r.o) rfl; have c1 := q9.at 1 (.int .i64 r.i) rfl; have c2 := q9.at 2 (.int .i64 r.u) rfl; have c3 := q9.at 3 (.int .i64 r.n) rfl; have c4 := q9.at 4 (.int .i64 r.x) rfl; have c5 := q9.at 5 (.int .i64 r.z) rfl; go_simp⟩) hS ?_
  try simp only [Act.put, List.setIfInBounds_toArray, List.set_cons_zero, List.set_cons_succ]
  refine wpAnyH_all (rs := [11]) (by kernel_rfl) (by simp) (AllReadyH.cons (i := 11) rfl (fun KK hK => ?_) AllReadyH.nil)
  rw [if_pos (by kernel_rfl)]
  have HQ := hide (ti_any r.o r.i r.u r.n r.x r.z ((unhide hr).c 0) ((unhide hr).c 1) ((unhide hr).c 2) ((unhide hr).c 3) ((unhide hr).c 4))
  have hS1 := hide hS
  clear hS
  go_wp2_with fail
  refine (unhide HQ _).mono ?_
  rintro e w' ⟨rfl, hb⟩
  have hS2 := hide (below_via (unhide hS1) hb)
  clear hb hS1 HQ
  go_wp2_with fail
  refine hK.out _ _ (unhide hS2) (fun hS => ?_)
  clear hK hS2
  try simp only [Act.put, List.setIfInBounds_toArray, List.set_cons_zero, List.set_cons_succ]
  refine wpAnyH_all (rs := [14]) (by kernel_rfl) (by simp) (AllReadyH.cons (i := 14) rfl (fun KK hK => ?_) AllReadyH.nil)
  rw [if_pos (by kernel_rfl)]
  have HQ := hide (rties_any r.o r.i r.u r.n r.x r.z ((unhide hr).c 0) ((unhide hr).c 1) ((unhide hr).c 2) ((unhide hr).c 3) ((unhide hr).c 4))
  have hS1 := hide hS
  clear hS
  go_wp2_with fail
  refine (unhide HQ _).mono ?_
  rintro e w' ⟨rfl, hb⟩
  have hS2 := hide (below_via (unhide hS1) hb)
  clear hb hS1 HQ
  go_wp2_with fail
  refine hK.out _ _ (unhide hS2) (fun hS => ?_)
  clear hK hS2
  try simp only [Act.put, List.setIfInBounds_toArray, List.set_cons_zero, List.set_cons_succ]
  refine anyH_at (i := 15) (v := .bool true) 40 rfl (by kernel_rfl) (by kernel_rfl) (by kernel_rfl) (by kernel_rfl) (fun _ _ _ h => h) (Or.inl ⟨by kernel_rfl, fun W hS => by have f1 := beq_selfB (tieB r.o r.i r.u r.n r.x r.z); go_simp⟩) hS ?_
  try simp only [Act.put, List.setIfInBounds_toArray, List.set_cons_zero, List.set_cons_succ]
  refine anyH_at (i := 16) (v := .bool true) 41 rfl (by kernel_rfl) (by kernel_rfl) (by kernel_rfl) (by kernel_rfl) (fun _ _ _ h => h) (Or.inl ⟨by kernel_rfl, fun W hS => by go_simp⟩) hS ?_
  try simp only [Act.put, List.setIfInBounds_toArray, List.set_cons_zero, List.set_cons_succ]
  refine anyH_at (i := 17) (v := .bool true) 42 rfl (by kernel_rfl) (by kernel_rfl) (by kernel_rfl) (by kernel_rfl) (fun _ _ _ h => h) (Or.inl ⟨by kernel_rfl, fun W hS => by go_simp⟩) hS ?_
  try simp only [Act.put, List.setIfInBounds_toArray, List.set_cons_zero, List.set_cons_succ]
  refine anyH_at (i := 18) (v := .agg (cells6 N)) 43 rfl (by kernel_rfl) (by kernel_rfl) (by kernel_rfl) (by kernel_rfl) (fun _ _ _ h => h) (Or.inl ⟨by kernel_rfl, fun W hS => by have q9 := (show Blk _ _ _ _ from unhide hB).keep hS; have c0 := q9.at 0 (.int .i64 N.o) rfl; have c1 := q9.at 1 (.int .i64 N.i) rfl; have c2 := q9.at 2 (.int .i64 N.u) rfl; have c3 := q9.at 3 (.int .i64 N.n) rfl; have c4 := q9.at 4 (.int .i64 N.x) rfl; have c5 := q9.at 5 (.int .i64 N.z) rfl; go_simp⟩) hS ?_
  try simp only [Act.put, List.setIfInBounds_toArray, List.set_cons_zero, List.set_cons_succ]
  refine anyH_at (i := 20) (v := .agg (cells6 N)) 45 rfl (by kernel_rfl) (by kernel_rfl) (by kernel_rfl) (by kernel_rfl) (fun _ _ _ h => h) (Or.inl ⟨by kernel_rfl, fun W hS => by have q9 := (show Blk _ _ _ _ from unhide hB).keep hS; have c0 := q9.at 0 (.int .i64 N.o) rfl; have c1 := q9.at 1 (.int .i64 N.i) rfl; have c2 := q9.at 2 (.int .i64 N.u) rfl; have c3 := q9.at 3 (.int .i64 N.n) rfl; have c4 := q9.at 4 (.int .i64 N.x) rfl; have c5 := q9.at 5 (.int .i64 N.z) rfl; go_simp⟩) hS ?_
  try simp only [Act.put, List.setIfInBounds_toArray, List.set_cons_zero, List.set_cons_succ]
  refine wpAnyH_all (rs := [19]) (by kernel_rfl) (by simp) (AllReadyH.cons (i := 19) rfl (fun KK hK => ?_) AllReadyH.nil)
  rw [if_pos (by kernel_rfl)]
  have HQ := hide (ti_any N.o N.i N.u N.n N.x N.z ((unhide hn).c 0) ((unhide hn).c 1) ((unhide hn).c 2) ((unhide hn).c 3) ((unhide hn).c 4))
  have hS1 := hide hS
  clear hS
  go_wp2_with fail
  refine (unhide HQ _).mono ?_
  rintro e w' ⟨rfl, hb⟩
  have hS2 := hide (below_via (unhide hS1) hb)
  clear hb hS1 HQ
  go_wp2_with fail
  refine hK.out _ _ (unhide hS2) (fun hS => ?_)
  clear hK hS2
  try simp only [Act.put, List.setIfInBounds_toArray, List.set_cons_zero, List.set_cons_succ]
  refine wpAnyH_all (rs := [21]) (by kernel_rfl) (by simp) (AllReadyH.cons (i := 21) rfl (fun KK hK => ?_) AllReadyH.nil)
  rw [if_pos (by kernel_rfl)]
  have HQ := hide (rties_any N.o N.i N.u N.n N.x N.z ((unhide hn).c 0) ((unhide hn).c 1) ((unhide hn).c 2) ((unhide hn).c 3) ((unhide hn).c 4))
  have hS1 := hide hS
  clear hS
  go_wp2_with fail
  refine (unhide HQ _).mono ?_
  rintro e w' ⟨rfl, hb⟩
  have hS2 := hide (below_via (unhide hS1) hb)
  clear hb hS1 HQ
  go_wp2_with fail
  refine hK.out _ _ (unhide hS2) (fun hS => ?_)
  clear hK hS2
  try simp only [Act.put, List.setIfInBounds_toArray, List.set_cons_zero, List.set_cons_succ]
  refine anyH_at (i := 22) (v := .bool true) 47 rfl (by kernel_rfl) (by kernel_rfl) (by kernel_rfl) (by kernel_rfl) (fun _ _ _ h => h) (Or.inl ⟨by kernel_rfl, fun W hS => by have f1 := beq_selfB (tieB N.o N.i N.u N.n N.x N.z); go_simp⟩) hS ?_
  try simp only [Act.put, List.setIfInBounds_toArray, List.set_cons_zero, List.set_cons_succ]
  refine anyH_at (i := 23) (v := .bool true) 48 rfl (by kernel_rfl) (by kernel_rfl) (by kernel_rfl) (by kernel_rfl) (fun _ _ _ h => h) (Or.inl ⟨by kernel_rfl, fun W hS => by go_simp⟩) hS ?_
  try simp only [Act.put, List.setIfInBounds_toArray, List.set_cons_zero, List.set_cons_succ]
  refine wpAnyH_all (rs := [24]) (by kernel_rfl) (by simp) (AllReadyH.cons (i := 24) rfl (fun KK hK => ?_) AllReadyH.nil)
  rw [if_pos (by kernel_rfl)]
  have hS1 := hide hS
  clear hS
  go_wp2_with fail
  refine hK.out _ _ (unhide hS1) (fun hS => ?_)
  clear hK hS1
  try simp only [Act.put, List.setIfInBounds_toArray, List.set_cons_zero, List.set_cons_succ]
  refine wpAnyH_done (by kernel_rfl) ?_ _
  exact NoPanic.normal (unhide H _ hS)
end Go.Proofs.Ytkccladbcehdbaa
