/- The drawn region of AllowTies, by itself. -/
import Derived.Test.YtkccladbcehdbaaTp
import Derived.Test.YtkccladbcehdbaaNr
namespace Go.Proofs.Ytkccladbcehdbaa
open Go.RowKit
set_option linter.unusedVariables false
set_option linter.unusedSimpArgs false
set_option maxRecDepth 20000 in
set_option maxHeartbeats 8000000 in
theorem treg11 {Q : Exit → Act → World → Prop} {x0 x1 x3 x4 x5 x6 x9 x10 x11 x12 x13 x14 x15 x16 x17 x18 x19 x20 x21 x22 x23 x24 x25 x26 x27 x28 x29 x30 x31 x32 x33 x34 x35 x36 x37 x38 x39 x40 x41 x42 x43 x44 x45 x46 x47 x48 x49 x50 x51 x52 x53 x54 x55 x56 x57 x58 x59 x60 x61 x62 x63 x64 x65 x66 x67 x68 x69 x70 x71 x72 x73 x74 x75 x76 x77 : Value} {V : World} {ob rb j : Nat} {q : Rw} {z : Int} (hz : z = (j : Int)) (hj : (j : Int) < 3) (d1 : decide (q.i < 0) = false) (d2 : decide (q.u < 0) = false) (d3 : decide (q.x < 0) = false) (hR : Hid (Blk V rb (cells6 q) 26)) (hO : Hid (V.cell? ⟨ob, j, none⟩ = some (.int .i64 q.o))) (hi : Hid (RwI6 q)) (hT : Hid (tieB q.o q.i q.u q.n q.x q.z = true))
    (h : ∀ (W : World), Below V.heap.size V W → Q .normal ⟨List.toArray (x0 :: x1 :: (.pointer (some ⟨ob, 0, none⟩) : Value) :: x3 :: x4 :: x5 :: x6 :: (.int .i64 z : Value) :: (.pointer (some ⟨rb, 0, none⟩) : Value) :: x9 :: x10 :: x11 :: x12 :: x13 :: x14 :: x15 :: x16 :: x17 :: x18 :: x19 :: x20 :: x21 :: x22 :: x23 :: x24 :: x25 :: x26 :: x27 :: x28 :: x29 :: x30 :: x31 :: x32 :: (.agg (cells6 q) : Value) :: (.bool true : Value) :: (.bool false : Value) :: (.bool false : Value) :: (.pointer (some ⟨rb, 0, none⟩) : Value) :: (.int .i64 q.o : Value) :: (.int .i64 z : Value) :: (.pointer (some ⟨ob, j, none⟩) : Value) :: (.int .i64 q.o : Value) :: (.bool false : Value) :: (.bool false : Value) :: (.bool false : Value) :: (.pointer (some ⟨rb, 1, none⟩) : Value) :: (.int .i64 q.i : Value) :: (.bool false : Value) :: (.bool false : Value) :: (.bool false : Value) :: (.pointer (some ⟨rb, 2, none⟩) : Value) :: (.int .i64 q.u : Value) :: (.bool false : Value) :: (.bool false : Value) :: (.bool false : Value) :: (.pointer (some ⟨rb, 4, none⟩) : Value) :: (.int .i64 q.x : Value) :: (.bool false : Value) :: (.bool false : Value) :: x59 :: x60 :: x61 :: x62 :: x63 :: x64 :: x65 :: x66 :: x67 :: x68 :: x69 :: x70 :: x71 :: x72 :: x73 :: x74 :: x75 :: x76 :: x77 :: []), []⟩ W) :
    Code.wp Try.prog ((Try.f5.body.bind (regionAt 11)).getD .skip) Q ⟨List.toArray (x0 :: x1 :: (.pointer (some ⟨ob, 0, none⟩) : Value) :: x3 :: x4 :: x5 :: x6 :: (.int .i64 z : Value) :: (.pointer (some ⟨rb, 0, none⟩) : Value) :: x9 :: x10 :: x11 :: x12 :: x13 :: x14 :: x15 :: x16 :: x17 :: x18 :: x19 :: x20 :: x21 :: x22 :: x23 :: x24 :: x25 :: x26 :: x27 :: x28 :: x29 :: x30 :: x31 :: x32 :: x33 :: x34 :: x35 :: x36 :: x37 :: x38 :: x39 :: x40 :: x41 :: x42 :: x43 :: x44 :: x45 :: x46 :: x47 :: x48 :: x49 :: x50 :: x51 :: x52 :: x53 :: x54 :: x55 :: x56 :: x57 :: x58 :: x59 :: x60 :: x61 :: x62 :: x63 :: x64 :: x65 :: x66 :: x67 :: x68 :: x69 :: x70 :: x71 :: x72 :: x73 :: x74 :: x75 :: x76 :: x77 :: []), []⟩ V := by
  subst hz
  have H := hide h
  clear h
  conv => arg 2; whnf
  refine wp_region_noPanic ?_
  refine wp_region_held_drew (S := fun W => Below V.heap.size V W) (by kernel_rfl) (Below.refl _ _).drew (fun hS => ?_)
  generalize hV : V.drew = V0 at *
  clear hV
  refine anyH_at (i := 0) (v := .agg (cells6 q)) 33 rfl (by kernel_rfl) (by kernel_rfl) (by kernel_rfl) (by kernel_rfl) (fun _ _ _ h => h) (Or.inl ⟨by kernel_rfl, fun W hS => by have q9 := (show Blk _ _ _ _ from unhide hR).keep hS; have c0 := q9.at 0 (.int .i64 q.o) rfl; have c1 := q9.at 1 (.int .i64 q.i) rfl; have c2 := q9.at 2 (.int .i64 q.u) rfl; have c3 := q9.at 3 (.int .i64 q.n) rfl; have c4 := q9.at 4 (.int .i64 q.x) rfl; have c5 := q9.at 5 (.int .i64 q.z) rfl; go_simp⟩) hS ?_
  try simp only [Act.put, List.setIfInBounds_toArray, List.set_cons_zero, List.set_cons_succ]
  refine wpAnyH_all (rs := [1]) (by kernel_rfl) (by simp) (AllReadyH.cons (i := 1) rfl (fun KK hK => ?_) AllReadyH.nil)
  rw [if_pos (by kernel_rfl)]
  have HQ := hide (ti_any q.o q.i q.u q.n q.x q.z ((unhide hi).c 0) ((unhide hi).c 1) ((unhide hi).c 2) ((unhide hi).c 3) ((unhide hi).c 4) V0)
  rw [unhide hT] at HQ
  have hS1 := hide hS
  clear hS
  go_wp2_with fail
  refine (unhide HQ).mono ?_
  rintro e w' ⟨rfl, hb⟩
  have hS2 := hide (below_via (unhide hS1) hb)
  clear hb hS1 HQ
  go_wp2_with fail
  refine hK.out _ _ (unhide hS2) (fun hS => ?_)
  clear hK hS2
  try simp only [Act.put, List.setIfInBounds_toArray, List.set_cons_zero, List.set_cons_succ]
  refine anyH_at (i := 2) (v := .bool false) 35 rfl (by kernel_rfl) (by kernel_rfl) (by kernel_rfl) (by kernel_rfl) (fun _ _ _ h => h) (Or.inl ⟨by kernel_rfl, fun W hS => by go_simp⟩) hS ?_
  try simp only [Act.put, List.setIfInBounds_toArray, List.set_cons_zero, List.set_cons_succ]
  refine anyH_at (i := 3) (v := .bool false) 36 rfl (by kernel_rfl) (by kernel_rfl) (by kernel_rfl) (by kernel_rfl) (fun _ _ _ h => h) (Or.inl ⟨by kernel_rfl, fun W hS => by go_simp⟩) hS ?_
  try simp only [Act.put, List.setIfInBounds_toArray, List.set_cons_zero, List.set_cons_succ]
  refine anyH_at (i := 4) (v := .pointer (some ⟨rb, 0, none⟩)) 37 rfl (by kernel_rfl) (by kernel_rfl) (by kernel_rfl) (by kernel_rfl) (fun _ _ _ h => h) (Or.inl ⟨by kernel_rfl, fun W hS => by go_simp⟩) hS ?_
  try simp only [Act.put, List.setIfInBounds_toArray, List.set_cons_zero, List.set_cons_succ]
  refine anyH_at (i := 5) (v := .int .i64 q.o) 38 rfl (by kernel_rfl) (by kernel_rfl) (by kernel_rfl) (by kernel_rfl) (fun _ _ _ h => h) (Or.inl ⟨by kernel_rfl, fun W hS => by have q9 := (show Blk _ _ _ _ from unhide hR).keep hS; have c0 := q9.at 0 (.int .i64 q.o) rfl; have c1 := q9.at 1 (.int .i64 q.i) rfl; have c2 := q9.at 2 (.int .i64 q.u) rfl; have c3 := q9.at 3 (.int .i64 q.n) rfl; have c4 := q9.at 4 (.int .i64 q.x) rfl; have c5 := q9.at 5 (.int .i64 q.z) rfl; go_simp⟩) hS ?_
  try simp only [Act.put, List.setIfInBounds_toArray, List.set_cons_zero, List.set_cons_succ]
  refine anyH_at (i := 6) (v := .int .i64 (j : Int)) 39 rfl (by kernel_rfl) (by kernel_rfl) (by kernel_rfl) (by kernel_rfl) (fun _ _ _ h => h) (Or.inl ⟨by kernel_rfl, fun W hS => by go_simp⟩) hS ?_
  try simp only [Act.put, List.setIfInBounds_toArray, List.set_cons_zero, List.set_cons_succ]
  refine anyH_at (i := 7) (v := .pointer (some ⟨ob, j, none⟩)) 40 rfl (by kernel_rfl) (by kernel_rfl) (by kernel_rfl) (by kernel_rfl) (fun _ _ _ h => h) (Or.inl ⟨by kernel_rfl, fun W hS => by go_simp⟩) hS ?_
  try simp only [Act.put, List.setIfInBounds_toArray, List.set_cons_zero, List.set_cons_succ]
  refine anyH_at (i := 8) (v := .int .i64 q.o) 41 rfl (by kernel_rfl) (by kernel_rfl) (by kernel_rfl) (by kernel_rfl) (fun _ _ _ h => h) (Or.inl ⟨by kernel_rfl, fun W hS => by have q9 := (hS.cell (p := ⟨ob, j, none⟩) (lt_of_cell (unhide hO))).trans (unhide hO); go_simp⟩) hS ?_
  try simp only [Act.put, List.setIfInBounds_toArray, List.set_cons_zero, List.set_cons_succ]
  refine anyH_at (i := 9) (v := .bool false) 42 rfl (by kernel_rfl) (by kernel_rfl) (by kernel_rfl) (by kernel_rfl) (fun _ _ _ h => h) (Or.inl ⟨by kernel_rfl, fun W hS => by have q9 := bne_self q.o; go_simp⟩) hS ?_
  try simp only [Act.put, List.setIfInBounds_toArray, List.set_cons_zero, List.set_cons_succ]
  refine anyH_at (i := 10) (v := .bool false) 43 rfl (by kernel_rfl) (by kernel_rfl) (by kernel_rfl) (by kernel_rfl) (fun _ _ _ h => h) (Or.inl ⟨by kernel_rfl, fun W hS => by go_simp⟩) hS ?_
  try simp only [Act.put, List.setIfInBounds_toArray, List.set_cons_zero, List.set_cons_succ]
  refine anyH_at (i := 11) (v := .bool false) 44 rfl (by kernel_rfl) (by kernel_rfl) (by kernel_rfl) (by kernel_rfl) (fun _ _ _ h => h) (Or.inl ⟨by kernel_rfl, fun W hS => by go_simp⟩) hS ?_
  try simp only [Act.put, List.setIfInBounds_toArray, List.set_cons_zero, List.set_cons_succ]
  refine anyH_at (i := 12) (v := .pointer (some ⟨rb, 1, none⟩)) 45 rfl (by kernel_rfl) (by kernel_rfl) (by kernel_rfl) (by kernel_rfl) (fun _ _ _ h => h) (Or.inl ⟨by kernel_rfl, fun W hS => by go_simp⟩) hS ?_
  try simp only [Act.put, List.setIfInBounds_toArray, List.set_cons_zero, List.set_cons_succ]
  refine anyH_at (i := 13) (v := .int .i64 q.i) 46 rfl (by kernel_rfl) (by kernel_rfl) (by kernel_rfl) (by kernel_rfl) (fun _ _ _ h => h) (Or.inl ⟨by kernel_rfl, fun W hS => by have q9 := (show Blk _ _ _ _ from unhide hR).keep hS; have c0 := q9.at 0 (.int .i64 q.o) rfl; have c1 := q9.at 1 (.int .i64 q.i) rfl; have c2 := q9.at 2 (.int .i64 q.u) rfl; have c3 := q9.at 3 (.int .i64 q.n) rfl; have c4 := q9.at 4 (.int .i64 q.x) rfl; have c5 := q9.at 5 (.int .i64 q.z) rfl; go_simp⟩) hS ?_
  try simp only [Act.put, List.setIfInBounds_toArray, List.set_cons_zero, List.set_cons_succ]
  refine anyH_at (i := 14) (v := .bool false) 47 rfl (by kernel_rfl) (by kernel_rfl) (by kernel_rfl) (by kernel_rfl) (fun _ _ _ h => h) (Or.inl ⟨by kernel_rfl, fun W hS => by have q9 := d1; go_simp⟩) hS ?_
  try simp only [Act.put, List.setIfInBounds_toArray, List.set_cons_zero, List.set_cons_succ]
  refine anyH_at (i := 15) (v := .bool false) 48 rfl (by kernel_rfl) (by kernel_rfl) (by kernel_rfl) (by kernel_rfl) (fun _ _ _ h => h) (Or.inl ⟨by kernel_rfl, fun W hS => by go_simp⟩) hS ?_
  try simp only [Act.put, List.setIfInBounds_toArray, List.set_cons_zero, List.set_cons_succ]
  refine anyH_at (i := 16) (v := .bool false) 49 rfl (by kernel_rfl) (by kernel_rfl) (by kernel_rfl) (by kernel_rfl) (fun _ _ _ h => h) (Or.inl ⟨by kernel_rfl, fun W hS => by go_simp⟩) hS ?_
  try simp only [Act.put, List.setIfInBounds_toArray, List.set_cons_zero, List.set_cons_succ]
  refine anyH_at (i := 17) (v := .pointer (some ⟨rb, 2, none⟩)) 50 rfl (by kernel_rfl) (by kernel_rfl) (by kernel_rfl) (by kernel_rfl) (fun _ _ _ h => h) (Or.inl ⟨by kernel_rfl, fun W hS => by go_simp⟩) hS ?_
  try simp only [Act.put, List.setIfInBounds_toArray, List.set_cons_zero, List.set_cons_succ]
  refine anyH_at (i := 18) (v := .int .i64 q.u) 51 rfl (by kernel_rfl) (by kernel_rfl) (by kernel_rfl) (by kernel_rfl) (fun _ _ _ h => h) (Or.inl ⟨by kernel_rfl, fun W hS => by have q9 := (show Blk _ _ _ _ from unhide hR).keep hS; have c0 := q9.at 0 (.int .i64 q.o) rfl; have c1 := q9.at 1 (.int .i64 q.i) rfl; have c2 := q9.at 2 (.int .i64 q.u) rfl; have c3 := q9.at 3 (.int .i64 q.n) rfl; have c4 := q9.at 4 (.int .i64 q.x) rfl; have c5 := q9.at 5 (.int .i64 q.z) rfl; go_simp⟩) hS ?_
  try simp only [Act.put, List.setIfInBounds_toArray, List.set_cons_zero, List.set_cons_succ]
  refine anyH_at (i := 19) (v := .bool false) 52 rfl (by kernel_rfl) (by kernel_rfl) (by kernel_rfl) (by kernel_rfl) (fun _ _ _ h => h) (Or.inl ⟨by kernel_rfl, fun W hS => by have q9 := d2; go_simp⟩) hS ?_
  try simp only [Act.put, List.setIfInBounds_toArray, List.set_cons_zero, List.set_cons_succ]
  refine anyH_at (i := 20) (v := .bool false) 53 rfl (by kernel_rfl) (by kernel_rfl) (by kernel_rfl) (by kernel_rfl) (fun _ _ _ h => h) (Or.inl ⟨by kernel_rfl, fun W hS => by go_simp⟩) hS ?_
  try simp only [Act.put, List.setIfInBounds_toArray, List.set_cons_zero, List.set_cons_succ]
  refine anyH_at (i := 21) (v := .bool false) 54 rfl (by kernel_rfl) (by kernel_rfl) (by kernel_rfl) (by kernel_rfl) (fun _ _ _ h => h) (Or.inl ⟨by kernel_rfl, fun W hS => by go_simp⟩) hS ?_
  try simp only [Act.put, List.setIfInBounds_toArray, List.set_cons_zero, List.set_cons_succ]
  refine anyH_at (i := 22) (v := .pointer (some ⟨rb, 4, none⟩)) 55 rfl (by kernel_rfl) (by kernel_rfl) (by kernel_rfl) (by kernel_rfl) (fun _ _ _ h => h) (Or.inl ⟨by kernel_rfl, fun W hS => by go_simp⟩) hS ?_
  try simp only [Act.put, List.setIfInBounds_toArray, List.set_cons_zero, List.set_cons_succ]
  refine anyH_at (i := 23) (v := .int .i64 q.x) 56 rfl (by kernel_rfl) (by kernel_rfl) (by kernel_rfl) (by kernel_rfl) (fun _ _ _ h => h) (Or.inl ⟨by kernel_rfl, fun W hS => by have q9 := (show Blk _ _ _ _ from unhide hR).keep hS; have c0 := q9.at 0 (.int .i64 q.o) rfl; have c1 := q9.at 1 (.int .i64 q.i) rfl; have c2 := q9.at 2 (.int .i64 q.u) rfl; have c3 := q9.at 3 (.int .i64 q.n) rfl; have c4 := q9.at 4 (.int .i64 q.x) rfl; have c5 := q9.at 5 (.int .i64 q.z) rfl; go_simp⟩) hS ?_
  try simp only [Act.put, List.setIfInBounds_toArray, List.set_cons_zero, List.set_cons_succ]
  refine anyH_at (i := 24) (v := .bool false) 57 rfl (by kernel_rfl) (by kernel_rfl) (by kernel_rfl) (by kernel_rfl) (fun _ _ _ h => h) (Or.inl ⟨by kernel_rfl, fun W hS => by have q9 := d3; go_simp⟩) hS ?_
  try simp only [Act.put, List.setIfInBounds_toArray, List.set_cons_zero, List.set_cons_succ]
  refine anyH_at (i := 25) (v := .bool false) 58 rfl (by kernel_rfl) (by kernel_rfl) (by kernel_rfl) (by kernel_rfl) (fun _ _ _ h => h) (Or.inl ⟨by kernel_rfl, fun W hS => by go_simp⟩) hS ?_
  try simp only [Act.put, List.setIfInBounds_toArray, List.set_cons_zero, List.set_cons_succ]
  refine wpAnyH_done (by kernel_rfl) ?_ _
  exact NoPanic.normal (unhide H _ hS)
end Go.Proofs.Ytkccladbcehdbaa
