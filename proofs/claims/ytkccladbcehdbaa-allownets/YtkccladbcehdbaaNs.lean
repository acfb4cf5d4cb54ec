/- The drawn region of a sum of Net, by itself. -/
import Derived.Test.YtkccladbcehdbaaNp
import Derived.Test.YtkccladbcehdbaaNr
namespace Go.Proofs.Ytkccladbcehdbaa
open Go.RowKit
set_option linter.unusedVariables false
set_option linter.unusedSimpArgs false
set_option maxRecDepth 20000 in
set_option maxHeartbeats 8000000 in
theorem nreg6 {Q : Exit → Act → World → Prop} {x0 x1 x2 x3 x7 x9 x10 x11 x12 x13 x14 x15 x16 x17 x18 x19 x20 x21 x22 x23 x24 x25 x26 x27 x28 x29 x30 x31 x32 x33 x34 x35 x36 x37 x38 x39 x40 x41 x42 x43 x44 x45 x46 : Value} {V : World} {b4 b5 b6 k : Nat} {r s t : Rw} (hk : (k : Int) < 6) (m4 : Hid (V.cell? ⟨b4, k, none⟩ = some (.int .i64 (colR r k)))) (m5 : Hid (V.cell? ⟨b5, k, none⟩ = some (.int .i64 (colR s k)))) (m6 : Hid (V.cell? ⟨b6, k, none⟩ = some (.int .i64 (colR t k)))) (i4 : Hid (In64 (colR r k))) (i5 : Hid (In64 (colR s k))) (i6 : Hid (In64 (colR t k)))
    (h : ∀ (nb : Nat) (W : World), Below V.heap.size V W → Q .normal ⟨List.toArray (x0 :: x1 :: x2 :: x3 :: (.pointer (some ⟨b4, 0, none⟩) : Value) :: (.pointer (some ⟨b5, 0, none⟩) : Value) :: (.pointer (some ⟨b6, 0, none⟩) : Value) :: x7 :: (.int .i64 (k : Int) : Value) :: (.int .i64 (okN (sumC r s t k)) : Value) :: (.int .i64 (okE (sumC r s t k)) : Value) :: x11 :: x12 :: x13 :: x14 :: x15 :: x16 :: x17 :: x18 :: x19 :: x20 :: x21 :: x22 :: (.tuple #[.int .i64 (okN (sumC r s t k)), .int .i64 (okE (sumC r s t k))] : Value) :: (.int .i64 (k : Int) : Value) :: (.pointer (some ⟨b4, k, none⟩) : Value) :: (.int .i64 (colR r k) : Value) :: (.int .i64 (k : Int) : Value) :: (.pointer (some ⟨b5, k, none⟩) : Value) :: (.int .i64 (colR s k) : Value) :: (.int .i64 (k : Int) : Value) :: (.pointer (some ⟨b6, k, none⟩) : Value) :: (.int .i64 (colR t k) : Value) :: (.slice (some ⟨nb, 0, none⟩) 3 3 : Value) :: (.tuple #[.int .i64 (okN (sumC r s t k)), .int .i64 (okE (sumC r s t k))] : Value) :: (.int .i64 (okN (sumC r s t k)) : Value) :: (.int .i64 (okE (sumC r s t k)) : Value) :: x37 :: x38 :: x39 :: x40 :: x41 :: x42 :: x43 :: x44 :: x45 :: x46 :: []), []⟩ W) :
    Code.wp Try.prog ((Try.f14.body.bind (regionAt 6)).getD .skip) Q ⟨List.toArray (x0 :: x1 :: x2 :: x3 :: (.pointer (some ⟨b4, 0, none⟩) : Value) :: (.pointer (some ⟨b5, 0, none⟩) : Value) :: (.pointer (some ⟨b6, 0, none⟩) : Value) :: x7 :: (.int .i64 (k : Int) : Value) :: x9 :: x10 :: x11 :: x12 :: x13 :: x14 :: x15 :: x16 :: x17 :: x18 :: x19 :: x20 :: x21 :: x22 :: x23 :: x24 :: x25 :: x26 :: x27 :: x28 :: x29 :: x30 :: x31 :: x32 :: x33 :: x34 :: x35 :: x36 :: x37 :: x38 :: x39 :: x40 :: x41 :: x42 :: x43 :: x44 :: x45 :: x46 :: []), []⟩ V := by
  have H := hide h
  clear h
  conv => arg 2; whnf
  refine wp_region_noPanic ?_
  refine wp_region_held_drew (S := fun W => Below V.heap.size V W) (by kernel_rfl) (Below.refl _ _).drew (fun hS => ?_)
  generalize hV : V.drew = V0 at *
  clear hV
  refine anyH_at (i := 0) (v := .int .i64 (k : Int)) 24 rfl (by kernel_rfl) (by kernel_rfl) (by kernel_rfl) (by kernel_rfl) (fun _ _ _ h => h) (Or.inl ⟨by kernel_rfl, fun W hS => by go_simp⟩) hS ?_
  try simp only [Act.put, List.setIfInBounds_toArray, List.set_cons_zero, List.set_cons_succ]
  refine anyH_at (i := 1) (v := .pointer (some ⟨b4, k, none⟩)) 25 rfl (by kernel_rfl) (by kernel_rfl) (by kernel_rfl) (by kernel_rfl) (fun _ _ _ h => h) (Or.inl ⟨by kernel_rfl, fun W hS => by go_simp⟩) hS ?_
  try simp only [Act.put, List.setIfInBounds_toArray, List.set_cons_zero, List.set_cons_succ]
  refine anyH_at (i := 2) (v := .int .i64 (colR r k)) 26 rfl (by kernel_rfl) (by kernel_rfl) (by kernel_rfl) (by kernel_rfl) (fun _ _ _ h => h) (Or.inl ⟨by kernel_rfl, fun W hS => by have q := (hS.cell (p := ⟨b4, k, none⟩) (lt_of_cell (unhide m4))).trans (unhide m4); go_simp⟩) hS ?_
  try simp only [Act.put, List.setIfInBounds_toArray, List.set_cons_zero, List.set_cons_succ]
  refine anyH_at (i := 3) (v := .int .i64 (k : Int)) 27 rfl (by kernel_rfl) (by kernel_rfl) (by kernel_rfl) (by kernel_rfl) (fun _ _ _ h => h) (Or.inl ⟨by kernel_rfl, fun W hS => by go_simp⟩) hS ?_
  try simp only [Act.put, List.setIfInBounds_toArray, List.set_cons_zero, List.set_cons_succ]
  refine anyH_at (i := 4) (v := .pointer (some ⟨b5, k, none⟩)) 28 rfl (by kernel_rfl) (by kernel_rfl) (by kernel_rfl) (by kernel_rfl) (fun _ _ _ h => h) (Or.inl ⟨by kernel_rfl, fun W hS => by go_simp⟩) hS ?_
  try simp only [Act.put, List.setIfInBounds_toArray, List.set_cons_zero, List.set_cons_succ]
  refine anyH_at (i := 5) (v := .int .i64 (colR s k)) 29 rfl (by kernel_rfl) (by kernel_rfl) (by kernel_rfl) (by kernel_rfl) (fun _ _ _ h => h) (Or.inl ⟨by kernel_rfl, fun W hS => by have q := (hS.cell (p := ⟨b5, k, none⟩) (lt_of_cell (unhide m5))).trans (unhide m5); go_simp⟩) hS ?_
  try simp only [Act.put, List.setIfInBounds_toArray, List.set_cons_zero, List.set_cons_succ]
  refine anyH_at (i := 6) (v := .int .i64 (k : Int)) 30 rfl (by kernel_rfl) (by kernel_rfl) (by kernel_rfl) (by kernel_rfl) (fun _ _ _ h => h) (Or.inl ⟨by kernel_rfl, fun W hS => by go_simp⟩) hS ?_
  try simp only [Act.put, List.setIfInBounds_toArray, List.set_cons_zero, List.set_cons_succ]
  refine anyH_at (i := 7) (v := .pointer (some ⟨b6, k, none⟩)) 31 rfl (by kernel_rfl) (by kernel_rfl) (by kernel_rfl) (by kernel_rfl) (fun _ _ _ h => h) (Or.inl ⟨by kernel_rfl, fun W hS => by go_simp⟩) hS ?_
  try simp only [Act.put, List.setIfInBounds_toArray, List.set_cons_zero, List.set_cons_succ]
  refine anyH_at (i := 8) (v := .int .i64 (colR t k)) 32 rfl (by kernel_rfl) (by kernel_rfl) (by kernel_rfl) (by kernel_rfl) (fun _ _ _ h => h) (Or.inl ⟨by kernel_rfl, fun W hS => by have q := (hS.cell (p := ⟨b6, k, none⟩) (lt_of_cell (unhide m6))).trans (unhide m6); go_simp⟩) hS ?_
  try simp only [Act.put, List.setIfInBounds_toArray, List.set_cons_zero, List.set_cons_succ]
  refine wpAnyH_all (rs := [9]) (by kernel_rfl) (by simp) (AllReadyH.cons (i := 9) rfl (fun KK hK => ?_) AllReadyH.nil)
  rw [if_pos (by kernel_rfl)]
  have HX := hide (Blk.new V0 #[.int .i64 (colR r k), .int .i64 (colR s k), .int .i64 (colR t k)] 2)
  have hS1 := hide (below_via hS (below1 V0 (.cells #[.int .i64 (colR r k), .int .i64 (colR s k), .int .i64 (colR t k)] 2)))
  clear hS
  go_wp2_with fail
  refine hK.out _ _ (unhide hS1) (fun hS => ?_)
  clear hK hS1
  try simp only [Act.put, List.setIfInBounds_toArray, List.set_cons_zero, List.set_cons_succ]
  generalize V0.alloc (.cells #[.int .i64 (colR r k), .int .i64 (colR s k), .int .i64 (colR t k)] 2) = V1 at *
  generalize V0.heap.size = nb at *
  refine wpAnyH_all (rs := [10]) (by kernel_rfl) (by simp) (AllReadyH.cons (i := 10) rfl (fun KK hK => ?_) AllReadyH.nil)
  rw [if_pos (by kernel_rfl)]
  have HQ := hide (Mn.sum_any _ _ V1 (row3 (show Blk _ _ _ _ from unhide HX) (unhide i4) (unhide i5) (unhide i6)))
  rw [total3, show colR r k + colR s k + colR t k = sumC r s t k from rfl] at HQ
  have hS1 := hide hS
  clear hS
  go_wp2_with fail
  refine (unhide HQ).mono ?_
  rintro e w' ⟨rfl, rfl⟩
  go_wp2_with fail
  refine hK.out _ _ (unhide hS1) (fun hS => ?_)
  clear hK hS1 HQ
  try simp only [Act.put, List.setIfInBounds_toArray, List.set_cons_zero, List.set_cons_succ]
  refine anyH_at (i := 11) (v := .tuple #[.int .i64 (okN (sumC r s t k)), .int .i64 (okE (sumC r s t k))]) 23 rfl (by kernel_rfl) (by kernel_rfl) (by kernel_rfl) (by kernel_rfl) (fun _ _ _ h => h) (Or.inl ⟨by kernel_rfl, fun W hS => by go_simp⟩) hS ?_
  try simp only [Act.put, List.setIfInBounds_toArray, List.set_cons_zero, List.set_cons_succ]
  refine anyH_at (i := 12) (v := .int .i64 (okN (sumC r s t k))) 35 rfl (by kernel_rfl) (by kernel_rfl) (by kernel_rfl) (by kernel_rfl) (fun _ _ _ h => h) (Or.inl ⟨by kernel_rfl, fun W hS => by go_simp⟩) hS ?_
  try simp only [Act.put, List.setIfInBounds_toArray, List.set_cons_zero, List.set_cons_succ]
  refine anyH_at (i := 13) (v := .int .i64 (okE (sumC r s t k))) 36 rfl (by kernel_rfl) (by kernel_rfl) (by kernel_rfl) (by kernel_rfl) (fun _ _ _ h => h) (Or.inl ⟨by kernel_rfl, fun W hS => by go_simp⟩) hS ?_
  try simp only [Act.put, List.setIfInBounds_toArray, List.set_cons_zero, List.set_cons_succ]
  refine wpAnyH_all (rs := [14]) (by kernel_rfl) (by simp) (AllReadyH.cons (i := 14) rfl (fun KK hK => ?_) AllReadyH.nil)
  rw [if_pos (by kernel_rfl)]
  have hS1 := hide hS
  clear hS
  go_wp2_with fail
  refine hK.out _ _ (unhide hS1) (fun hS => ?_)
  clear hK hS1
  try simp only [Act.put, List.setIfInBounds_toArray, List.set_cons_zero, List.set_cons_succ]
  refine wpAnyH_all (rs := [15]) (by kernel_rfl) (by simp) (AllReadyH.cons (i := 15) rfl (fun KK hK => ?_) AllReadyH.nil)
  rw [if_pos (by kernel_rfl)]
  have hS1 := hide hS
  clear hS
  go_wp2_with fail
  refine hK.out _ _ (unhide hS1) (fun hS => ?_)
  clear hK hS1
  try simp only [Act.put, List.setIfInBounds_toArray, List.set_cons_zero, List.set_cons_succ]
  refine wpAnyH_done (by kernel_rfl) ?_ _
  exact NoPanic.normal (unhide H nb _ hS)
end Go.Proofs.Ytkccladbcehdbaa
