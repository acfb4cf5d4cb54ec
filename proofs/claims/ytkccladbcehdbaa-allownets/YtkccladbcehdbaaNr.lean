/- The drawn region of Net: three calls and three arrays, in whatever order. -/
import Derived.Test.YtkccladbcehdbaaNu
import Derived.Test.YtkccladbcehdbaaRz
import Derived.Test.YtkccladbcehdbaaCp
namespace Go.Proofs.Ytkccladbcehdbaa
open Go.RowKit
set_option linter.unusedVariables false
set_option linter.unusedSimpArgs false
theorem anyH_at {P : Program} {md : Region.Mode} {ops : Array Oper} {Q : Exit → Act → World → Prop} {S : World → Prop} {i : Nat} {oi : Oper} {v : Value} {fuel : Nat} {listed : Array Bool} {a : Act} {w : World} (d : Nat) (hi : ops[i]? = some oi) (hd : oi.dst = some d)
    (hs : Region.noSelect ops = true) (hf : Region.free md ops listed i = true) (hr : (Region.ready md ops listed).contains i = true)
    (hQ : ∀ c a w, Q (.panic c) (a.put (some d) v) w → Q (.panic c) a w) (hy : YieldsIf P ops S oi v a) (hS : S w)
    (h : wpAnyH P md ops Q S fuel (listed.setIfInBounds i true) (a.put (some d) v) w) : wpAnyH P md ops Q S (fuel + 1) listed a w := by
  rw [← hd] at h
  exact wpAnyH_take hi hs hf hr (by rw [hd]; exact hQ) hy hS h
def opsOf : Code → Array Oper
  | .region _ o _ => o
  | _ => #[]
theorem n3_456_012 {Q : Exit → Act → World → Prop} {x0 x2 x3 x7 x8 x9 x10 x20 x21 x22 x23 x24 x25 x26 x27 x28 x29 x30 x31 x32 x33 x34 x35 x36 x37 x38 x39 x40 x41 x42 x43 x44 x45 x46 : Value} {V w : World} {bx b4 b5 b6 : Nat} {r s t : Rw} (K4 : Hid (Blk w b4 (cells6 r) 60)) (G4 : Hid (V.heap.size ≤ b4)) (K5 : Hid (Blk w b5 (cells6 s) 60)) (G5 : Hid (V.heap.size ≤ b5)) (K6 : Hid (Blk w b6 (cells6 t) 60)) (G6 : Hid (V.heap.size ≤ b6)) (N45 : Hid (b4 ≠ b5)) (N46 : Hid (b4 ≠ b6)) (N56 : Hid (b5 ≠ b6)) (hS : Below V.heap.size V w)
    (H : Hid (∀ (b4 b5 b6 : Nat) (W : World), Blk W b4 (cells6 r) 60 → Blk W b5 (cells6 s) 60 → Blk W b6 (cells6 t) 60 → V.heap.size ≤ b4 → V.heap.size ≤ b5 → V.heap.size ≤ b6 → Below V.heap.size V W → Q .normal ⟨List.toArray (x0 :: (.pointer (some ⟨bx, 0, none⟩) : Value) :: x2 :: x3 :: (.pointer (some ⟨b4, 0, none⟩) : Value) :: (.pointer (some ⟨b5, 0, none⟩) : Value) :: (.pointer (some ⟨b6, 0, none⟩) : Value) :: x7 :: x8 :: x9 :: x10 :: (.pointer (some ⟨bx, 0, none⟩) : Value) :: (.agg (cells6 r) : Value) :: (.agg (cells6 r) : Value) :: (.pointer (some ⟨bx, 6, none⟩) : Value) :: (.agg (cells6 s) : Value) :: (.agg (cells6 s) : Value) :: (.pointer (some ⟨bx, 12, none⟩) : Value) :: (.agg (cells6 t) : Value) :: (.agg (cells6 t) : Value) :: x20 :: x21 :: x22 :: x23 :: x24 :: x25 :: x26 :: x27 :: x28 :: x29 :: x30 :: x31 :: x32 :: x33 :: x34 :: x35 :: x36 :: x37 :: x38 :: x39 :: x40 :: x41 :: x42 :: x43 :: x44 :: x45 :: x46 :: []), []⟩ W)) :
    wpAnyH Try.prog .any (opsOf ((Try.f14.body.bind (regionAt 1)).getD .skip)) (NoPanic Q) (fun W => Below V.heap.size V W) 0 (List.toArray (true :: true :: true :: true :: true :: true :: true :: true :: true :: true :: true :: true :: true :: true :: true :: [])) ⟨List.toArray (x0 :: (.pointer (some ⟨bx, 0, none⟩) : Value) :: x2 :: x3 :: (.pointer (some ⟨b4, 0, none⟩) : Value) :: (.pointer (some ⟨b5, 0, none⟩) : Value) :: (.pointer (some ⟨b6, 0, none⟩) : Value) :: x7 :: x8 :: x9 :: x10 :: (.pointer (some ⟨bx, 0, none⟩) : Value) :: (.agg (cells6 r) : Value) :: (.agg (cells6 r) : Value) :: (.pointer (some ⟨bx, 6, none⟩) : Value) :: (.agg (cells6 s) : Value) :: (.agg (cells6 s) : Value) :: (.pointer (some ⟨bx, 12, none⟩) : Value) :: (.agg (cells6 t) : Value) :: (.agg (cells6 t) : Value) :: x20 :: x21 :: x22 :: x23 :: x24 :: x25 :: x26 :: x27 :: x28 :: x29 :: x30 :: x31 :: x32 :: x33 :: x34 :: x35 :: x36 :: x37 :: x38 :: x39 :: x40 :: x41 :: x42 :: x43 :: x44 :: x45 :: x46 :: []), []⟩ w := by
  conv => arg 3; whnf
  exact wpAnyH_done (by kernel_rfl) (NoPanic.normal (unhide H _ _ _ _ (unhide K4) (unhide K5) (unhide K6) (unhide G4) (unhide G5) (unhide G6) hS)) _
theorem n3_456_01 {Q : Exit → Act → World → Prop} {x0 x2 x3 x7 x8 x9 x10 x20 x21 x22 x23 x24 x25 x26 x27 x28 x29 x30 x31 x32 x33 x34 x35 x36 x37 x38 x39 x40 x41 x42 x43 x44 x45 x46 : Value} {V w : World} {bx b4 b5 b6 : Nat} {r s t : Rw} (K4 : Hid (Blk w b4 (cells6 r) 60)) (G4 : Hid (V.heap.size ≤ b4)) (K5 : Hid (Blk w b5 (cells6 s) 60)) (G5 : Hid (V.heap.size ≤ b5)) (K6 : Hid (Blk w b6 #[.int .i64 0, .int .i64 0, .int .i64 0, .int .i64 0, .int .i64 0, .int .i64 0] 60)) (G6 : Hid (V.heap.size ≤ b6)) (N45 : Hid (b4 ≠ b5)) (N46 : Hid (b4 ≠ b6)) (N56 : Hid (b5 ≠ b6)) (hS : Below V.heap.size V w)
    (H : Hid (∀ (b4 b5 b6 : Nat) (W : World), Blk W b4 (cells6 r) 60 → Blk W b5 (cells6 s) 60 → Blk W b6 (cells6 t) 60 → V.heap.size ≤ b4 → V.heap.size ≤ b5 → V.heap.size ≤ b6 → Below V.heap.size V W → Q .normal ⟨List.toArray (x0 :: (.pointer (some ⟨bx, 0, none⟩) : Value) :: x2 :: x3 :: (.pointer (some ⟨b4, 0, none⟩) : Value) :: (.pointer (some ⟨b5, 0, none⟩) : Value) :: (.pointer (some ⟨b6, 0, none⟩) : Value) :: x7 :: x8 :: x9 :: x10 :: (.pointer (some ⟨bx, 0, none⟩) : Value) :: (.agg (cells6 r) : Value) :: (.agg (cells6 r) : Value) :: (.pointer (some ⟨bx, 6, none⟩) : Value) :: (.agg (cells6 s) : Value) :: (.agg (cells6 s) : Value) :: (.pointer (some ⟨bx, 12, none⟩) : Value) :: (.agg (cells6 t) : Value) :: (.agg (cells6 t) : Value) :: x20 :: x21 :: x22 :: x23 :: x24 :: x25 :: x26 :: x27 :: x28 :: x29 :: x30 :: x31 :: x32 :: x33 :: x34 :: x35 :: x36 :: x37 :: x38 :: x39 :: x40 :: x41 :: x42 :: x43 :: x44 :: x45 :: x46 :: []), []⟩ W)) :
    wpAnyH Try.prog .any (opsOf ((Try.f14.body.bind (regionAt 1)).getD .skip)) (NoPanic Q) (fun W => Below V.heap.size V W) 1 (List.toArray (true :: true :: true :: true :: true :: true :: true :: true :: true :: true :: true :: true :: true :: true :: false :: [])) ⟨List.toArray (x0 :: (.pointer (some ⟨bx, 0, none⟩) : Value) :: x2 :: x3 :: (.pointer (some ⟨b4, 0, none⟩) : Value) :: (.pointer (some ⟨b5, 0, none⟩) : Value) :: (.pointer (some ⟨b6, 0, none⟩) : Value) :: x7 :: x8 :: x9 :: x10 :: (.pointer (some ⟨bx, 0, none⟩) : Value) :: (.agg (cells6 r) : Value) :: (.agg (cells6 r) : Value) :: (.pointer (some ⟨bx, 6, none⟩) : Value) :: (.agg (cells6 s) : Value) :: (.agg (cells6 s) : Value) :: (.pointer (some ⟨bx, 12, none⟩) : Value) :: (.agg (cells6 t) : Value) :: (.agg (cells6 t) : Value) :: x20 :: x21 :: x22 :: x23 :: x24 :: x25 :: x26 :: x27 :: x28 :: x29 :: x30 :: x31 :: x32 :: x33 :: x34 :: x35 :: x36 :: x37 :: x38 :: x39 :: x40 :: x41 :: x42 :: x43 :: x44 :: x45 :: x46 :: []), []⟩ w := by
  conv => arg 3; whnf
  refine wpAnyH_all (rs := [14]) (by kernel_rfl) (by simp) (AllReadyH.cons (i := 14) rfl (fun KK hK => ?_) AllReadyH.nil)
  rw [if_pos (by kernel_rfl)]
  refine storeO_blk 60 _ _ rfl (show Blk _ _ _ _ from unhide K6) rfl rfl size60 rfl rfl rfl ?_
  intro Y1 k1 kp
  replace K4 := hide (kp.blk (by have := unhide N46; omega) (show Blk _ _ _ _ from unhide K4))
  replace K5 := hide (kp.blk (by have := unhide N56; omega) (show Blk _ _ _ _ from unhide K5))
  replace K6 := hide k1
  have hS1 := hide (kp.bel (unhide G6) hS)
  clear hS kp k1
  refine hK.out _ _ (unhide hS1) (fun hS => ?_)
  clear hK hS1
  try simp only [Act.put, List.setIfInBounds_toArray, List.set_cons_zero, List.set_cons_succ]
  exact n3_456_012 K4 G4 K5 G5 K6 G6 N45 N46 N56 hS H
theorem n3_456_0 {Q : Exit → Act → World → Prop} {x0 x2 x3 x7 x8 x9 x10 x20 x21 x22 x23 x24 x25 x26 x27 x28 x29 x30 x31 x32 x33 x34 x35 x36 x37 x38 x39 x40 x41 x42 x43 x44 x45 x46 : Value} {V w : World} {bx b4 b5 b6 : Nat} {r s t : Rw} (K4 : Hid (Blk w b4 (cells6 r) 60)) (G4 : Hid (V.heap.size ≤ b4)) (K5 : Hid (Blk w b5 #[.int .i64 0, .int .i64 0, .int .i64 0, .int .i64 0, .int .i64 0, .int .i64 0] 60)) (G5 : Hid (V.heap.size ≤ b5)) (K6 : Hid (Blk w b6 #[.int .i64 0, .int .i64 0, .int .i64 0, .int .i64 0, .int .i64 0, .int .i64 0] 60)) (G6 : Hid (V.heap.size ≤ b6)) (N45 : Hid (b4 ≠ b5)) (N46 : Hid (b4 ≠ b6)) (N56 : Hid (b5 ≠ b6)) (hS : Below V.heap.size V w)
    (H : Hid (∀ (b4 b5 b6 : Nat) (W : World), Blk W b4 (cells6 r) 60 → Blk W b5 (cells6 s) 60 → Blk W b6 (cells6 t) 60 → V.heap.size ≤ b4 → V.heap.size ≤ b5 → V.heap.size ≤ b6 → Below V.heap.size V W → Q .normal ⟨List.toArray (x0 :: (.pointer (some ⟨bx, 0, none⟩) : Value) :: x2 :: x3 :: (.pointer (some ⟨b4, 0, none⟩) : Value) :: (.pointer (some ⟨b5, 0, none⟩) : Value) :: (.pointer (some ⟨b6, 0, none⟩) : Value) :: x7 :: x8 :: x9 :: x10 :: (.pointer (some ⟨bx, 0, none⟩) : Value) :: (.agg (cells6 r) : Value) :: (.agg (cells6 r) : Value) :: (.pointer (some ⟨bx, 6, none⟩) : Value) :: (.agg (cells6 s) : Value) :: (.agg (cells6 s) : Value) :: (.pointer (some ⟨bx, 12, none⟩) : Value) :: (.agg (cells6 t) : Value) :: (.agg (cells6 t) : Value) :: x20 :: x21 :: x22 :: x23 :: x24 :: x25 :: x26 :: x27 :: x28 :: x29 :: x30 :: x31 :: x32 :: x33 :: x34 :: x35 :: x36 :: x37 :: x38 :: x39 :: x40 :: x41 :: x42 :: x43 :: x44 :: x45 :: x46 :: []), []⟩ W)) :
    wpAnyH Try.prog .any (opsOf ((Try.f14.body.bind (regionAt 1)).getD .skip)) (NoPanic Q) (fun W => Below V.heap.size V W) 2 (List.toArray (true :: true :: true :: true :: true :: true :: true :: true :: true :: true :: true :: true :: true :: false :: false :: [])) ⟨List.toArray (x0 :: (.pointer (some ⟨bx, 0, none⟩) : Value) :: x2 :: x3 :: (.pointer (some ⟨b4, 0, none⟩) : Value) :: (.pointer (some ⟨b5, 0, none⟩) : Value) :: (.pointer (some ⟨b6, 0, none⟩) : Value) :: x7 :: x8 :: x9 :: x10 :: (.pointer (some ⟨bx, 0, none⟩) : Value) :: (.agg (cells6 r) : Value) :: (.agg (cells6 r) : Value) :: (.pointer (some ⟨bx, 6, none⟩) : Value) :: (.agg (cells6 s) : Value) :: (.agg (cells6 s) : Value) :: (.pointer (some ⟨bx, 12, none⟩) : Value) :: (.agg (cells6 t) : Value) :: (.agg (cells6 t) : Value) :: x20 :: x21 :: x22 :: x23 :: x24 :: x25 :: x26 :: x27 :: x28 :: x29 :: x30 :: x31 :: x32 :: x33 :: x34 :: x35 :: x36 :: x37 :: x38 :: x39 :: x40 :: x41 :: x42 :: x43 :: x44 :: x45 :: x46 :: []), []⟩ w := by
  conv => arg 3; whnf
  refine wpAnyH_all (rs := [13]) (by kernel_rfl) (by simp) (AllReadyH.cons (i := 13) rfl (fun KK hK => ?_) AllReadyH.nil)
  rw [if_pos (by kernel_rfl)]
  refine storeO_blk 60 _ _ rfl (show Blk _ _ _ _ from unhide K5) rfl rfl size60 rfl rfl rfl ?_
  intro Y1 k1 kp
  replace K4 := hide (kp.blk (by have := unhide N45; omega) (show Blk _ _ _ _ from unhide K4))
  replace K6 := hide (kp.blk (by have := unhide N56; omega) (show Blk _ _ _ _ from unhide K6))
  replace K5 := hide k1
  have hS1 := hide (kp.bel (unhide G5) hS)
  clear hS kp k1
  refine hK.out _ _ (unhide hS1) (fun hS => ?_)
  clear hK hS1
  try simp only [Act.put, List.setIfInBounds_toArray, List.set_cons_zero, List.set_cons_succ]
  exact n3_456_01 K4 G4 K5 G5 K6 G6 N45 N46 N56 hS H
theorem n3_456 {Q : Exit → Act → World → Prop} {x0 x2 x3 x7 x8 x9 x10 x20 x21 x22 x23 x24 x25 x26 x27 x28 x29 x30 x31 x32 x33 x34 x35 x36 x37 x38 x39 x40 x41 x42 x43 x44 x45 x46 : Value} {V w : World} {bx b4 b5 b6 : Nat} {r s t : Rw} (K4 : Hid (Blk w b4 #[.int .i64 0, .int .i64 0, .int .i64 0, .int .i64 0, .int .i64 0, .int .i64 0] 60)) (G4 : Hid (V.heap.size ≤ b4)) (K5 : Hid (Blk w b5 #[.int .i64 0, .int .i64 0, .int .i64 0, .int .i64 0, .int .i64 0, .int .i64 0] 60)) (G5 : Hid (V.heap.size ≤ b5)) (K6 : Hid (Blk w b6 #[.int .i64 0, .int .i64 0, .int .i64 0, .int .i64 0, .int .i64 0, .int .i64 0] 60)) (G6 : Hid (V.heap.size ≤ b6)) (N45 : Hid (b4 ≠ b5)) (N46 : Hid (b4 ≠ b6)) (N56 : Hid (b5 ≠ b6)) (hS : Below V.heap.size V w)
    (H : Hid (∀ (b4 b5 b6 : Nat) (W : World), Blk W b4 (cells6 r) 60 → Blk W b5 (cells6 s) 60 → Blk W b6 (cells6 t) 60 → V.heap.size ≤ b4 → V.heap.size ≤ b5 → V.heap.size ≤ b6 → Below V.heap.size V W → Q .normal ⟨List.toArray (x0 :: (.pointer (some ⟨bx, 0, none⟩) : Value) :: x2 :: x3 :: (.pointer (some ⟨b4, 0, none⟩) : Value) :: (.pointer (some ⟨b5, 0, none⟩) : Value) :: (.pointer (some ⟨b6, 0, none⟩) : Value) :: x7 :: x8 :: x9 :: x10 :: (.pointer (some ⟨bx, 0, none⟩) : Value) :: (.agg (cells6 r) : Value) :: (.agg (cells6 r) : Value) :: (.pointer (some ⟨bx, 6, none⟩) : Value) :: (.agg (cells6 s) : Value) :: (.agg (cells6 s) : Value) :: (.pointer (some ⟨bx, 12, none⟩) : Value) :: (.agg (cells6 t) : Value) :: (.agg (cells6 t) : Value) :: x20 :: x21 :: x22 :: x23 :: x24 :: x25 :: x26 :: x27 :: x28 :: x29 :: x30 :: x31 :: x32 :: x33 :: x34 :: x35 :: x36 :: x37 :: x38 :: x39 :: x40 :: x41 :: x42 :: x43 :: x44 :: x45 :: x46 :: []), []⟩ W)) :
    wpAnyH Try.prog .any (opsOf ((Try.f14.body.bind (regionAt 1)).getD .skip)) (NoPanic Q) (fun W => Below V.heap.size V W) 3 (List.toArray (true :: true :: true :: true :: true :: true :: true :: true :: true :: true :: true :: true :: false :: false :: false :: [])) ⟨List.toArray (x0 :: (.pointer (some ⟨bx, 0, none⟩) : Value) :: x2 :: x3 :: (.pointer (some ⟨b4, 0, none⟩) : Value) :: (.pointer (some ⟨b5, 0, none⟩) : Value) :: (.pointer (some ⟨b6, 0, none⟩) : Value) :: x7 :: x8 :: x9 :: x10 :: (.pointer (some ⟨bx, 0, none⟩) : Value) :: (.agg (cells6 r) : Value) :: (.agg (cells6 r) : Value) :: (.pointer (some ⟨bx, 6, none⟩) : Value) :: (.agg (cells6 s) : Value) :: (.agg (cells6 s) : Value) :: (.pointer (some ⟨bx, 12, none⟩) : Value) :: (.agg (cells6 t) : Value) :: (.agg (cells6 t) : Value) :: x20 :: x21 :: x22 :: x23 :: x24 :: x25 :: x26 :: x27 :: x28 :: x29 :: x30 :: x31 :: x32 :: x33 :: x34 :: x35 :: x36 :: x37 :: x38 :: x39 :: x40 :: x41 :: x42 :: x43 :: x44 :: x45 :: x46 :: []), []⟩ w := by
  conv => arg 3; whnf
  refine wpAnyH_all (rs := [12]) (by kernel_rfl) (by simp) (AllReadyH.cons (i := 12) rfl (fun KK hK => ?_) AllReadyH.nil)
  rw [if_pos (by kernel_rfl)]
  refine storeO_blk 60 _ _ rfl (show Blk _ _ _ _ from unhide K4) rfl rfl size60 rfl rfl rfl ?_
  intro Y1 k1 kp
  replace K5 := hide (kp.blk (by have := unhide N45; omega) (show Blk _ _ _ _ from unhide K5))
  replace K6 := hide (kp.blk (by have := unhide N46; omega) (show Blk _ _ _ _ from unhide K6))
  replace K4 := hide k1
  have hS1 := hide (kp.bel (unhide G4) hS)
  clear hS kp k1
  refine hK.out _ _ (unhide hS1) (fun hS => ?_)
  clear hK hS1
  try simp only [Act.put, List.setIfInBounds_toArray, List.set_cons_zero, List.set_cons_succ]
  exact n3_456_0 K4 G4 K5 G5 K6 G6 N45 N46 N56 hS H
theorem n3_45 {Q : Exit → Act → World → Prop} {x0 x2 x3 x6 x7 x8 x9 x10 x20 x21 x22 x23 x24 x25 x26 x27 x28 x29 x30 x31 x32 x33 x34 x35 x36 x37 x38 x39 x40 x41 x42 x43 x44 x45 x46 : Value} {V w : World} {bx b4 b5 : Nat} {r s t : Rw} (K4 : Hid (Blk w b4 #[.int .i64 0, .int .i64 0, .int .i64 0, .int .i64 0, .int .i64 0, .int .i64 0] 60)) (G4 : Hid (V.heap.size ≤ b4)) (K5 : Hid (Blk w b5 #[.int .i64 0, .int .i64 0, .int .i64 0, .int .i64 0, .int .i64 0, .int .i64 0] 60)) (G5 : Hid (V.heap.size ≤ b5)) (N45 : Hid (b4 ≠ b5)) (hS : Below V.heap.size V w)
    (H : Hid (∀ (b4 b5 b6 : Nat) (W : World), Blk W b4 (cells6 r) 60 → Blk W b5 (cells6 s) 60 → Blk W b6 (cells6 t) 60 → V.heap.size ≤ b4 → V.heap.size ≤ b5 → V.heap.size ≤ b6 → Below V.heap.size V W → Q .normal ⟨List.toArray (x0 :: (.pointer (some ⟨bx, 0, none⟩) : Value) :: x2 :: x3 :: (.pointer (some ⟨b4, 0, none⟩) : Value) :: (.pointer (some ⟨b5, 0, none⟩) : Value) :: (.pointer (some ⟨b6, 0, none⟩) : Value) :: x7 :: x8 :: x9 :: x10 :: (.pointer (some ⟨bx, 0, none⟩) : Value) :: (.agg (cells6 r) : Value) :: (.agg (cells6 r) : Value) :: (.pointer (some ⟨bx, 6, none⟩) : Value) :: (.agg (cells6 s) : Value) :: (.agg (cells6 s) : Value) :: (.pointer (some ⟨bx, 12, none⟩) : Value) :: (.agg (cells6 t) : Value) :: (.agg (cells6 t) : Value) :: x20 :: x21 :: x22 :: x23 :: x24 :: x25 :: x26 :: x27 :: x28 :: x29 :: x30 :: x31 :: x32 :: x33 :: x34 :: x35 :: x36 :: x37 :: x38 :: x39 :: x40 :: x41 :: x42 :: x43 :: x44 :: x45 :: x46 :: []), []⟩ W)) :
    wpAnyH Try.prog .any (opsOf ((Try.f14.body.bind (regionAt 1)).getD .skip)) (NoPanic Q) (fun W => Below V.heap.size V W) 4 (List.toArray (true :: true :: true :: true :: true :: true :: true :: true :: true :: true :: true :: false :: false :: false :: false :: [])) ⟨List.toArray (x0 :: (.pointer (some ⟨bx, 0, none⟩) : Value) :: x2 :: x3 :: (.pointer (some ⟨b4, 0, none⟩) : Value) :: (.pointer (some ⟨b5, 0, none⟩) : Value) :: x6 :: x7 :: x8 :: x9 :: x10 :: (.pointer (some ⟨bx, 0, none⟩) : Value) :: (.agg (cells6 r) : Value) :: (.agg (cells6 r) : Value) :: (.pointer (some ⟨bx, 6, none⟩) : Value) :: (.agg (cells6 s) : Value) :: (.agg (cells6 s) : Value) :: (.pointer (some ⟨bx, 12, none⟩) : Value) :: (.agg (cells6 t) : Value) :: (.agg (cells6 t) : Value) :: x20 :: x21 :: x22 :: x23 :: x24 :: x25 :: x26 :: x27 :: x28 :: x29 :: x30 :: x31 :: x32 :: x33 :: x34 :: x35 :: x36 :: x37 :: x38 :: x39 :: x40 :: x41 :: x42 :: x43 :: x44 :: x45 :: x46 :: []), []⟩ w := by
  conv => arg 3; whnf
  refine wpAnyH_all (rs := [11]) (by kernel_rfl) (by simp) (AllReadyH.cons (i := 11) rfl (fun KK hK => ?_) AllReadyH.nil)
  rw [if_pos (by kernel_rfl)]
  have K6 := hide (Blk.new w #[.int .i64 0, .int .i64 0, .int .i64 0, .int .i64 0, .int .i64 0, .int .i64 0] 60)
  have G6 := hide hS.size
  have N46 := hide (show b4 ≠ w.heap.size by have := (show Blk _ _ _ _ from unhide K4).lt; omega)
  have N56 := hide (show b5 ≠ w.heap.size by have := (show Blk _ _ _ _ from unhide K5).lt; omega)
  replace K4 := hide ((show Blk _ _ _ _ from unhide K4).keep (below1 w (.cells #[.int .i64 0, .int .i64 0, .int .i64 0, .int .i64 0, .int .i64 0, .int .i64 0] 60)))
  replace K5 := hide ((show Blk _ _ _ _ from unhide K5).keep (below1 w (.cells #[.int .i64 0, .int .i64 0, .int .i64 0, .int .i64 0, .int .i64 0, .int .i64 0] 60)))
  have hS2 := hide (below_via hS (below1 w (.cells #[.int .i64 0, .int .i64 0, .int .i64 0, .int .i64 0, .int .i64 0, .int .i64 0] 60)))
  clear hS
  go_wp2_with fail
  refine hK.out _ _ (unhide hS2) (fun hS => ?_)
  clear hK hS2
  try simp only [Act.put, List.setIfInBounds_toArray, List.set_cons_zero, List.set_cons_succ]
  exact n3_456 K4 G4 K5 G5 K6 G6 N45 N46 N56 hS H
theorem n3_46 {Q : Exit → Act → World → Prop} {x0 x2 x3 x5 x7 x8 x9 x10 x20 x21 x22 x23 x24 x25 x26 x27 x28 x29 x30 x31 x32 x33 x34 x35 x36 x37 x38 x39 x40 x41 x42 x43 x44 x45 x46 : Value} {V w : World} {bx b4 b6 : Nat} {r s t : Rw} (K4 : Hid (Blk w b4 #[.int .i64 0, .int .i64 0, .int .i64 0, .int .i64 0, .int .i64 0, .int .i64 0] 60)) (G4 : Hid (V.heap.size ≤ b4)) (K6 : Hid (Blk w b6 #[.int .i64 0, .int .i64 0, .int .i64 0, .int .i64 0, .int .i64 0, .int .i64 0] 60)) (G6 : Hid (V.heap.size ≤ b6)) (N46 : Hid (b4 ≠ b6)) (hS : Below V.heap.size V w)
    (H : Hid (∀ (b4 b5 b6 : Nat) (W : World), Blk W b4 (cells6 r) 60 → Blk W b5 (cells6 s) 60 → Blk W b6 (cells6 t) 60 → V.heap.size ≤ b4 → V.heap.size ≤ b5 → V.heap.size ≤ b6 → Below V.heap.size V W → Q .normal ⟨List.toArray (x0 :: (.pointer (some ⟨bx, 0, none⟩) : Value) :: x2 :: x3 :: (.pointer (some ⟨b4, 0, none⟩) : Value) :: (.pointer (some ⟨b5, 0, none⟩) : Value) :: (.pointer (some ⟨b6, 0, none⟩) : Value) :: x7 :: x8 :: x9 :: x10 :: (.pointer (some ⟨bx, 0, none⟩) : Value) :: (.agg (cells6 r) : Value) :: (.agg (cells6 r) : Value) :: (.pointer (some ⟨bx, 6, none⟩) : Value) :: (.agg (cells6 s) : Value) :: (.agg (cells6 s) : Value) :: (.pointer (some ⟨bx, 12, none⟩) : Value) :: (.agg (cells6 t) : Value) :: (.agg (cells6 t) : Value) :: x20 :: x21 :: x22 :: x23 :: x24 :: x25 :: x26 :: x27 :: x28 :: x29 :: x30 :: x31 :: x32 :: x33 :: x34 :: x35 :: x36 :: x37 :: x38 :: x39 :: x40 :: x41 :: x42 :: x43 :: x44 :: x45 :: x46 :: []), []⟩ W)) :
    wpAnyH Try.prog .any (opsOf ((Try.f14.body.bind (regionAt 1)).getD .skip)) (NoPanic Q) (fun W => Below V.heap.size V W) 4 (List.toArray (true :: true :: true :: true :: true :: true :: true :: true :: true :: true :: false :: true :: false :: false :: false :: [])) ⟨List.toArray (x0 :: (.pointer (some ⟨bx, 0, none⟩) : Value) :: x2 :: x3 :: (.pointer (some ⟨b4, 0, none⟩) : Value) :: x5 :: (.pointer (some ⟨b6, 0, none⟩) : Value) :: x7 :: x8 :: x9 :: x10 :: (.pointer (some ⟨bx, 0, none⟩) : Value) :: (.agg (cells6 r) : Value) :: (.agg (cells6 r) : Value) :: (.pointer (some ⟨bx, 6, none⟩) : Value) :: (.agg (cells6 s) : Value) :: (.agg (cells6 s) : Value) :: (.pointer (some ⟨bx, 12, none⟩) : Value) :: (.agg (cells6 t) : Value) :: (.agg (cells6 t) : Value) :: x20 :: x21 :: x22 :: x23 :: x24 :: x25 :: x26 :: x27 :: x28 :: x29 :: x30 :: x31 :: x32 :: x33 :: x34 :: x35 :: x36 :: x37 :: x38 :: x39 :: x40 :: x41 :: x42 :: x43 :: x44 :: x45 :: x46 :: []), []⟩ w := by
  conv => arg 3; whnf
  refine wpAnyH_all (rs := [10]) (by kernel_rfl) (by simp) (AllReadyH.cons (i := 10) rfl (fun KK hK => ?_) AllReadyH.nil)
  rw [if_pos (by kernel_rfl)]
  have K5 := hide (Blk.new w #[.int .i64 0, .int .i64 0, .int .i64 0, .int .i64 0, .int .i64 0, .int .i64 0] 60)
  have G5 := hide hS.size
  have N45 := hide (show b4 ≠ w.heap.size by have := (show Blk _ _ _ _ from unhide K4).lt; omega)
  have N56 := hide (show w.heap.size ≠ b6 by have := (show Blk _ _ _ _ from unhide K6).lt; omega)
  replace K4 := hide ((show Blk _ _ _ _ from unhide K4).keep (below1 w (.cells #[.int .i64 0, .int .i64 0, .int .i64 0, .int .i64 0, .int .i64 0, .int .i64 0] 60)))
  replace K6 := hide ((show Blk _ _ _ _ from unhide K6).keep (below1 w (.cells #[.int .i64 0, .int .i64 0, .int .i64 0, .int .i64 0, .int .i64 0, .int .i64 0] 60)))
  have hS2 := hide (below_via hS (below1 w (.cells #[.int .i64 0, .int .i64 0, .int .i64 0, .int .i64 0, .int .i64 0, .int .i64 0] 60)))
  clear hS
  go_wp2_with fail
  refine hK.out _ _ (unhide hS2) (fun hS => ?_)
  clear hK hS2
  try simp only [Act.put, List.setIfInBounds_toArray, List.set_cons_zero, List.set_cons_succ]
  exact n3_456 K4 G4 K5 G5 K6 G6 N45 N46 N56 hS H
theorem n3_56 {Q : Exit → Act → World → Prop} {x0 x2 x3 x4 x7 x8 x9 x10 x20 x21 x22 x23 x24 x25 x26 x27 x28 x29 x30 x31 x32 x33 x34 x35 x36 x37 x38 x39 x40 x41 x42 x43 x44 x45 x46 : Value} {V w : World} {bx b5 b6 : Nat} {r s t : Rw} (K5 : Hid (Blk w b5 #[.int .i64 0, .int .i64 0, .int .i64 0, .int .i64 0, .int .i64 0, .int .i64 0] 60)) (G5 : Hid (V.heap.size ≤ b5)) (K6 : Hid (Blk w b6 #[.int .i64 0, .int .i64 0, .int .i64 0, .int .i64 0, .int .i64 0, .int .i64 0] 60)) (G6 : Hid (V.heap.size ≤ b6)) (N56 : Hid (b5 ≠ b6)) (hS : Below V.heap.size V w)
    (H : Hid (∀ (b4 b5 b6 : Nat) (W : World), Blk W b4 (cells6 r) 60 → Blk W b5 (cells6 s) 60 → Blk W b6 (cells6 t) 60 → V.heap.size ≤ b4 → V.heap.size ≤ b5 → V.heap.size ≤ b6 → Below V.heap.size V W → Q .normal ⟨List.toArray (x0 :: (.pointer (some ⟨bx, 0, none⟩) : Value) :: x2 :: x3 :: (.pointer (some ⟨b4, 0, none⟩) : Value) :: (.pointer (some ⟨b5, 0, none⟩) : Value) :: (.pointer (some ⟨b6, 0, none⟩) : Value) :: x7 :: x8 :: x9 :: x10 :: (.pointer (some ⟨bx, 0, none⟩) : Value) :: (.agg (cells6 r) : Value) :: (.agg (cells6 r) : Value) :: (.pointer (some ⟨bx, 6, none⟩) : Value) :: (.agg (cells6 s) : Value) :: (.agg (cells6 s) : Value) :: (.pointer (some ⟨bx, 12, none⟩) : Value) :: (.agg (cells6 t) : Value) :: (.agg (cells6 t) : Value) :: x20 :: x21 :: x22 :: x23 :: x24 :: x25 :: x26 :: x27 :: x28 :: x29 :: x30 :: x31 :: x32 :: x33 :: x34 :: x35 :: x36 :: x37 :: x38 :: x39 :: x40 :: x41 :: x42 :: x43 :: x44 :: x45 :: x46 :: []), []⟩ W)) :
    wpAnyH Try.prog .any (opsOf ((Try.f14.body.bind (regionAt 1)).getD .skip)) (NoPanic Q) (fun W => Below V.heap.size V W) 4 (List.toArray (true :: true :: true :: true :: true :: true :: true :: true :: true :: false :: true :: true :: false :: false :: false :: [])) ⟨List.toArray (x0 :: (.pointer (some ⟨bx, 0, none⟩) : Value) :: x2 :: x3 :: x4 :: (.pointer (some ⟨b5, 0, none⟩) : Value) :: (.pointer (some ⟨b6, 0, none⟩) : Value) :: x7 :: x8 :: x9 :: x10 :: (.pointer (some ⟨bx, 0, none⟩) : Value) :: (.agg (cells6 r) : Value) :: (.agg (cells6 r) : Value) :: (.pointer (some ⟨bx, 6, none⟩) : Value) :: (.agg (cells6 s) : Value) :: (.agg (cells6 s) : Value) :: (.pointer (some ⟨bx, 12, none⟩) : Value) :: (.agg (cells6 t) : Value) :: (.agg (cells6 t) : Value) :: x20 :: x21 :: x22 :: x23 :: x24 :: x25 :: x26 :: x27 :: x28 :: x29 :: x30 :: x31 :: x32 :: x33 :: x34 :: x35 :: x36 :: x37 :: x38 :: x39 :: x40 :: x41 :: x42 :: x43 :: x44 :: x45 :: x46 :: []), []⟩ w := by
  conv => arg 3; whnf
  refine wpAnyH_all (rs := [9]) (by kernel_rfl) (by simp) (AllReadyH.cons (i := 9) rfl (fun KK hK => ?_) AllReadyH.nil)
  rw [if_pos (by kernel_rfl)]
  have K4 := hide (Blk.new w #[.int .i64 0, .int .i64 0, .int .i64 0, .int .i64 0, .int .i64 0, .int .i64 0] 60)
  have G4 := hide hS.size
  have N45 := hide (show w.heap.size ≠ b5 by have := (show Blk _ _ _ _ from unhide K5).lt; omega)
  have N46 := hide (show w.heap.size ≠ b6 by have := (show Blk _ _ _ _ from unhide K6).lt; omega)
  replace K5 := hide ((show Blk _ _ _ _ from unhide K5).keep (below1 w (.cells #[.int .i64 0, .int .i64 0, .int .i64 0, .int .i64 0, .int .i64 0, .int .i64 0] 60)))
  replace K6 := hide ((show Blk _ _ _ _ from unhide K6).keep (below1 w (.cells #[.int .i64 0, .int .i64 0, .int .i64 0, .int .i64 0, .int .i64 0, .int .i64 0] 60)))
  have hS2 := hide (below_via hS (below1 w (.cells #[.int .i64 0, .int .i64 0, .int .i64 0, .int .i64 0, .int .i64 0, .int .i64 0] 60)))
  clear hS
  go_wp2_with fail
  refine hK.out _ _ (unhide hS2) (fun hS => ?_)
  clear hK hS2
  try simp only [Act.put, List.setIfInBounds_toArray, List.set_cons_zero, List.set_cons_succ]
  exact n3_456 K4 G4 K5 G5 K6 G6 N45 N46 N56 hS H
theorem n3_4 {Q : Exit → Act → World → Prop} {x0 x2 x3 x5 x6 x7 x8 x9 x10 x20 x21 x22 x23 x24 x25 x26 x27 x28 x29 x30 x31 x32 x33 x34 x35 x36 x37 x38 x39 x40 x41 x42 x43 x44 x45 x46 : Value} {V w : World} {bx b4 : Nat} {r s t : Rw} (K4 : Hid (Blk w b4 #[.int .i64 0, .int .i64 0, .int .i64 0, .int .i64 0, .int .i64 0, .int .i64 0] 60)) (G4 : Hid (V.heap.size ≤ b4)) (hS : Below V.heap.size V w)
    (H : Hid (∀ (b4 b5 b6 : Nat) (W : World), Blk W b4 (cells6 r) 60 → Blk W b5 (cells6 s) 60 → Blk W b6 (cells6 t) 60 → V.heap.size ≤ b4 → V.heap.size ≤ b5 → V.heap.size ≤ b6 → Below V.heap.size V W → Q .normal ⟨List.toArray (x0 :: (.pointer (some ⟨bx, 0, none⟩) : Value) :: x2 :: x3 :: (.pointer (some ⟨b4, 0, none⟩) : Value) :: (.pointer (some ⟨b5, 0, none⟩) : Value) :: (.pointer (some ⟨b6, 0, none⟩) : Value) :: x7 :: x8 :: x9 :: x10 :: (.pointer (some ⟨bx, 0, none⟩) : Value) :: (.agg (cells6 r) : Value) :: (.agg (cells6 r) : Value) :: (.pointer (some ⟨bx, 6, none⟩) : Value) :: (.agg (cells6 s) : Value) :: (.agg (cells6 s) : Value) :: (.pointer (some ⟨bx, 12, none⟩) : Value) :: (.agg (cells6 t) : Value) :: (.agg (cells6 t) : Value) :: x20 :: x21 :: x22 :: x23 :: x24 :: x25 :: x26 :: x27 :: x28 :: x29 :: x30 :: x31 :: x32 :: x33 :: x34 :: x35 :: x36 :: x37 :: x38 :: x39 :: x40 :: x41 :: x42 :: x43 :: x44 :: x45 :: x46 :: []), []⟩ W)) :
    wpAnyH Try.prog .any (opsOf ((Try.f14.body.bind (regionAt 1)).getD .skip)) (NoPanic Q) (fun W => Below V.heap.size V W) 5 (List.toArray (true :: true :: true :: true :: true :: true :: true :: true :: true :: true :: false :: false :: false :: false :: false :: [])) ⟨List.toArray (x0 :: (.pointer (some ⟨bx, 0, none⟩) : Value) :: x2 :: x3 :: (.pointer (some ⟨b4, 0, none⟩) : Value) :: x5 :: x6 :: x7 :: x8 :: x9 :: x10 :: (.pointer (some ⟨bx, 0, none⟩) : Value) :: (.agg (cells6 r) : Value) :: (.agg (cells6 r) : Value) :: (.pointer (some ⟨bx, 6, none⟩) : Value) :: (.agg (cells6 s) : Value) :: (.agg (cells6 s) : Value) :: (.pointer (some ⟨bx, 12, none⟩) : Value) :: (.agg (cells6 t) : Value) :: (.agg (cells6 t) : Value) :: x20 :: x21 :: x22 :: x23 :: x24 :: x25 :: x26 :: x27 :: x28 :: x29 :: x30 :: x31 :: x32 :: x33 :: x34 :: x35 :: x36 :: x37 :: x38 :: x39 :: x40 :: x41 :: x42 :: x43 :: x44 :: x45 :: x46 :: []), []⟩ w := by
  conv => arg 3; whnf
  refine wpAnyH_all (rs := [10, 11]) (by kernel_rfl) (by simp) (AllReadyH.cons (i := 10) rfl (fun KK hK => ?_) (AllReadyH.cons (i := 11) rfl (fun KK hK => ?_) AllReadyH.nil))
  · rw [if_pos (by kernel_rfl)]
    have K5 := hide (Blk.new w #[.int .i64 0, .int .i64 0, .int .i64 0, .int .i64 0, .int .i64 0, .int .i64 0] 60)
    have G5 := hide hS.size
    have N45 := hide (show b4 ≠ w.heap.size by have := (show Blk _ _ _ _ from unhide K4).lt; omega)
    replace K4 := hide ((show Blk _ _ _ _ from unhide K4).keep (below1 w (.cells #[.int .i64 0, .int .i64 0, .int .i64 0, .int .i64 0, .int .i64 0, .int .i64 0] 60)))
    have hS2 := hide (below_via hS (below1 w (.cells #[.int .i64 0, .int .i64 0, .int .i64 0, .int .i64 0, .int .i64 0, .int .i64 0] 60)))
    clear hS
    go_wp2_with fail
    refine hK.out _ _ (unhide hS2) (fun hS => ?_)
    clear hK hS2
    try simp only [Act.put, List.setIfInBounds_toArray, List.set_cons_zero, List.set_cons_succ]
    exact n3_45 K4 G4 K5 G5 N45 hS H
  · rw [if_pos (by kernel_rfl)]
    have K6 := hide (Blk.new w #[.int .i64 0, .int .i64 0, .int .i64 0, .int .i64 0, .int .i64 0, .int .i64 0] 60)
    have G6 := hide hS.size
    have N46 := hide (show b4 ≠ w.heap.size by have := (show Blk _ _ _ _ from unhide K4).lt; omega)
    replace K4 := hide ((show Blk _ _ _ _ from unhide K4).keep (below1 w (.cells #[.int .i64 0, .int .i64 0, .int .i64 0, .int .i64 0, .int .i64 0, .int .i64 0] 60)))
    have hS2 := hide (below_via hS (below1 w (.cells #[.int .i64 0, .int .i64 0, .int .i64 0, .int .i64 0, .int .i64 0, .int .i64 0] 60)))
    clear hS
    go_wp2_with fail
    refine hK.out _ _ (unhide hS2) (fun hS => ?_)
    clear hK hS2
    try simp only [Act.put, List.setIfInBounds_toArray, List.set_cons_zero, List.set_cons_succ]
    exact n3_46 K4 G4 K6 G6 N46 hS H
theorem n3_5 {Q : Exit → Act → World → Prop} {x0 x2 x3 x4 x6 x7 x8 x9 x10 x20 x21 x22 x23 x24 x25 x26 x27 x28 x29 x30 x31 x32 x33 x34 x35 x36 x37 x38 x39 x40 x41 x42 x43 x44 x45 x46 : Value} {V w : World} {bx b5 : Nat} {r s t : Rw} (K5 : Hid (Blk w b5 #[.int .i64 0, .int .i64 0, .int .i64 0, .int .i64 0, .int .i64 0, .int .i64 0] 60)) (G5 : Hid (V.heap.size ≤ b5)) (hS : Below V.heap.size V w)
    (H : Hid (∀ (b4 b5 b6 : Nat) (W : World), Blk W b4 (cells6 r) 60 → Blk W b5 (cells6 s) 60 → Blk W b6 (cells6 t) 60 → V.heap.size ≤ b4 → V.heap.size ≤ b5 → V.heap.size ≤ b6 → Below V.heap.size V W → Q .normal ⟨List.toArray (x0 :: (.pointer (some ⟨bx, 0, none⟩) : Value) :: x2 :: x3 :: (.pointer (some ⟨b4, 0, none⟩) : Value) :: (.pointer (some ⟨b5, 0, none⟩) : Value) :: (.pointer (some ⟨b6, 0, none⟩) : Value) :: x7 :: x8 :: x9 :: x10 :: (.pointer (some ⟨bx, 0, none⟩) : Value) :: (.agg (cells6 r) : Value) :: (.agg (cells6 r) : Value) :: (.pointer (some ⟨bx, 6, none⟩) : Value) :: (.agg (cells6 s) : Value) :: (.agg (cells6 s) : Value) :: (.pointer (some ⟨bx, 12, none⟩) : Value) :: (.agg (cells6 t) : Value) :: (.agg (cells6 t) : Value) :: x20 :: x21 :: x22 :: x23 :: x24 :: x25 :: x26 :: x27 :: x28 :: x29 :: x30 :: x31 :: x32 :: x33 :: x34 :: x35 :: x36 :: x37 :: x38 :: x39 :: x40 :: x41 :: x42 :: x43 :: x44 :: x45 :: x46 :: []), []⟩ W)) :
    wpAnyH Try.prog .any (opsOf ((Try.f14.body.bind (regionAt 1)).getD .skip)) (NoPanic Q) (fun W => Below V.heap.size V W) 5 (List.toArray (true :: true :: true :: true :: true :: true :: true :: true :: true :: false :: true :: false :: false :: false :: false :: [])) ⟨List.toArray (x0 :: (.pointer (some ⟨bx, 0, none⟩) : Value) :: x2 :: x3 :: x4 :: (.pointer (some ⟨b5, 0, none⟩) : Value) :: x6 :: x7 :: x8 :: x9 :: x10 :: (.pointer (some ⟨bx, 0, none⟩) : Value) :: (.agg (cells6 r) : Value) :: (.agg (cells6 r) : Value) :: (.pointer (some ⟨bx, 6, none⟩) : Value) :: (.agg (cells6 s) : Value) :: (.agg (cells6 s) : Value) :: (.pointer (some ⟨bx, 12, none⟩) : Value) :: (.agg (cells6 t) : Value) :: (.agg (cells6 t) : Value) :: x20 :: x21 :: x22 :: x23 :: x24 :: x25 :: x26 :: x27 :: x28 :: x29 :: x30 :: x31 :: x32 :: x33 :: x34 :: x35 :: x36 :: x37 :: x38 :: x39 :: x40 :: x41 :: x42 :: x43 :: x44 :: x45 :: x46 :: []), []⟩ w := by
  conv => arg 3; whnf
  refine wpAnyH_all (rs := [9, 11]) (by kernel_rfl) (by simp) (AllReadyH.cons (i := 9) rfl (fun KK hK => ?_) (AllReadyH.cons (i := 11) rfl (fun KK hK => ?_) AllReadyH.nil))
  · rw [if_pos (by kernel_rfl)]
    have K4 := hide (Blk.new w #[.int .i64 0, .int .i64 0, .int .i64 0, .int .i64 0, .int .i64 0, .int .i64 0] 60)
    have G4 := hide hS.size
    have N45 := hide (show w.heap.size ≠ b5 by have := (show Blk _ _ _ _ from unhide K5).lt; omega)
    replace K5 := hide ((show Blk _ _ _ _ from unhide K5).keep (below1 w (.cells #[.int .i64 0, .int .i64 0, .int .i64 0, .int .i64 0, .int .i64 0, .int .i64 0] 60)))
    have hS2 := hide (below_via hS (below1 w (.cells #[.int .i64 0, .int .i64 0, .int .i64 0, .int .i64 0, .int .i64 0, .int .i64 0] 60)))
    clear hS
    go_wp2_with fail
    refine hK.out _ _ (unhide hS2) (fun hS => ?_)
    clear hK hS2
    try simp only [Act.put, List.setIfInBounds_toArray, List.set_cons_zero, List.set_cons_succ]
    exact n3_45 K4 G4 K5 G5 N45 hS H
  · rw [if_pos (by kernel_rfl)]
    have K6 := hide (Blk.new w #[.int .i64 0, .int .i64 0, .int .i64 0, .int .i64 0, .int .i64 0, .int .i64 0] 60)
    have G6 := hide hS.size
    have N56 := hide (show b5 ≠ w.heap.size by have := (show Blk _ _ _ _ from unhide K5).lt; omega)
    replace K5 := hide ((show Blk _ _ _ _ from unhide K5).keep (below1 w (.cells #[.int .i64 0, .int .i64 0, .int .i64 0, .int .i64 0, .int .i64 0, .int .i64 0] 60)))
    have hS2 := hide (below_via hS (below1 w (.cells #[.int .i64 0, .int .i64 0, .int .i64 0, .int .i64 0, .int .i64 0, .int .i64 0] 60)))
    clear hS
    go_wp2_with fail
    refine hK.out _ _ (unhide hS2) (fun hS => ?_)
    clear hK hS2
    try simp only [Act.put, List.setIfInBounds_toArray, List.set_cons_zero, List.set_cons_succ]
    exact n3_56 K5 G5 K6 G6 N56 hS H
theorem n3_6 {Q : Exit → Act → World → Prop} {x0 x2 x3 x4 x5 x7 x8 x9 x10 x20 x21 x22 x23 x24 x25 x26 x27 x28 x29 x30 x31 x32 x33 x34 x35 x36 x37 x38 x39 x40 x41 x42 x43 x44 x45 x46 : Value} {V w : World} {bx b6 : Nat} {r s t : Rw} (K6 : Hid (Blk w b6 #[.int .i64 0, .int .i64 0, .int .i64 0, .int .i64 0, .int .i64 0, .int .i64 0] 60)) (G6 : Hid (V.heap.size ≤ b6)) (hS : Below V.heap.size V w)
    (H : Hid (∀ (b4 b5 b6 : Nat) (W : World), Blk W b4 (cells6 r) 60 → Blk W b5 (cells6 s) 60 → Blk W b6 (cells6 t) 60 → V.heap.size ≤ b4 → V.heap.size ≤ b5 → V.heap.size ≤ b6 → Below V.heap.size V W → Q .normal ⟨List.toArray (x0 :: (.pointer (some ⟨bx, 0, none⟩) : Value) :: x2 :: x3 :: (.pointer (some ⟨b4, 0, none⟩) : Value) :: (.pointer (some ⟨b5, 0, none⟩) : Value) :: (.pointer (some ⟨b6, 0, none⟩) : Value) :: x7 :: x8 :: x9 :: x10 :: (.pointer (some ⟨bx, 0, none⟩) : Value) :: (.agg (cells6 r) : Value) :: (.agg (cells6 r) : Value) :: (.pointer (some ⟨bx, 6, none⟩) : Value) :: (.agg (cells6 s) : Value) :: (.agg (cells6 s) : Value) :: (.pointer (some ⟨bx, 12, none⟩) : Value) :: (.agg (cells6 t) : Value) :: (.agg (cells6 t) : Value) :: x20 :: x21 :: x22 :: x23 :: x24 :: x25 :: x26 :: x27 :: x28 :: x29 :: x30 :: x31 :: x32 :: x33 :: x34 :: x35 :: x36 :: x37 :: x38 :: x39 :: x40 :: x41 :: x42 :: x43 :: x44 :: x45 :: x46 :: []), []⟩ W)) :
    wpAnyH Try.prog .any (opsOf ((Try.f14.body.bind (regionAt 1)).getD .skip)) (NoPanic Q) (fun W => Below V.heap.size V W) 5 (List.toArray (true :: true :: true :: true :: true :: true :: true :: true :: true :: false :: false :: true :: false :: false :: false :: [])) ⟨List.toArray (x0 :: (.pointer (some ⟨bx, 0, none⟩) : Value) :: x2 :: x3 :: x4 :: x5 :: (.pointer (some ⟨b6, 0, none⟩) : Value) :: x7 :: x8 :: x9 :: x10 :: (.pointer (some ⟨bx, 0, none⟩) : Value) :: (.agg (cells6 r) : Value) :: (.agg (cells6 r) : Value) :: (.pointer (some ⟨bx, 6, none⟩) : Value) :: (.agg (cells6 s) : Value) :: (.agg (cells6 s) : Value) :: (.pointer (some ⟨bx, 12, none⟩) : Value) :: (.agg (cells6 t) : Value) :: (.agg (cells6 t) : Value) :: x20 :: x21 :: x22 :: x23 :: x24 :: x25 :: x26 :: x27 :: x28 :: x29 :: x30 :: x31 :: x32 :: x33 :: x34 :: x35 :: x36 :: x37 :: x38 :: x39 :: x40 :: x41 :: x42 :: x43 :: x44 :: x45 :: x46 :: []), []⟩ w := by
  conv => arg 3; whnf
  refine wpAnyH_all (rs := [9, 10]) (by kernel_rfl) (by simp) (AllReadyH.cons (i := 9) rfl (fun KK hK => ?_) (AllReadyH.cons (i := 10) rfl (fun KK hK => ?_) AllReadyH.nil))
  · rw [if_pos (by kernel_rfl)]
    have K4 := hide (Blk.new w #[.int .i64 0, .int .i64 0, .int .i64 0, .int .i64 0, .int .i64 0, .int .i64 0] 60)
    have G4 := hide hS.size
    have N46 := hide (show w.heap.size ≠ b6 by have := (show Blk _ _ _ _ from unhide K6).lt; omega)
    replace K6 := hide ((show Blk _ _ _ _ from unhide K6).keep (below1 w (.cells #[.int .i64 0, .int .i64 0, .int .i64 0, .int .i64 0, .int .i64 0, .int .i64 0] 60)))
    have hS2 := hide (below_via hS (below1 w (.cells #[.int .i64 0, .int .i64 0, .int .i64 0, .int .i64 0, .int .i64 0, .int .i64 0] 60)))
    clear hS
    go_wp2_with fail
    refine hK.out _ _ (unhide hS2) (fun hS => ?_)
    clear hK hS2
    try simp only [Act.put, List.setIfInBounds_toArray, List.set_cons_zero, List.set_cons_succ]
    exact n3_46 K4 G4 K6 G6 N46 hS H
  · rw [if_pos (by kernel_rfl)]
    have K5 := hide (Blk.new w #[.int .i64 0, .int .i64 0, .int .i64 0, .int .i64 0, .int .i64 0, .int .i64 0] 60)
    have G5 := hide hS.size
    have N56 := hide (show w.heap.size ≠ b6 by have := (show Blk _ _ _ _ from unhide K6).lt; omega)
    replace K6 := hide ((show Blk _ _ _ _ from unhide K6).keep (below1 w (.cells #[.int .i64 0, .int .i64 0, .int .i64 0, .int .i64 0, .int .i64 0, .int .i64 0] 60)))
    have hS2 := hide (below_via hS (below1 w (.cells #[.int .i64 0, .int .i64 0, .int .i64 0, .int .i64 0, .int .i64 0, .int .i64 0] 60)))
    clear hS
    go_wp2_with fail
    refine hK.out _ _ (unhide hS2) (fun hS => ?_)
    clear hK hS2
    try simp only [Act.put, List.setIfInBounds_toArray, List.set_cons_zero, List.set_cons_succ]
    exact n3_56 K5 G5 K6 G6 N56 hS H
theorem n3_0 {Q : Exit → Act → World → Prop} {x0 x2 x3 x4 x5 x6 x7 x8 x9 x10 x20 x21 x22 x23 x24 x25 x26 x27 x28 x29 x30 x31 x32 x33 x34 x35 x36 x37 x38 x39 x40 x41 x42 x43 x44 x45 x46 : Value} {V w : World} {bx : Nat} {r s t : Rw} (hS : Below V.heap.size V w)
    (H : Hid (∀ (b4 b5 b6 : Nat) (W : World), Blk W b4 (cells6 r) 60 → Blk W b5 (cells6 s) 60 → Blk W b6 (cells6 t) 60 → V.heap.size ≤ b4 → V.heap.size ≤ b5 → V.heap.size ≤ b6 → Below V.heap.size V W → Q .normal ⟨List.toArray (x0 :: (.pointer (some ⟨bx, 0, none⟩) : Value) :: x2 :: x3 :: (.pointer (some ⟨b4, 0, none⟩) : Value) :: (.pointer (some ⟨b5, 0, none⟩) : Value) :: (.pointer (some ⟨b6, 0, none⟩) : Value) :: x7 :: x8 :: x9 :: x10 :: (.pointer (some ⟨bx, 0, none⟩) : Value) :: (.agg (cells6 r) : Value) :: (.agg (cells6 r) : Value) :: (.pointer (some ⟨bx, 6, none⟩) : Value) :: (.agg (cells6 s) : Value) :: (.agg (cells6 s) : Value) :: (.pointer (some ⟨bx, 12, none⟩) : Value) :: (.agg (cells6 t) : Value) :: (.agg (cells6 t) : Value) :: x20 :: x21 :: x22 :: x23 :: x24 :: x25 :: x26 :: x27 :: x28 :: x29 :: x30 :: x31 :: x32 :: x33 :: x34 :: x35 :: x36 :: x37 :: x38 :: x39 :: x40 :: x41 :: x42 :: x43 :: x44 :: x45 :: x46 :: []), []⟩ W)) :
    wpAnyH Try.prog .any (opsOf ((Try.f14.body.bind (regionAt 1)).getD .skip)) (NoPanic Q) (fun W => Below V.heap.size V W) 6 (List.toArray (true :: true :: true :: true :: true :: true :: true :: true :: true :: false :: false :: false :: false :: false :: false :: [])) ⟨List.toArray (x0 :: (.pointer (some ⟨bx, 0, none⟩) : Value) :: x2 :: x3 :: x4 :: x5 :: x6 :: x7 :: x8 :: x9 :: x10 :: (.pointer (some ⟨bx, 0, none⟩) : Value) :: (.agg (cells6 r) : Value) :: (.agg (cells6 r) : Value) :: (.pointer (some ⟨bx, 6, none⟩) : Value) :: (.agg (cells6 s) : Value) :: (.agg (cells6 s) : Value) :: (.pointer (some ⟨bx, 12, none⟩) : Value) :: (.agg (cells6 t) : Value) :: (.agg (cells6 t) : Value) :: x20 :: x21 :: x22 :: x23 :: x24 :: x25 :: x26 :: x27 :: x28 :: x29 :: x30 :: x31 :: x32 :: x33 :: x34 :: x35 :: x36 :: x37 :: x38 :: x39 :: x40 :: x41 :: x42 :: x43 :: x44 :: x45 :: x46 :: []), []⟩ w := by
  conv => arg 3; whnf
  refine wpAnyH_all (rs := [9, 10, 11]) (by kernel_rfl) (by simp) (AllReadyH.cons (i := 9) rfl (fun KK hK => ?_) (AllReadyH.cons (i := 10) rfl (fun KK hK => ?_) (AllReadyH.cons (i := 11) rfl (fun KK hK => ?_) AllReadyH.nil)))
  · rw [if_pos (by kernel_rfl)]
    have K4 := hide (Blk.new w #[.int .i64 0, .int .i64 0, .int .i64 0, .int .i64 0, .int .i64 0, .int .i64 0] 60)
    have G4 := hide hS.size
    have hS2 := hide (below_via hS (below1 w (.cells #[.int .i64 0, .int .i64 0, .int .i64 0, .int .i64 0, .int .i64 0, .int .i64 0] 60)))
    clear hS
    go_wp2_with fail
    refine hK.out _ _ (unhide hS2) (fun hS => ?_)
    clear hK hS2
    try simp only [Act.put, List.setIfInBounds_toArray, List.set_cons_zero, List.set_cons_succ]
    exact n3_4 K4 G4 hS H
  · rw [if_pos (by kernel_rfl)]
    have K5 := hide (Blk.new w #[.int .i64 0, .int .i64 0, .int .i64 0, .int .i64 0, .int .i64 0, .int .i64 0] 60)
    have G5 := hide hS.size
    have hS2 := hide (below_via hS (below1 w (.cells #[.int .i64 0, .int .i64 0, .int .i64 0, .int .i64 0, .int .i64 0, .int .i64 0] 60)))
    clear hS
    go_wp2_with fail
    refine hK.out _ _ (unhide hS2) (fun hS => ?_)
    clear hK hS2
    try simp only [Act.put, List.setIfInBounds_toArray, List.set_cons_zero, List.set_cons_succ]
    exact n3_5 K5 G5 hS H
  · rw [if_pos (by kernel_rfl)]
    have K6 := hide (Blk.new w #[.int .i64 0, .int .i64 0, .int .i64 0, .int .i64 0, .int .i64 0, .int .i64 0] 60)
    have G6 := hide hS.size
    have hS2 := hide (below_via hS (below1 w (.cells #[.int .i64 0, .int .i64 0, .int .i64 0, .int .i64 0, .int .i64 0, .int .i64 0] 60)))
    clear hS
    go_wp2_with fail
    refine hK.out _ _ (unhide hS2) (fun hS => ?_)
    clear hK hS2
    try simp only [Act.put, List.setIfInBounds_toArray, List.set_cons_zero, List.set_cons_succ]
    exact n3_6 K6 G6 hS H
theorem n2_456 {Q : Exit → Act → World → Prop} {x0 x2 x3 x7 x8 x9 x10 x19 x20 x21 x22 x23 x24 x25 x26 x27 x28 x29 x30 x31 x32 x33 x34 x35 x36 x37 x38 x39 x40 x41 x42 x43 x44 x45 x46 : Value} {V w : World} {bx b4 b5 b6 : Nat} {r s t : Rw} (K4 : Hid (Blk w b4 #[.int .i64 0, .int .i64 0, .int .i64 0, .int .i64 0, .int .i64 0, .int .i64 0] 60)) (G4 : Hid (V.heap.size ≤ b4)) (K5 : Hid (Blk w b5 #[.int .i64 0, .int .i64 0, .int .i64 0, .int .i64 0, .int .i64 0, .int .i64 0] 60)) (G5 : Hid (V.heap.size ≤ b5)) (K6 : Hid (Blk w b6 #[.int .i64 0, .int .i64 0, .int .i64 0, .int .i64 0, .int .i64 0, .int .i64 0] 60)) (G6 : Hid (V.heap.size ≤ b6)) (N45 : Hid (b4 ≠ b5)) (N46 : Hid (b4 ≠ b6)) (N56 : Hid (b5 ≠ b6)) (hS : Below V.heap.size V w)
    (H : Hid (∀ (b4 b5 b6 : Nat) (W : World), Blk W b4 (cells6 r) 60 → Blk W b5 (cells6 s) 60 → Blk W b6 (cells6 t) 60 → V.heap.size ≤ b4 → V.heap.size ≤ b5 → V.heap.size ≤ b6 → Below V.heap.size V W → Q .normal ⟨List.toArray (x0 :: (.pointer (some ⟨bx, 0, none⟩) : Value) :: x2 :: x3 :: (.pointer (some ⟨b4, 0, none⟩) : Value) :: (.pointer (some ⟨b5, 0, none⟩) : Value) :: (.pointer (some ⟨b6, 0, none⟩) : Value) :: x7 :: x8 :: x9 :: x10 :: (.pointer (some ⟨bx, 0, none⟩) : Value) :: (.agg (cells6 r) : Value) :: (.agg (cells6 r) : Value) :: (.pointer (some ⟨bx, 6, none⟩) : Value) :: (.agg (cells6 s) : Value) :: (.agg (cells6 s) : Value) :: (.pointer (some ⟨bx, 12, none⟩) : Value) :: (.agg (cells6 t) : Value) :: (.agg (cells6 t) : Value) :: x20 :: x21 :: x22 :: x23 :: x24 :: x25 :: x26 :: x27 :: x28 :: x29 :: x30 :: x31 :: x32 :: x33 :: x34 :: x35 :: x36 :: x37 :: x38 :: x39 :: x40 :: x41 :: x42 :: x43 :: x44 :: x45 :: x46 :: []), []⟩ W)) :
    wpAnyH Try.prog .any (opsOf ((Try.f14.body.bind (regionAt 1)).getD .skip)) (NoPanic Q) (fun W => Below V.heap.size V W) 4 (List.toArray (true :: true :: true :: true :: true :: true :: true :: true :: false :: true :: true :: true :: false :: false :: false :: [])) ⟨List.toArray (x0 :: (.pointer (some ⟨bx, 0, none⟩) : Value) :: x2 :: x3 :: (.pointer (some ⟨b4, 0, none⟩) : Value) :: (.pointer (some ⟨b5, 0, none⟩) : Value) :: (.pointer (some ⟨b6, 0, none⟩) : Value) :: x7 :: x8 :: x9 :: x10 :: (.pointer (some ⟨bx, 0, none⟩) : Value) :: (.agg (cells6 r) : Value) :: (.agg (cells6 r) : Value) :: (.pointer (some ⟨bx, 6, none⟩) : Value) :: (.agg (cells6 s) : Value) :: (.agg (cells6 s) : Value) :: (.pointer (some ⟨bx, 12, none⟩) : Value) :: (.agg (cells6 t) : Value) :: x19 :: x20 :: x21 :: x22 :: x23 :: x24 :: x25 :: x26 :: x27 :: x28 :: x29 :: x30 :: x31 :: x32 :: x33 :: x34 :: x35 :: x36 :: x37 :: x38 :: x39 :: x40 :: x41 :: x42 :: x43 :: x44 :: x45 :: x46 :: []), []⟩ w := by
  conv => arg 3; whnf
  refine wpAnyH_all (rs := [8]) (by kernel_rfl) (by simp) (AllReadyH.cons (i := 8) rfl (fun KK hK => ?_) AllReadyH.nil)
  rw [if_pos (by kernel_rfl)]
  have hS1 := hide hS
  clear hS
  go_wp2_with fail
  refine (num_any t _).mono ?_
  rintro e w' ⟨rfl, hb⟩
  replace K4 := hide ((show Blk _ _ _ _ from unhide K4).keep hb)
  replace K5 := hide ((show Blk _ _ _ _ from unhide K5).keep hb)
  replace K6 := hide ((show Blk _ _ _ _ from unhide K6).keep hb)
  have hS2 := hide (below_via (unhide hS1) hb)
  clear hb hS1
  go_wp2_with fail
  refine hK.out _ _ (unhide hS2) (fun hS => ?_)
  clear hK hS2
  try simp only [Act.put, List.setIfInBounds_toArray, List.set_cons_zero, List.set_cons_succ]
  exact n3_456 K4 G4 K5 G5 K6 G6 N45 N46 N56 hS H
theorem n2_45 {Q : Exit → Act → World → Prop} {x0 x2 x3 x6 x7 x8 x9 x10 x19 x20 x21 x22 x23 x24 x25 x26 x27 x28 x29 x30 x31 x32 x33 x34 x35 x36 x37 x38 x39 x40 x41 x42 x43 x44 x45 x46 : Value} {V w : World} {bx b4 b5 : Nat} {r s t : Rw} (K4 : Hid (Blk w b4 #[.int .i64 0, .int .i64 0, .int .i64 0, .int .i64 0, .int .i64 0, .int .i64 0] 60)) (G4 : Hid (V.heap.size ≤ b4)) (K5 : Hid (Blk w b5 #[.int .i64 0, .int .i64 0, .int .i64 0, .int .i64 0, .int .i64 0, .int .i64 0] 60)) (G5 : Hid (V.heap.size ≤ b5)) (N45 : Hid (b4 ≠ b5)) (hS : Below V.heap.size V w)
    (H : Hid (∀ (b4 b5 b6 : Nat) (W : World), Blk W b4 (cells6 r) 60 → Blk W b5 (cells6 s) 60 → Blk W b6 (cells6 t) 60 → V.heap.size ≤ b4 → V.heap.size ≤ b5 → V.heap.size ≤ b6 → Below V.heap.size V W → Q .normal ⟨List.toArray (x0 :: (.pointer (some ⟨bx, 0, none⟩) : Value) :: x2 :: x3 :: (.pointer (some ⟨b4, 0, none⟩) : Value) :: (.pointer (some ⟨b5, 0, none⟩) : Value) :: (.pointer (some ⟨b6, 0, none⟩) : Value) :: x7 :: x8 :: x9 :: x10 :: (.pointer (some ⟨bx, 0, none⟩) : Value) :: (.agg (cells6 r) : Value) :: (.agg (cells6 r) : Value) :: (.pointer (some ⟨bx, 6, none⟩) : Value) :: (.agg (cells6 s) : Value) :: (.agg (cells6 s) : Value) :: (.pointer (some ⟨bx, 12, none⟩) : Value) :: (.agg (cells6 t) : Value) :: (.agg (cells6 t) : Value) :: x20 :: x21 :: x22 :: x23 :: x24 :: x25 :: x26 :: x27 :: x28 :: x29 :: x30 :: x31 :: x32 :: x33 :: x34 :: x35 :: x36 :: x37 :: x38 :: x39 :: x40 :: x41 :: x42 :: x43 :: x44 :: x45 :: x46 :: []), []⟩ W)) :
    wpAnyH Try.prog .any (opsOf ((Try.f14.body.bind (regionAt 1)).getD .skip)) (NoPanic Q) (fun W => Below V.heap.size V W) 5 (List.toArray (true :: true :: true :: true :: true :: true :: true :: true :: false :: true :: true :: false :: false :: false :: false :: [])) ⟨List.toArray (x0 :: (.pointer (some ⟨bx, 0, none⟩) : Value) :: x2 :: x3 :: (.pointer (some ⟨b4, 0, none⟩) : Value) :: (.pointer (some ⟨b5, 0, none⟩) : Value) :: x6 :: x7 :: x8 :: x9 :: x10 :: (.pointer (some ⟨bx, 0, none⟩) : Value) :: (.agg (cells6 r) : Value) :: (.agg (cells6 r) : Value) :: (.pointer (some ⟨bx, 6, none⟩) : Value) :: (.agg (cells6 s) : Value) :: (.agg (cells6 s) : Value) :: (.pointer (some ⟨bx, 12, none⟩) : Value) :: (.agg (cells6 t) : Value) :: x19 :: x20 :: x21 :: x22 :: x23 :: x24 :: x25 :: x26 :: x27 :: x28 :: x29 :: x30 :: x31 :: x32 :: x33 :: x34 :: x35 :: x36 :: x37 :: x38 :: x39 :: x40 :: x41 :: x42 :: x43 :: x44 :: x45 :: x46 :: []), []⟩ w := by
  conv => arg 3; whnf
  refine wpAnyH_all (rs := [8, 11]) (by kernel_rfl) (by simp) (AllReadyH.cons (i := 8) rfl (fun KK hK => ?_) (AllReadyH.cons (i := 11) rfl (fun KK hK => ?_) AllReadyH.nil))
  · rw [if_pos (by kernel_rfl)]
    have hS1 := hide hS
    clear hS
    go_wp2_with fail
    refine (num_any t _).mono ?_
    rintro e w' ⟨rfl, hb⟩
    replace K4 := hide ((show Blk _ _ _ _ from unhide K4).keep hb)
    replace K5 := hide ((show Blk _ _ _ _ from unhide K5).keep hb)
    have hS2 := hide (below_via (unhide hS1) hb)
    clear hb hS1
    go_wp2_with fail
    refine hK.out _ _ (unhide hS2) (fun hS => ?_)
    clear hK hS2
    try simp only [Act.put, List.setIfInBounds_toArray, List.set_cons_zero, List.set_cons_succ]
    exact n3_45 K4 G4 K5 G5 N45 hS H
  · rw [if_pos (by kernel_rfl)]
    have K6 := hide (Blk.new w #[.int .i64 0, .int .i64 0, .int .i64 0, .int .i64 0, .int .i64 0, .int .i64 0] 60)
    have G6 := hide hS.size
    have N46 := hide (show b4 ≠ w.heap.size by have := (show Blk _ _ _ _ from unhide K4).lt; omega)
    have N56 := hide (show b5 ≠ w.heap.size by have := (show Blk _ _ _ _ from unhide K5).lt; omega)
    replace K4 := hide ((show Blk _ _ _ _ from unhide K4).keep (below1 w (.cells #[.int .i64 0, .int .i64 0, .int .i64 0, .int .i64 0, .int .i64 0, .int .i64 0] 60)))
    replace K5 := hide ((show Blk _ _ _ _ from unhide K5).keep (below1 w (.cells #[.int .i64 0, .int .i64 0, .int .i64 0, .int .i64 0, .int .i64 0, .int .i64 0] 60)))
    have hS2 := hide (below_via hS (below1 w (.cells #[.int .i64 0, .int .i64 0, .int .i64 0, .int .i64 0, .int .i64 0, .int .i64 0] 60)))
    clear hS
    go_wp2_with fail
    refine hK.out _ _ (unhide hS2) (fun hS => ?_)
    clear hK hS2
    try simp only [Act.put, List.setIfInBounds_toArray, List.set_cons_zero, List.set_cons_succ]
    exact n2_456 K4 G4 K5 G5 K6 G6 N45 N46 N56 hS H
theorem n2_46 {Q : Exit → Act → World → Prop} {x0 x2 x3 x5 x7 x8 x9 x10 x19 x20 x21 x22 x23 x24 x25 x26 x27 x28 x29 x30 x31 x32 x33 x34 x35 x36 x37 x38 x39 x40 x41 x42 x43 x44 x45 x46 : Value} {V w : World} {bx b4 b6 : Nat} {r s t : Rw} (K4 : Hid (Blk w b4 #[.int .i64 0, .int .i64 0, .int .i64 0, .int .i64 0, .int .i64 0, .int .i64 0] 60)) (G4 : Hid (V.heap.size ≤ b4)) (K6 : Hid (Blk w b6 #[.int .i64 0, .int .i64 0, .int .i64 0, .int .i64 0, .int .i64 0, .int .i64 0] 60)) (G6 : Hid (V.heap.size ≤ b6)) (N46 : Hid (b4 ≠ b6)) (hS : Below V.heap.size V w)
    (H : Hid (∀ (b4 b5 b6 : Nat) (W : World), Blk W b4 (cells6 r) 60 → Blk W b5 (cells6 s) 60 → Blk W b6 (cells6 t) 60 → V.heap.size ≤ b4 → V.heap.size ≤ b5 → V.heap.size ≤ b6 → Below V.heap.size V W → Q .normal ⟨List.toArray (x0 :: (.pointer (some ⟨bx, 0, none⟩) : Value) :: x2 :: x3 :: (.pointer (some ⟨b4, 0, none⟩) : Value) :: (.pointer (some ⟨b5, 0, none⟩) : Value) :: (.pointer (some ⟨b6, 0, none⟩) : Value) :: x7 :: x8 :: x9 :: x10 :: (.pointer (some ⟨bx, 0, none⟩) : Value) :: (.agg (cells6 r) : Value) :: (.agg (cells6 r) : Value) :: (.pointer (some ⟨bx, 6, none⟩) : Value) :: (.agg (cells6 s) : Value) :: (.agg (cells6 s) : Value) :: (.pointer (some ⟨bx, 12, none⟩) : Value) :: (.agg (cells6 t) : Value) :: (.agg (cells6 t) : Value) :: x20 :: x21 :: x22 :: x23 :: x24 :: x25 :: x26 :: x27 :: x28 :: x29 :: x30 :: x31 :: x32 :: x33 :: x34 :: x35 :: x36 :: x37 :: x38 :: x39 :: x40 :: x41 :: x42 :: x43 :: x44 :: x45 :: x46 :: []), []⟩ W)) :
    wpAnyH Try.prog .any (opsOf ((Try.f14.body.bind (regionAt 1)).getD .skip)) (NoPanic Q) (fun W => Below V.heap.size V W) 5 (List.toArray (true :: true :: true :: true :: true :: true :: true :: true :: false :: true :: false :: true :: false :: false :: false :: [])) ⟨List.toArray (x0 :: (.pointer (some ⟨bx, 0, none⟩) : Value) :: x2 :: x3 :: (.pointer (some ⟨b4, 0, none⟩) : Value) :: x5 :: (.pointer (some ⟨b6, 0, none⟩) : Value) :: x7 :: x8 :: x9 :: x10 :: (.pointer (some ⟨bx, 0, none⟩) : Value) :: (.agg (cells6 r) : Value) :: (.agg (cells6 r) : Value) :: (.pointer (some ⟨bx, 6, none⟩) : Value) :: (.agg (cells6 s) : Value) :: (.agg (cells6 s) : Value) :: (.pointer (some ⟨bx, 12, none⟩) : Value) :: (.agg (cells6 t) : Value) :: x19 :: x20 :: x21 :: x22 :: x23 :: x24 :: x25 :: x26 :: x27 :: x28 :: x29 :: x30 :: x31 :: x32 :: x33 :: x34 :: x35 :: x36 :: x37 :: x38 :: x39 :: x40 :: x41 :: x42 :: x43 :: x44 :: x45 :: x46 :: []), []⟩ w := by
  conv => arg 3; whnf
  refine wpAnyH_all (rs := [8, 10]) (by kernel_rfl) (by simp) (AllReadyH.cons (i := 8) rfl (fun KK hK => ?_) (AllReadyH.cons (i := 10) rfl (fun KK hK => ?_) AllReadyH.nil))
  · rw [if_pos (by kernel_rfl)]
    have hS1 := hide hS
    clear hS
    go_wp2_with fail
    refine (num_any t _).mono ?_
    rintro e w' ⟨rfl, hb⟩
    replace K4 := hide ((show Blk _ _ _ _ from unhide K4).keep hb)
    replace K6 := hide ((show Blk _ _ _ _ from unhide K6).keep hb)
    have hS2 := hide (below_via (unhide hS1) hb)
    clear hb hS1
    go_wp2_with fail
    refine hK.out _ _ (unhide hS2) (fun hS => ?_)
    clear hK hS2
    try simp only [Act.put, List.setIfInBounds_toArray, List.set_cons_zero, List.set_cons_succ]
    exact n3_46 K4 G4 K6 G6 N46 hS H
  · rw [if_pos (by kernel_rfl)]
    have K5 := hide (Blk.new w #[.int .i64 0, .int .i64 0, .int .i64 0, .int .i64 0, .int .i64 0, .int .i64 0] 60)
    have G5 := hide hS.size
    have N45 := hide (show b4 ≠ w.heap.size by have := (show Blk _ _ _ _ from unhide K4).lt; omega)
    have N56 := hide (show w.heap.size ≠ b6 by have := (show Blk _ _ _ _ from unhide K6).lt; omega)
    replace K4 := hide ((show Blk _ _ _ _ from unhide K4).keep (below1 w (.cells #[.int .i64 0, .int .i64 0, .int .i64 0, .int .i64 0, .int .i64 0, .int .i64 0] 60)))
    replace K6 := hide ((show Blk _ _ _ _ from unhide K6).keep (below1 w (.cells #[.int .i64 0, .int .i64 0, .int .i64 0, .int .i64 0, .int .i64 0, .int .i64 0] 60)))
    have hS2 := hide (below_via hS (below1 w (.cells #[.int .i64 0, .int .i64 0, .int .i64 0, .int .i64 0, .int .i64 0, .int .i64 0] 60)))
    clear hS
    go_wp2_with fail
    refine hK.out _ _ (unhide hS2) (fun hS => ?_)
    clear hK hS2
    try simp only [Act.put, List.setIfInBounds_toArray, List.set_cons_zero, List.set_cons_succ]
    exact n2_456 K4 G4 K5 G5 K6 G6 N45 N46 N56 hS H
theorem n2_56 {Q : Exit → Act → World → Prop} {x0 x2 x3 x4 x7 x8 x9 x10 x19 x20 x21 x22 x23 x24 x25 x26 x27 x28 x29 x30 x31 x32 x33 x34 x35 x36 x37 x38 x39 x40 x41 x42 x43 x44 x45 x46 : Value} {V w : World} {bx b5 b6 : Nat} {r s t : Rw} (K5 : Hid (Blk w b5 #[.int .i64 0, .int .i64 0, .int .i64 0, .int .i64 0, .int .i64 0, .int .i64 0] 60)) (G5 : Hid (V.heap.size ≤ b5)) (K6 : Hid (Blk w b6 #[.int .i64 0, .int .i64 0, .int .i64 0, .int .i64 0, .int .i64 0, .int .i64 0] 60)) (G6 : Hid (V.heap.size ≤ b6)) (N56 : Hid (b5 ≠ b6)) (hS : Below V.heap.size V w)
    (H : Hid (∀ (b4 b5 b6 : Nat) (W : World), Blk W b4 (cells6 r) 60 → Blk W b5 (cells6 s) 60 → Blk W b6 (cells6 t) 60 → V.heap.size ≤ b4 → V.heap.size ≤ b5 → V.heap.size ≤ b6 → Below V.heap.size V W → Q .normal ⟨List.toArray (x0 :: (.pointer (some ⟨bx, 0, none⟩) : Value) :: x2 :: x3 :: (.pointer (some ⟨b4, 0, none⟩) : Value) :: (.pointer (some ⟨b5, 0, none⟩) : Value) :: (.pointer (some ⟨b6, 0, none⟩) : Value) :: x7 :: x8 :: x9 :: x10 :: (.pointer (some ⟨bx, 0, none⟩) : Value) :: (.agg (cells6 r) : Value) :: (.agg (cells6 r) : Value) :: (.pointer (some ⟨bx, 6, none⟩) : Value) :: (.agg (cells6 s) : Value) :: (.agg (cells6 s) : Value) :: (.pointer (some ⟨bx, 12, none⟩) : Value) :: (.agg (cells6 t) : Value) :: (.agg (cells6 t) : Value) :: x20 :: x21 :: x22 :: x23 :: x24 :: x25 :: x26 :: x27 :: x28 :: x29 :: x30 :: x31 :: x32 :: x33 :: x34 :: x35 :: x36 :: x37 :: x38 :: x39 :: x40 :: x41 :: x42 :: x43 :: x44 :: x45 :: x46 :: []), []⟩ W)) :
    wpAnyH Try.prog .any (opsOf ((Try.f14.body.bind (regionAt 1)).getD .skip)) (NoPanic Q) (fun W => Below V.heap.size V W) 5 (List.toArray (true :: true :: true :: true :: true :: true :: true :: true :: false :: false :: true :: true :: false :: false :: false :: [])) ⟨List.toArray (x0 :: (.pointer (some ⟨bx, 0, none⟩) : Value) :: x2 :: x3 :: x4 :: (.pointer (some ⟨b5, 0, none⟩) : Value) :: (.pointer (some ⟨b6, 0, none⟩) : Value) :: x7 :: x8 :: x9 :: x10 :: (.pointer (some ⟨bx, 0, none⟩) : Value) :: (.agg (cells6 r) : Value) :: (.agg (cells6 r) : Value) :: (.pointer (some ⟨bx, 6, none⟩) : Value) :: (.agg (cells6 s) : Value) :: (.agg (cells6 s) : Value) :: (.pointer (some ⟨bx, 12, none⟩) : Value) :: (.agg (cells6 t) : Value) :: x19 :: x20 :: x21 :: x22 :: x23 :: x24 :: x25 :: x26 :: x27 :: x28 :: x29 :: x30 :: x31 :: x32 :: x33 :: x34 :: x35 :: x36 :: x37 :: x38 :: x39 :: x40 :: x41 :: x42 :: x43 :: x44 :: x45 :: x46 :: []), []⟩ w := by
  conv => arg 3; whnf
  refine wpAnyH_all (rs := [8, 9]) (by kernel_rfl) (by simp) (AllReadyH.cons (i := 8) rfl (fun KK hK => ?_) (AllReadyH.cons (i := 9) rfl (fun KK hK => ?_) AllReadyH.nil))
  · rw [if_pos (by kernel_rfl)]
    have hS1 := hide hS
    clear hS
    go_wp2_with fail
    refine (num_any t _).mono ?_
    rintro e w' ⟨rfl, hb⟩
    replace K5 := hide ((show Blk _ _ _ _ from unhide K5).keep hb)
    replace K6 := hide ((show Blk _ _ _ _ from unhide K6).keep hb)
    have hS2 := hide (below_via (unhide hS1) hb)
    clear hb hS1
    go_wp2_with fail
    refine hK.out _ _ (unhide hS2) (fun hS => ?_)
    clear hK hS2
    try simp only [Act.put, List.setIfInBounds_toArray, List.set_cons_zero, List.set_cons_succ]
    exact n3_56 K5 G5 K6 G6 N56 hS H
  · rw [if_pos (by kernel_rfl)]
    have K4 := hide (Blk.new w #[.int .i64 0, .int .i64 0, .int .i64 0, .int .i64 0, .int .i64 0, .int .i64 0] 60)
    have G4 := hide hS.size
    have N45 := hide (show w.heap.size ≠ b5 by have := (show Blk _ _ _ _ from unhide K5).lt; omega)
    have N46 := hide (show w.heap.size ≠ b6 by have := (show Blk _ _ _ _ from unhide K6).lt; omega)
    replace K5 := hide ((show Blk _ _ _ _ from unhide K5).keep (below1 w (.cells #[.int .i64 0, .int .i64 0, .int .i64 0, .int .i64 0, .int .i64 0, .int .i64 0] 60)))
    replace K6 := hide ((show Blk _ _ _ _ from unhide K6).keep (below1 w (.cells #[.int .i64 0, .int .i64 0, .int .i64 0, .int .i64 0, .int .i64 0, .int .i64 0] 60)))
    have hS2 := hide (below_via hS (below1 w (.cells #[.int .i64 0, .int .i64 0, .int .i64 0, .int .i64 0, .int .i64 0, .int .i64 0] 60)))
    clear hS
    go_wp2_with fail
    refine hK.out _ _ (unhide hS2) (fun hS => ?_)
    clear hK hS2
    try simp only [Act.put, List.setIfInBounds_toArray, List.set_cons_zero, List.set_cons_succ]
    exact n2_456 K4 G4 K5 G5 K6 G6 N45 N46 N56 hS H
theorem n2_4 {Q : Exit → Act → World → Prop} {x0 x2 x3 x5 x6 x7 x8 x9 x10 x19 x20 x21 x22 x23 x24 x25 x26 x27 x28 x29 x30 x31 x32 x33 x34 x35 x36 x37 x38 x39 x40 x41 x42 x43 x44 x45 x46 : Value} {V w : World} {bx b4 : Nat} {r s t : Rw} (K4 : Hid (Blk w b4 #[.int .i64 0, .int .i64 0, .int .i64 0, .int .i64 0, .int .i64 0, .int .i64 0] 60)) (G4 : Hid (V.heap.size ≤ b4)) (hS : Below V.heap.size V w)
    (H : Hid (∀ (b4 b5 b6 : Nat) (W : World), Blk W b4 (cells6 r) 60 → Blk W b5 (cells6 s) 60 → Blk W b6 (cells6 t) 60 → V.heap.size ≤ b4 → V.heap.size ≤ b5 → V.heap.size ≤ b6 → Below V.heap.size V W → Q .normal ⟨List.toArray (x0 :: (.pointer (some ⟨bx, 0, none⟩) : Value) :: x2 :: x3 :: (.pointer (some ⟨b4, 0, none⟩) : Value) :: (.pointer (some ⟨b5, 0, none⟩) : Value) :: (.pointer (some ⟨b6, 0, none⟩) : Value) :: x7 :: x8 :: x9 :: x10 :: (.pointer (some ⟨bx, 0, none⟩) : Value) :: (.agg (cells6 r) : Value) :: (.agg (cells6 r) : Value) :: (.pointer (some ⟨bx, 6, none⟩) : Value) :: (.agg (cells6 s) : Value) :: (.agg (cells6 s) : Value) :: (.pointer (some ⟨bx, 12, none⟩) : Value) :: (.agg (cells6 t) : Value) :: (.agg (cells6 t) : Value) :: x20 :: x21 :: x22 :: x23 :: x24 :: x25 :: x26 :: x27 :: x28 :: x29 :: x30 :: x31 :: x32 :: x33 :: x34 :: x35 :: x36 :: x37 :: x38 :: x39 :: x40 :: x41 :: x42 :: x43 :: x44 :: x45 :: x46 :: []), []⟩ W)) :
    wpAnyH Try.prog .any (opsOf ((Try.f14.body.bind (regionAt 1)).getD .skip)) (NoPanic Q) (fun W => Below V.heap.size V W) 6 (List.toArray (true :: true :: true :: true :: true :: true :: true :: true :: false :: true :: false :: false :: false :: false :: false :: [])) ⟨List.toArray (x0 :: (.pointer (some ⟨bx, 0, none⟩) : Value) :: x2 :: x3 :: (.pointer (some ⟨b4, 0, none⟩) : Value) :: x5 :: x6 :: x7 :: x8 :: x9 :: x10 :: (.pointer (some ⟨bx, 0, none⟩) : Value) :: (.agg (cells6 r) : Value) :: (.agg (cells6 r) : Value) :: (.pointer (some ⟨bx, 6, none⟩) : Value) :: (.agg (cells6 s) : Value) :: (.agg (cells6 s) : Value) :: (.pointer (some ⟨bx, 12, none⟩) : Value) :: (.agg (cells6 t) : Value) :: x19 :: x20 :: x21 :: x22 :: x23 :: x24 :: x25 :: x26 :: x27 :: x28 :: x29 :: x30 :: x31 :: x32 :: x33 :: x34 :: x35 :: x36 :: x37 :: x38 :: x39 :: x40 :: x41 :: x42 :: x43 :: x44 :: x45 :: x46 :: []), []⟩ w := by
  conv => arg 3; whnf
  refine wpAnyH_all (rs := [8, 10, 11]) (by kernel_rfl) (by simp) (AllReadyH.cons (i := 8) rfl (fun KK hK => ?_) (AllReadyH.cons (i := 10) rfl (fun KK hK => ?_) (AllReadyH.cons (i := 11) rfl (fun KK hK => ?_) AllReadyH.nil)))
  · rw [if_pos (by kernel_rfl)]
    have hS1 := hide hS
    clear hS
    go_wp2_with fail
    refine (num_any t _).mono ?_
    rintro e w' ⟨rfl, hb⟩
    replace K4 := hide ((show Blk _ _ _ _ from unhide K4).keep hb)
    have hS2 := hide (below_via (unhide hS1) hb)
    clear hb hS1
    go_wp2_with fail
    refine hK.out _ _ (unhide hS2) (fun hS => ?_)
    clear hK hS2
    try simp only [Act.put, List.setIfInBounds_toArray, List.set_cons_zero, List.set_cons_succ]
    exact n3_4 K4 G4 hS H
  · rw [if_pos (by kernel_rfl)]
    have K5 := hide (Blk.new w #[.int .i64 0, .int .i64 0, .int .i64 0, .int .i64 0, .int .i64 0, .int .i64 0] 60)
    have G5 := hide hS.size
    have N45 := hide (show b4 ≠ w.heap.size by have := (show Blk _ _ _ _ from unhide K4).lt; omega)
    replace K4 := hide ((show Blk _ _ _ _ from unhide K4).keep (below1 w (.cells #[.int .i64 0, .int .i64 0, .int .i64 0, .int .i64 0, .int .i64 0, .int .i64 0] 60)))
    have hS2 := hide (below_via hS (below1 w (.cells #[.int .i64 0, .int .i64 0, .int .i64 0, .int .i64 0, .int .i64 0, .int .i64 0] 60)))
    clear hS
    go_wp2_with fail
    refine hK.out _ _ (unhide hS2) (fun hS => ?_)
    clear hK hS2
    try simp only [Act.put, List.setIfInBounds_toArray, List.set_cons_zero, List.set_cons_succ]
    exact n2_45 K4 G4 K5 G5 N45 hS H
  · rw [if_pos (by kernel_rfl)]
    have K6 := hide (Blk.new w #[.int .i64 0, .int .i64 0, .int .i64 0, .int .i64 0, .int .i64 0, .int .i64 0] 60)
    have G6 := hide hS.size
    have N46 := hide (show b4 ≠ w.heap.size by have := (show Blk _ _ _ _ from unhide K4).lt; omega)
    replace K4 := hide ((show Blk _ _ _ _ from unhide K4).keep (below1 w (.cells #[.int .i64 0, .int .i64 0, .int .i64 0, .int .i64 0, .int .i64 0, .int .i64 0] 60)))
    have hS2 := hide (below_via hS (below1 w (.cells #[.int .i64 0, .int .i64 0, .int .i64 0, .int .i64 0, .int .i64 0, .int .i64 0] 60)))
    clear hS
    go_wp2_with fail
    refine hK.out _ _ (unhide hS2) (fun hS => ?_)
    clear hK hS2
    try simp only [Act.put, List.setIfInBounds_toArray, List.set_cons_zero, List.set_cons_succ]
    exact n2_46 K4 G4 K6 G6 N46 hS H
theorem n2_5 {Q : Exit → Act → World → Prop} {x0 x2 x3 x4 x6 x7 x8 x9 x10 x19 x20 x21 x22 x23 x24 x25 x26 x27 x28 x29 x30 x31 x32 x33 x34 x35 x36 x37 x38 x39 x40 x41 x42 x43 x44 x45 x46 : Value} {V w : World} {bx b5 : Nat} {r s t : Rw} (K5 : Hid (Blk w b5 #[.int .i64 0, .int .i64 0, .int .i64 0, .int .i64 0, .int .i64 0, .int .i64 0] 60)) (G5 : Hid (V.heap.size ≤ b5)) (hS : Below V.heap.size V w)
    (H : Hid (∀ (b4 b5 b6 : Nat) (W : World), Blk W b4 (cells6 r) 60 → Blk W b5 (cells6 s) 60 → Blk W b6 (cells6 t) 60 → V.heap.size ≤ b4 → V.heap.size ≤ b5 → V.heap.size ≤ b6 → Below V.heap.size V W → Q .normal ⟨List.toArray (x0 :: (.pointer (some ⟨bx, 0, none⟩) : Value) :: x2 :: x3 :: (.pointer (some ⟨b4, 0, none⟩) : Value) :: (.pointer (some ⟨b5, 0, none⟩) : Value) :: (.pointer (some ⟨b6, 0, none⟩) : Value) :: x7 :: x8 :: x9 :: x10 :: (.pointer (some ⟨bx, 0, none⟩) : Value) :: (.agg (cells6 r) : Value) :: (.agg (cells6 r) : Value) :: (.pointer (some ⟨bx, 6, none⟩) : Value) :: (.agg (cells6 s) : Value) :: (.agg (cells6 s) : Value) :: (.pointer (some ⟨bx, 12, none⟩) : Value) :: (.agg (cells6 t) : Value) :: (.agg (cells6 t) : Value) :: x20 :: x21 :: x22 :: x23 :: x24 :: x25 :: x26 :: x27 :: x28 :: x29 :: x30 :: x31 :: x32 :: x33 :: x34 :: x35 :: x36 :: x37 :: x38 :: x39 :: x40 :: x41 :: x42 :: x43 :: x44 :: x45 :: x46 :: []), []⟩ W)) :
    wpAnyH Try.prog .any (opsOf ((Try.f14.body.bind (regionAt 1)).getD .skip)) (NoPanic Q) (fun W => Below V.heap.size V W) 6 (List.toArray (true :: true :: true :: true :: true :: true :: true :: true :: false :: false :: true :: false :: false :: false :: false :: [])) ⟨List.toArray (x0 :: (.pointer (some ⟨bx, 0, none⟩) : Value) :: x2 :: x3 :: x4 :: (.pointer (some ⟨b5, 0, none⟩) : Value) :: x6 :: x7 :: x8 :: x9 :: x10 :: (.pointer (some ⟨bx, 0, none⟩) : Value) :: (.agg (cells6 r) : Value) :: (.agg (cells6 r) : Value) :: (.pointer (some ⟨bx, 6, none⟩) : Value) :: (.agg (cells6 s) : Value) :: (.agg (cells6 s) : Value) :: (.pointer (some ⟨bx, 12, none⟩) : Value) :: (.agg (cells6 t) : Value) :: x19 :: x20 :: x21 :: x22 :: x23 :: x24 :: x25 :: x26 :: x27 :: x28 :: x29 :: x30 :: x31 :: x32 :: x33 :: x34 :: x35 :: x36 :: x37 :: x38 :: x39 :: x40 :: x41 :: x42 :: x43 :: x44 :: x45 :: x46 :: []), []⟩ w := by
  conv => arg 3; whnf
  refine wpAnyH_all (rs := [8, 9, 11]) (by kernel_rfl) (by simp) (AllReadyH.cons (i := 8) rfl (fun KK hK => ?_) (AllReadyH.cons (i := 9) rfl (fun KK hK => ?_) (AllReadyH.cons (i := 11) rfl (fun KK hK => ?_) AllReadyH.nil)))
  · rw [if_pos (by kernel_rfl)]
    have hS1 := hide hS
    clear hS
    go_wp2_with fail
    refine (num_any t _).mono ?_
    rintro e w' ⟨rfl, hb⟩
    replace K5 := hide ((show Blk _ _ _ _ from unhide K5).keep hb)
    have hS2 := hide (below_via (unhide hS1) hb)
    clear hb hS1
    go_wp2_with fail
    refine hK.out _ _ (unhide hS2) (fun hS => ?_)
    clear hK hS2
    try simp only [Act.put, List.setIfInBounds_toArray, List.set_cons_zero, List.set_cons_succ]
    exact n3_5 K5 G5 hS H
  · rw [if_pos (by kernel_rfl)]
    have K4 := hide (Blk.new w #[.int .i64 0, .int .i64 0, .int .i64 0, .int .i64 0, .int .i64 0, .int .i64 0] 60)
    have G4 := hide hS.size
    have N45 := hide (show w.heap.size ≠ b5 by have := (show Blk _ _ _ _ from unhide K5).lt; omega)
    replace K5 := hide ((show Blk _ _ _ _ from unhide K5).keep (below1 w (.cells #[.int .i64 0, .int .i64 0, .int .i64 0, .int .i64 0, .int .i64 0, .int .i64 0] 60)))
    have hS2 := hide (below_via hS (below1 w (.cells #[.int .i64 0, .int .i64 0, .int .i64 0, .int .i64 0, .int .i64 0, .int .i64 0] 60)))
    clear hS
    go_wp2_with fail
    refine hK.out _ _ (unhide hS2) (fun hS => ?_)
    clear hK hS2
    try simp only [Act.put, List.setIfInBounds_toArray, List.set_cons_zero, List.set_cons_succ]
    exact n2_45 K4 G4 K5 G5 N45 hS H
  · rw [if_pos (by kernel_rfl)]
    have K6 := hide (Blk.new w #[.int .i64 0, .int .i64 0, .int .i64 0, .int .i64 0, .int .i64 0, .int .i64 0] 60)
    have G6 := hide hS.size
    have N56 := hide (show b5 ≠ w.heap.size by have := (show Blk _ _ _ _ from unhide K5).lt; omega)
    replace K5 := hide ((show Blk _ _ _ _ from unhide K5).keep (below1 w (.cells #[.int .i64 0, .int .i64 0, .int .i64 0, .int .i64 0, .int .i64 0, .int .i64 0] 60)))
    have hS2 := hide (below_via hS (below1 w (.cells #[.int .i64 0, .int .i64 0, .int .i64 0, .int .i64 0, .int .i64 0, .int .i64 0] 60)))
    clear hS
    go_wp2_with fail
    refine hK.out _ _ (unhide hS2) (fun hS => ?_)
    clear hK hS2
    try simp only [Act.put, List.setIfInBounds_toArray, List.set_cons_zero, List.set_cons_succ]
    exact n2_56 K5 G5 K6 G6 N56 hS H
theorem n2_6 {Q : Exit → Act → World → Prop} {x0 x2 x3 x4 x5 x7 x8 x9 x10 x19 x20 x21 x22 x23 x24 x25 x26 x27 x28 x29 x30 x31 x32 x33 x34 x35 x36 x37 x38 x39 x40 x41 x42 x43 x44 x45 x46 : Value} {V w : World} {bx b6 : Nat} {r s t : Rw} (K6 : Hid (Blk w b6 #[.int .i64 0, .int .i64 0, .int .i64 0, .int .i64 0, .int .i64 0, .int .i64 0] 60)) (G6 : Hid (V.heap.size ≤ b6)) (hS : Below V.heap.size V w)
    (H : Hid (∀ (b4 b5 b6 : Nat) (W : World), Blk W b4 (cells6 r) 60 → Blk W b5 (cells6 s) 60 → Blk W b6 (cells6 t) 60 → V.heap.size ≤ b4 → V.heap.size ≤ b5 → V.heap.size ≤ b6 → Below V.heap.size V W → Q .normal ⟨List.toArray (x0 :: (.pointer (some ⟨bx, 0, none⟩) : Value) :: x2 :: x3 :: (.pointer (some ⟨b4, 0, none⟩) : Value) :: (.pointer (some ⟨b5, 0, none⟩) : Value) :: (.pointer (some ⟨b6, 0, none⟩) : Value) :: x7 :: x8 :: x9 :: x10 :: (.pointer (some ⟨bx, 0, none⟩) : Value) :: (.agg (cells6 r) : Value) :: (.agg (cells6 r) : Value) :: (.pointer (some ⟨bx, 6, none⟩) : Value) :: (.agg (cells6 s) : Value) :: (.agg (cells6 s) : Value) :: (.pointer (some ⟨bx, 12, none⟩) : Value) :: (.agg (cells6 t) : Value) :: (.agg (cells6 t) : Value) :: x20 :: x21 :: x22 :: x23 :: x24 :: x25 :: x26 :: x27 :: x28 :: x29 :: x30 :: x31 :: x32 :: x33 :: x34 :: x35 :: x36 :: x37 :: x38 :: x39 :: x40 :: x41 :: x42 :: x43 :: x44 :: x45 :: x46 :: []), []⟩ W)) :
    wpAnyH Try.prog .any (opsOf ((Try.f14.body.bind (regionAt 1)).getD .skip)) (NoPanic Q) (fun W => Below V.heap.size V W) 6 (List.toArray (true :: true :: true :: true :: true :: true :: true :: true :: false :: false :: false :: true :: false :: false :: false :: [])) ⟨List.toArray (x0 :: (.pointer (some ⟨bx, 0, none⟩) : Value) :: x2 :: x3 :: x4 :: x5 :: (.pointer (some ⟨b6, 0, none⟩) : Value) :: x7 :: x8 :: x9 :: x10 :: (.pointer (some ⟨bx, 0, none⟩) : Value) :: (.agg (cells6 r) : Value) :: (.agg (cells6 r) : Value) :: (.pointer (some ⟨bx, 6, none⟩) : Value) :: (.agg (cells6 s) : Value) :: (.agg (cells6 s) : Value) :: (.pointer (some ⟨bx, 12, none⟩) : Value) :: (.agg (cells6 t) : Value) :: x19 :: x20 :: x21 :: x22 :: x23 :: x24 :: x25 :: x26 :: x27 :: x28 :: x29 :: x30 :: x31 :: x32 :: x33 :: x34 :: x35 :: x36 :: x37 :: x38 :: x39 :: x40 :: x41 :: x42 :: x43 :: x44 :: x45 :: x46 :: []), []⟩ w := by
  conv => arg 3; whnf
  refine wpAnyH_all (rs := [8, 9, 10]) (by kernel_rfl) (by simp) (AllReadyH.cons (i := 8) rfl (fun KK hK => ?_) (AllReadyH.cons (i := 9) rfl (fun KK hK => ?_) (AllReadyH.cons (i := 10) rfl (fun KK hK => ?_) AllReadyH.nil)))
  · rw [if_pos (by kernel_rfl)]
    have hS1 := hide hS
    clear hS
    go_wp2_with fail
    refine (num_any t _).mono ?_
    rintro e w' ⟨rfl, hb⟩
    replace K6 := hide ((show Blk _ _ _ _ from unhide K6).keep hb)
    have hS2 := hide (below_via (unhide hS1) hb)
    clear hb hS1
    go_wp2_with fail
    refine hK.out _ _ (unhide hS2) (fun hS => ?_)
    clear hK hS2
    try simp only [Act.put, List.setIfInBounds_toArray, List.set_cons_zero, List.set_cons_succ]
    exact n3_6 K6 G6 hS H
  · rw [if_pos (by kernel_rfl)]
    have K4 := hide (Blk.new w #[.int .i64 0, .int .i64 0, .int .i64 0, .int .i64 0, .int .i64 0, .int .i64 0] 60)
    have G4 := hide hS.size
    have N46 := hide (show w.heap.size ≠ b6 by have := (show Blk _ _ _ _ from unhide K6).lt; omega)
    replace K6 := hide ((show Blk _ _ _ _ from unhide K6).keep (below1 w (.cells #[.int .i64 0, .int .i64 0, .int .i64 0, .int .i64 0, .int .i64 0, .int .i64 0] 60)))
    have hS2 := hide (below_via hS (below1 w (.cells #[.int .i64 0, .int .i64 0, .int .i64 0, .int .i64 0, .int .i64 0, .int .i64 0] 60)))
    clear hS
    go_wp2_with fail
    refine hK.out _ _ (unhide hS2) (fun hS => ?_)
    clear hK hS2
    try simp only [Act.put, List.setIfInBounds_toArray, List.set_cons_zero, List.set_cons_succ]
    exact n2_46 K4 G4 K6 G6 N46 hS H
  · rw [if_pos (by kernel_rfl)]
    have K5 := hide (Blk.new w #[.int .i64 0, .int .i64 0, .int .i64 0, .int .i64 0, .int .i64 0, .int .i64 0] 60)
    have G5 := hide hS.size
    have N56 := hide (show w.heap.size ≠ b6 by have := (show Blk _ _ _ _ from unhide K6).lt; omega)
    replace K6 := hide ((show Blk _ _ _ _ from unhide K6).keep (below1 w (.cells #[.int .i64 0, .int .i64 0, .int .i64 0, .int .i64 0, .int .i64 0, .int .i64 0] 60)))
    have hS2 := hide (below_via hS (below1 w (.cells #[.int .i64 0, .int .i64 0, .int .i64 0, .int .i64 0, .int .i64 0, .int .i64 0] 60)))
    clear hS
    go_wp2_with fail
    refine hK.out _ _ (unhide hS2) (fun hS => ?_)
    clear hK hS2
    try simp only [Act.put, List.setIfInBounds_toArray, List.set_cons_zero, List.set_cons_succ]
    exact n2_56 K5 G5 K6 G6 N56 hS H
theorem n2_0 {Q : Exit → Act → World → Prop} {x0 x2 x3 x4 x5 x6 x7 x8 x9 x10 x19 x20 x21 x22 x23 x24 x25 x26 x27 x28 x29 x30 x31 x32 x33 x34 x35 x36 x37 x38 x39 x40 x41 x42 x43 x44 x45 x46 : Value} {V w : World} {bx : Nat} {r s t : Rw} (hS : Below V.heap.size V w)
    (H : Hid (∀ (b4 b5 b6 : Nat) (W : World), Blk W b4 (cells6 r) 60 → Blk W b5 (cells6 s) 60 → Blk W b6 (cells6 t) 60 → V.heap.size ≤ b4 → V.heap.size ≤ b5 → V.heap.size ≤ b6 → Below V.heap.size V W → Q .normal ⟨List.toArray (x0 :: (.pointer (some ⟨bx, 0, none⟩) : Value) :: x2 :: x3 :: (.pointer (some ⟨b4, 0, none⟩) : Value) :: (.pointer (some ⟨b5, 0, none⟩) : Value) :: (.pointer (some ⟨b6, 0, none⟩) : Value) :: x7 :: x8 :: x9 :: x10 :: (.pointer (some ⟨bx, 0, none⟩) : Value) :: (.agg (cells6 r) : Value) :: (.agg (cells6 r) : Value) :: (.pointer (some ⟨bx, 6, none⟩) : Value) :: (.agg (cells6 s) : Value) :: (.agg (cells6 s) : Value) :: (.pointer (some ⟨bx, 12, none⟩) : Value) :: (.agg (cells6 t) : Value) :: (.agg (cells6 t) : Value) :: x20 :: x21 :: x22 :: x23 :: x24 :: x25 :: x26 :: x27 :: x28 :: x29 :: x30 :: x31 :: x32 :: x33 :: x34 :: x35 :: x36 :: x37 :: x38 :: x39 :: x40 :: x41 :: x42 :: x43 :: x44 :: x45 :: x46 :: []), []⟩ W)) :
    wpAnyH Try.prog .any (opsOf ((Try.f14.body.bind (regionAt 1)).getD .skip)) (NoPanic Q) (fun W => Below V.heap.size V W) 7 (List.toArray (true :: true :: true :: true :: true :: true :: true :: true :: false :: false :: false :: false :: false :: false :: false :: [])) ⟨List.toArray (x0 :: (.pointer (some ⟨bx, 0, none⟩) : Value) :: x2 :: x3 :: x4 :: x5 :: x6 :: x7 :: x8 :: x9 :: x10 :: (.pointer (some ⟨bx, 0, none⟩) : Value) :: (.agg (cells6 r) : Value) :: (.agg (cells6 r) : Value) :: (.pointer (some ⟨bx, 6, none⟩) : Value) :: (.agg (cells6 s) : Value) :: (.agg (cells6 s) : Value) :: (.pointer (some ⟨bx, 12, none⟩) : Value) :: (.agg (cells6 t) : Value) :: x19 :: x20 :: x21 :: x22 :: x23 :: x24 :: x25 :: x26 :: x27 :: x28 :: x29 :: x30 :: x31 :: x32 :: x33 :: x34 :: x35 :: x36 :: x37 :: x38 :: x39 :: x40 :: x41 :: x42 :: x43 :: x44 :: x45 :: x46 :: []), []⟩ w := by
  conv => arg 3; whnf
  refine wpAnyH_all (rs := [8, 9, 10, 11]) (by kernel_rfl) (by simp) (AllReadyH.cons (i := 8) rfl (fun KK hK => ?_) (AllReadyH.cons (i := 9) rfl (fun KK hK => ?_) (AllReadyH.cons (i := 10) rfl (fun KK hK => ?_) (AllReadyH.cons (i := 11) rfl (fun KK hK => ?_) AllReadyH.nil))))
  · rw [if_pos (by kernel_rfl)]
    have hS1 := hide hS
    clear hS
    go_wp2_with fail
    refine (num_any t _).mono ?_
    rintro e w' ⟨rfl, hb⟩
    have hS2 := hide (below_via (unhide hS1) hb)
    clear hb hS1
    go_wp2_with fail
    refine hK.out _ _ (unhide hS2) (fun hS => ?_)
    clear hK hS2
    try simp only [Act.put, List.setIfInBounds_toArray, List.set_cons_zero, List.set_cons_succ]
    exact n3_0 hS H
  · rw [if_pos (by kernel_rfl)]
    have K4 := hide (Blk.new w #[.int .i64 0, .int .i64 0, .int .i64 0, .int .i64 0, .int .i64 0, .int .i64 0] 60)
    have G4 := hide hS.size
    have hS2 := hide (below_via hS (below1 w (.cells #[.int .i64 0, .int .i64 0, .int .i64 0, .int .i64 0, .int .i64 0, .int .i64 0] 60)))
    clear hS
    go_wp2_with fail
    refine hK.out _ _ (unhide hS2) (fun hS => ?_)
    clear hK hS2
    try simp only [Act.put, List.setIfInBounds_toArray, List.set_cons_zero, List.set_cons_succ]
    exact n2_4 K4 G4 hS H
  · rw [if_pos (by kernel_rfl)]
    have K5 := hide (Blk.new w #[.int .i64 0, .int .i64 0, .int .i64 0, .int .i64 0, .int .i64 0, .int .i64 0] 60)
    have G5 := hide hS.size
    have hS2 := hide (below_via hS (below1 w (.cells #[.int .i64 0, .int .i64 0, .int .i64 0, .int .i64 0, .int .i64 0, .int .i64 0] 60)))
    clear hS
    go_wp2_with fail
    refine hK.out _ _ (unhide hS2) (fun hS => ?_)
    clear hK hS2
    try simp only [Act.put, List.setIfInBounds_toArray, List.set_cons_zero, List.set_cons_succ]
    exact n2_5 K5 G5 hS H
  · rw [if_pos (by kernel_rfl)]
    have K6 := hide (Blk.new w #[.int .i64 0, .int .i64 0, .int .i64 0, .int .i64 0, .int .i64 0, .int .i64 0] 60)
    have G6 := hide hS.size
    have hS2 := hide (below_via hS (below1 w (.cells #[.int .i64 0, .int .i64 0, .int .i64 0, .int .i64 0, .int .i64 0, .int .i64 0] 60)))
    clear hS
    go_wp2_with fail
    refine hK.out _ _ (unhide hS2) (fun hS => ?_)
    clear hK hS2
    try simp only [Act.put, List.setIfInBounds_toArray, List.set_cons_zero, List.set_cons_succ]
    exact n2_6 K6 G6 hS H
theorem n1_456 {Q : Exit → Act → World → Prop} {x0 x2 x3 x7 x8 x9 x10 x16 x19 x20 x21 x22 x23 x24 x25 x26 x27 x28 x29 x30 x31 x32 x33 x34 x35 x36 x37 x38 x39 x40 x41 x42 x43 x44 x45 x46 : Value} {V w : World} {bx b4 b5 b6 : Nat} {r s t : Rw} (K4 : Hid (Blk w b4 #[.int .i64 0, .int .i64 0, .int .i64 0, .int .i64 0, .int .i64 0, .int .i64 0] 60)) (G4 : Hid (V.heap.size ≤ b4)) (K5 : Hid (Blk w b5 #[.int .i64 0, .int .i64 0, .int .i64 0, .int .i64 0, .int .i64 0, .int .i64 0] 60)) (G5 : Hid (V.heap.size ≤ b5)) (K6 : Hid (Blk w b6 #[.int .i64 0, .int .i64 0, .int .i64 0, .int .i64 0, .int .i64 0, .int .i64 0] 60)) (G6 : Hid (V.heap.size ≤ b6)) (N45 : Hid (b4 ≠ b5)) (N46 : Hid (b4 ≠ b6)) (N56 : Hid (b5 ≠ b6)) (hS : Below V.heap.size V w)
    (H : Hid (∀ (b4 b5 b6 : Nat) (W : World), Blk W b4 (cells6 r) 60 → Blk W b5 (cells6 s) 60 → Blk W b6 (cells6 t) 60 → V.heap.size ≤ b4 → V.heap.size ≤ b5 → V.heap.size ≤ b6 → Below V.heap.size V W → Q .normal ⟨List.toArray (x0 :: (.pointer (some ⟨bx, 0, none⟩) : Value) :: x2 :: x3 :: (.pointer (some ⟨b4, 0, none⟩) : Value) :: (.pointer (some ⟨b5, 0, none⟩) : Value) :: (.pointer (some ⟨b6, 0, none⟩) : Value) :: x7 :: x8 :: x9 :: x10 :: (.pointer (some ⟨bx, 0, none⟩) : Value) :: (.agg (cells6 r) : Value) :: (.agg (cells6 r) : Value) :: (.pointer (some ⟨bx, 6, none⟩) : Value) :: (.agg (cells6 s) : Value) :: (.agg (cells6 s) : Value) :: (.pointer (some ⟨bx, 12, none⟩) : Value) :: (.agg (cells6 t) : Value) :: (.agg (cells6 t) : Value) :: x20 :: x21 :: x22 :: x23 :: x24 :: x25 :: x26 :: x27 :: x28 :: x29 :: x30 :: x31 :: x32 :: x33 :: x34 :: x35 :: x36 :: x37 :: x38 :: x39 :: x40 :: x41 :: x42 :: x43 :: x44 :: x45 :: x46 :: []), []⟩ W)) :
    wpAnyH Try.prog .any (opsOf ((Try.f14.body.bind (regionAt 1)).getD .skip)) (NoPanic Q) (fun W => Below V.heap.size V W) 5 (List.toArray (true :: true :: true :: true :: true :: false :: true :: true :: false :: true :: true :: true :: false :: false :: false :: [])) ⟨List.toArray (x0 :: (.pointer (some ⟨bx, 0, none⟩) : Value) :: x2 :: x3 :: (.pointer (some ⟨b4, 0, none⟩) : Value) :: (.pointer (some ⟨b5, 0, none⟩) : Value) :: (.pointer (some ⟨b6, 0, none⟩) : Value) :: x7 :: x8 :: x9 :: x10 :: (.pointer (some ⟨bx, 0, none⟩) : Value) :: (.agg (cells6 r) : Value) :: (.agg (cells6 r) : Value) :: (.pointer (some ⟨bx, 6, none⟩) : Value) :: (.agg (cells6 s) : Value) :: x16 :: (.pointer (some ⟨bx, 12, none⟩) : Value) :: (.agg (cells6 t) : Value) :: x19 :: x20 :: x21 :: x22 :: x23 :: x24 :: x25 :: x26 :: x27 :: x28 :: x29 :: x30 :: x31 :: x32 :: x33 :: x34 :: x35 :: x36 :: x37 :: x38 :: x39 :: x40 :: x41 :: x42 :: x43 :: x44 :: x45 :: x46 :: []), []⟩ w := by
  conv => arg 3; whnf
  refine wpAnyH_all (rs := [5]) (by kernel_rfl) (by simp) (AllReadyH.cons (i := 5) rfl (fun KK hK => ?_) AllReadyH.nil)
  rw [if_pos (by kernel_rfl)]
  have hS1 := hide hS
  clear hS
  go_wp2_with fail
  refine (num_any s _).mono ?_
  rintro e w' ⟨rfl, hb⟩
  replace K4 := hide ((show Blk _ _ _ _ from unhide K4).keep hb)
  replace K5 := hide ((show Blk _ _ _ _ from unhide K5).keep hb)
  replace K6 := hide ((show Blk _ _ _ _ from unhide K6).keep hb)
  have hS2 := hide (below_via (unhide hS1) hb)
  clear hb hS1
  go_wp2_with fail
  refine hK.out _ _ (unhide hS2) (fun hS => ?_)
  clear hK hS2
  try simp only [Act.put, List.setIfInBounds_toArray, List.set_cons_zero, List.set_cons_succ]
  exact n2_456 K4 G4 K5 G5 K6 G6 N45 N46 N56 hS H
theorem n1_45 {Q : Exit → Act → World → Prop} {x0 x2 x3 x6 x7 x8 x9 x10 x16 x19 x20 x21 x22 x23 x24 x25 x26 x27 x28 x29 x30 x31 x32 x33 x34 x35 x36 x37 x38 x39 x40 x41 x42 x43 x44 x45 x46 : Value} {V w : World} {bx b4 b5 : Nat} {r s t : Rw} (K4 : Hid (Blk w b4 #[.int .i64 0, .int .i64 0, .int .i64 0, .int .i64 0, .int .i64 0, .int .i64 0] 60)) (G4 : Hid (V.heap.size ≤ b4)) (K5 : Hid (Blk w b5 #[.int .i64 0, .int .i64 0, .int .i64 0, .int .i64 0, .int .i64 0, .int .i64 0] 60)) (G5 : Hid (V.heap.size ≤ b5)) (N45 : Hid (b4 ≠ b5)) (hS : Below V.heap.size V w)
    (H : Hid (∀ (b4 b5 b6 : Nat) (W : World), Blk W b4 (cells6 r) 60 → Blk W b5 (cells6 s) 60 → Blk W b6 (cells6 t) 60 → V.heap.size ≤ b4 → V.heap.size ≤ b5 → V.heap.size ≤ b6 → Below V.heap.size V W → Q .normal ⟨List.toArray (x0 :: (.pointer (some ⟨bx, 0, none⟩) : Value) :: x2 :: x3 :: (.pointer (some ⟨b4, 0, none⟩) : Value) :: (.pointer (some ⟨b5, 0, none⟩) : Value) :: (.pointer (some ⟨b6, 0, none⟩) : Value) :: x7 :: x8 :: x9 :: x10 :: (.pointer (some ⟨bx, 0, none⟩) : Value) :: (.agg (cells6 r) : Value) :: (.agg (cells6 r) : Value) :: (.pointer (some ⟨bx, 6, none⟩) : Value) :: (.agg (cells6 s) : Value) :: (.agg (cells6 s) : Value) :: (.pointer (some ⟨bx, 12, none⟩) : Value) :: (.agg (cells6 t) : Value) :: (.agg (cells6 t) : Value) :: x20 :: x21 :: x22 :: x23 :: x24 :: x25 :: x26 :: x27 :: x28 :: x29 :: x30 :: x31 :: x32 :: x33 :: x34 :: x35 :: x36 :: x37 :: x38 :: x39 :: x40 :: x41 :: x42 :: x43 :: x44 :: x45 :: x46 :: []), []⟩ W)) :
    wpAnyH Try.prog .any (opsOf ((Try.f14.body.bind (regionAt 1)).getD .skip)) (NoPanic Q) (fun W => Below V.heap.size V W) 6 (List.toArray (true :: true :: true :: true :: true :: false :: true :: true :: false :: true :: true :: false :: false :: false :: false :: [])) ⟨List.toArray (x0 :: (.pointer (some ⟨bx, 0, none⟩) : Value) :: x2 :: x3 :: (.pointer (some ⟨b4, 0, none⟩) : Value) :: (.pointer (some ⟨b5, 0, none⟩) : Value) :: x6 :: x7 :: x8 :: x9 :: x10 :: (.pointer (some ⟨bx, 0, none⟩) : Value) :: (.agg (cells6 r) : Value) :: (.agg (cells6 r) : Value) :: (.pointer (some ⟨bx, 6, none⟩) : Value) :: (.agg (cells6 s) : Value) :: x16 :: (.pointer (some ⟨bx, 12, none⟩) : Value) :: (.agg (cells6 t) : Value) :: x19 :: x20 :: x21 :: x22 :: x23 :: x24 :: x25 :: x26 :: x27 :: x28 :: x29 :: x30 :: x31 :: x32 :: x33 :: x34 :: x35 :: x36 :: x37 :: x38 :: x39 :: x40 :: x41 :: x42 :: x43 :: x44 :: x45 :: x46 :: []), []⟩ w := by
  conv => arg 3; whnf
  refine wpAnyH_all (rs := [5, 11]) (by kernel_rfl) (by simp) (AllReadyH.cons (i := 5) rfl (fun KK hK => ?_) (AllReadyH.cons (i := 11) rfl (fun KK hK => ?_) AllReadyH.nil))
  · rw [if_pos (by kernel_rfl)]
    have hS1 := hide hS
    clear hS
    go_wp2_with fail
    refine (num_any s _).mono ?_
    rintro e w' ⟨rfl, hb⟩
    replace K4 := hide ((show Blk _ _ _ _ from unhide K4).keep hb)
    replace K5 := hide ((show Blk _ _ _ _ from unhide K5).keep hb)
    have hS2 := hide (below_via (unhide hS1) hb)
    clear hb hS1
    go_wp2_with fail
    refine hK.out _ _ (unhide hS2) (fun hS => ?_)
    clear hK hS2
    try simp only [Act.put, List.setIfInBounds_toArray, List.set_cons_zero, List.set_cons_succ]
    exact n2_45 K4 G4 K5 G5 N45 hS H
  · rw [if_pos (by kernel_rfl)]
    have K6 := hide (Blk.new w #[.int .i64 0, .int .i64 0, .int .i64 0, .int .i64 0, .int .i64 0, .int .i64 0] 60)
    have G6 := hide hS.size
    have N46 := hide (show b4 ≠ w.heap.size by have := (show Blk _ _ _ _ from unhide K4).lt; omega)
    have N56 := hide (show b5 ≠ w.heap.size by have := (show Blk _ _ _ _ from unhide K5).lt; omega)
    replace K4 := hide ((show Blk _ _ _ _ from unhide K4).keep (below1 w (.cells #[.int .i64 0, .int .i64 0, .int .i64 0, .int .i64 0, .int .i64 0, .int .i64 0] 60)))
    replace K5 := hide ((show Blk _ _ _ _ from unhide K5).keep (below1 w (.cells #[.int .i64 0, .int .i64 0, .int .i64 0, .int .i64 0, .int .i64 0, .int .i64 0] 60)))
    have hS2 := hide (below_via hS (below1 w (.cells #[.int .i64 0, .int .i64 0, .int .i64 0, .int .i64 0, .int .i64 0, .int .i64 0] 60)))
    clear hS
    go_wp2_with fail
    refine hK.out _ _ (unhide hS2) (fun hS => ?_)
    clear hK hS2
    try simp only [Act.put, List.setIfInBounds_toArray, List.set_cons_zero, List.set_cons_succ]
    exact n1_456 K4 G4 K5 G5 K6 G6 N45 N46 N56 hS H
theorem n1_46 {Q : Exit → Act → World → Prop} {x0 x2 x3 x5 x7 x8 x9 x10 x16 x19 x20 x21 x22 x23 x24 x25 x26 x27 x28 x29 x30 x31 x32 x33 x34 x35 x36 x37 x38 x39 x40 x41 x42 x43 x44 x45 x46 : Value} {V w : World} {bx b4 b6 : Nat} {r s t : Rw} (K4 : Hid (Blk w b4 #[.int .i64 0, .int .i64 0, .int .i64 0, .int .i64 0, .int .i64 0, .int .i64 0] 60)) (G4 : Hid (V.heap.size ≤ b4)) (K6 : Hid (Blk w b6 #[.int .i64 0, .int .i64 0, .int .i64 0, .int .i64 0, .int .i64 0, .int .i64 0] 60)) (G6 : Hid (V.heap.size ≤ b6)) (N46 : Hid (b4 ≠ b6)) (hS : Below V.heap.size V w)
    (H : Hid (∀ (b4 b5 b6 : Nat) (W : World), Blk W b4 (cells6 r) 60 → Blk W b5 (cells6 s) 60 → Blk W b6 (cells6 t) 60 → V.heap.size ≤ b4 → V.heap.size ≤ b5 → V.heap.size ≤ b6 → Below V.heap.size V W → Q .normal ⟨List.toArray (x0 :: (.pointer (some ⟨bx, 0, none⟩) : Value) :: x2 :: x3 :: (.pointer (some ⟨b4, 0, none⟩) : Value) :: (.pointer (some ⟨b5, 0, none⟩) : Value) :: (.pointer (some ⟨b6, 0, none⟩) : Value) :: x7 :: x8 :: x9 :: x10 :: (.pointer (some ⟨bx, 0, none⟩) : Value) :: (.agg (cells6 r) : Value) :: (.agg (cells6 r) : Value) :: (.pointer (some ⟨bx, 6, none⟩) : Value) :: (.agg (cells6 s) : Value) :: (.agg (cells6 s) : Value) :: (.pointer (some ⟨bx, 12, none⟩) : Value) :: (.agg (cells6 t) : Value) :: (.agg (cells6 t) : Value) :: x20 :: x21 :: x22 :: x23 :: x24 :: x25 :: x26 :: x27 :: x28 :: x29 :: x30 :: x31 :: x32 :: x33 :: x34 :: x35 :: x36 :: x37 :: x38 :: x39 :: x40 :: x41 :: x42 :: x43 :: x44 :: x45 :: x46 :: []), []⟩ W)) :
    wpAnyH Try.prog .any (opsOf ((Try.f14.body.bind (regionAt 1)).getD .skip)) (NoPanic Q) (fun W => Below V.heap.size V W) 6 (List.toArray (true :: true :: true :: true :: true :: false :: true :: true :: false :: true :: false :: true :: false :: false :: false :: [])) ⟨List.toArray (x0 :: (.pointer (some ⟨bx, 0, none⟩) : Value) :: x2 :: x3 :: (.pointer (some ⟨b4, 0, none⟩) : Value) :: x5 :: (.pointer (some ⟨b6, 0, none⟩) : Value) :: x7 :: x8 :: x9 :: x10 :: (.pointer (some ⟨bx, 0, none⟩) : Value) :: (.agg (cells6 r) : Value) :: (.agg (cells6 r) : Value) :: (.pointer (some ⟨bx, 6, none⟩) : Value) :: (.agg (cells6 s) : Value) :: x16 :: (.pointer (some ⟨bx, 12, none⟩) : Value) :: (.agg (cells6 t) : Value) :: x19 :: x20 :: x21 :: x22 :: x23 :: x24 :: x25 :: x26 :: x27 :: x28 :: x29 :: x30 :: x31 :: x32 :: x33 :: x34 :: x35 :: x36 :: x37 :: x38 :: x39 :: x40 :: x41 :: x42 :: x43 :: x44 :: x45 :: x46 :: []), []⟩ w := by
  conv => arg 3; whnf
  refine wpAnyH_all (rs := [5, 10]) (by kernel_rfl) (by simp) (AllReadyH.cons (i := 5) rfl (fun KK hK => ?_) (AllReadyH.cons (i := 10) rfl (fun KK hK => ?_) AllReadyH.nil))
  · rw [if_pos (by kernel_rfl)]
    have hS1 := hide hS
    clear hS
    go_wp2_with fail
    refine (num_any s _).mono ?_
    rintro e w' ⟨rfl, hb⟩
    replace K4 := hide ((show Blk _ _ _ _ from unhide K4).keep hb)
    replace K6 := hide ((show Blk _ _ _ _ from unhide K6).keep hb)
    have hS2 := hide (below_via (unhide hS1) hb)
    clear hb hS1
    go_wp2_with fail
    refine hK.out _ _ (unhide hS2) (fun hS => ?_)
    clear hK hS2
    try simp only [Act.put, List.setIfInBounds_toArray, List.set_cons_zero, List.set_cons_succ]
    exact n2_46 K4 G4 K6 G6 N46 hS H
  · rw [if_pos (by kernel_rfl)]
    have K5 := hide (Blk.new w #[.int .i64 0, .int .i64 0, .int .i64 0, .int .i64 0, .int .i64 0, .int .i64 0] 60)
    have G5 := hide hS.size
    have N45 := hide (show b4 ≠ w.heap.size by have := (show Blk _ _ _ _ from unhide K4).lt; omega)
    have N56 := hide (show w.heap.size ≠ b6 by have := (show Blk _ _ _ _ from unhide K6).lt; omega)
    replace K4 := hide ((show Blk _ _ _ _ from unhide K4).keep (below1 w (.cells #[.int .i64 0, .int .i64 0, .int .i64 0, .int .i64 0, .int .i64 0, .int .i64 0] 60)))
    replace K6 := hide ((show Blk _ _ _ _ from unhide K6).keep (below1 w (.cells #[.int .i64 0, .int .i64 0, .int .i64 0, .int .i64 0, .int .i64 0, .int .i64 0] 60)))
    have hS2 := hide (below_via hS (below1 w (.cells #[.int .i64 0, .int .i64 0, .int .i64 0, .int .i64 0, .int .i64 0, .int .i64 0] 60)))
    clear hS
    go_wp2_with fail
    refine hK.out _ _ (unhide hS2) (fun hS => ?_)
    clear hK hS2
    try simp only [Act.put, List.setIfInBounds_toArray, List.set_cons_zero, List.set_cons_succ]
    exact n1_456 K4 G4 K5 G5 K6 G6 N45 N46 N56 hS H
theorem n1_56 {Q : Exit → Act → World → Prop} {x0 x2 x3 x4 x7 x8 x9 x10 x16 x19 x20 x21 x22 x23 x24 x25 x26 x27 x28 x29 x30 x31 x32 x33 x34 x35 x36 x37 x38 x39 x40 x41 x42 x43 x44 x45 x46 : Value} {V w : World} {bx b5 b6 : Nat} {r s t : Rw} (K5 : Hid (Blk w b5 #[.int .i64 0, .int .i64 0, .int .i64 0, .int .i64 0, .int .i64 0, .int .i64 0] 60)) (G5 : Hid (V.heap.size ≤ b5)) (K6 : Hid (Blk w b6 #[.int .i64 0, .int .i64 0, .int .i64 0, .int .i64 0, .int .i64 0, .int .i64 0] 60)) (G6 : Hid (V.heap.size ≤ b6)) (N56 : Hid (b5 ≠ b6)) (hS : Below V.heap.size V w)
    (H : Hid (∀ (b4 b5 b6 : Nat) (W : World), Blk W b4 (cells6 r) 60 → Blk W b5 (cells6 s) 60 → Blk W b6 (cells6 t) 60 → V.heap.size ≤ b4 → V.heap.size ≤ b5 → V.heap.size ≤ b6 → Below V.heap.size V W → Q .normal ⟨List.toArray (x0 :: (.pointer (some ⟨bx, 0, none⟩) : Value) :: x2 :: x3 :: (.pointer (some ⟨b4, 0, none⟩) : Value) :: (.pointer (some ⟨b5, 0, none⟩) : Value) :: (.pointer (some ⟨b6, 0, none⟩) : Value) :: x7 :: x8 :: x9 :: x10 :: (.pointer (some ⟨bx, 0, none⟩) : Value) :: (.agg (cells6 r) : Value) :: (.agg (cells6 r) : Value) :: (.pointer (some ⟨bx, 6, none⟩) : Value) :: (.agg (cells6 s) : Value) :: (.agg (cells6 s) : Value) :: (.pointer (some ⟨bx, 12, none⟩) : Value) :: (.agg (cells6 t) : Value) :: (.agg (cells6 t) : Value) :: x20 :: x21 :: x22 :: x23 :: x24 :: x25 :: x26 :: x27 :: x28 :: x29 :: x30 :: x31 :: x32 :: x33 :: x34 :: x35 :: x36 :: x37 :: x38 :: x39 :: x40 :: x41 :: x42 :: x43 :: x44 :: x45 :: x46 :: []), []⟩ W)) :
    wpAnyH Try.prog .any (opsOf ((Try.f14.body.bind (regionAt 1)).getD .skip)) (NoPanic Q) (fun W => Below V.heap.size V W) 6 (List.toArray (true :: true :: true :: true :: true :: false :: true :: true :: false :: false :: true :: true :: false :: false :: false :: [])) ⟨List.toArray (x0 :: (.pointer (some ⟨bx, 0, none⟩) : Value) :: x2 :: x3 :: x4 :: (.pointer (some ⟨b5, 0, none⟩) : Value) :: (.pointer (some ⟨b6, 0, none⟩) : Value) :: x7 :: x8 :: x9 :: x10 :: (.pointer (some ⟨bx, 0, none⟩) : Value) :: (.agg (cells6 r) : Value) :: (.agg (cells6 r) : Value) :: (.pointer (some ⟨bx, 6, none⟩) : Value) :: (.agg (cells6 s) : Value) :: x16 :: (.pointer (some ⟨bx, 12, none⟩) : Value) :: (.agg (cells6 t) : Value) :: x19 :: x20 :: x21 :: x22 :: x23 :: x24 :: x25 :: x26 :: x27 :: x28 :: x29 :: x30 :: x31 :: x32 :: x33 :: x34 :: x35 :: x36 :: x37 :: x38 :: x39 :: x40 :: x41 :: x42 :: x43 :: x44 :: x45 :: x46 :: []), []⟩ w := by
  conv => arg 3; whnf
  refine wpAnyH_all (rs := [5, 9]) (by kernel_rfl) (by simp) (AllReadyH.cons (i := 5) rfl (fun KK hK => ?_) (AllReadyH.cons (i := 9) rfl (fun KK hK => ?_) AllReadyH.nil))
  · rw [if_pos (by kernel_rfl)]
    have hS1 := hide hS
    clear hS
    go_wp2_with fail
    refine (num_any s _).mono ?_
    rintro e w' ⟨rfl, hb⟩
    replace K5 := hide ((show Blk _ _ _ _ from unhide K5).keep hb)
    replace K6 := hide ((show Blk _ _ _ _ from unhide K6).keep hb)
    have hS2 := hide (below_via (unhide hS1) hb)
    clear hb hS1
    go_wp2_with fail
    refine hK.out _ _ (unhide hS2) (fun hS => ?_)
    clear hK hS2
    try simp only [Act.put, List.setIfInBounds_toArray, List.set_cons_zero, List.set_cons_succ]
    exact n2_56 K5 G5 K6 G6 N56 hS H
  · rw [if_pos (by kernel_rfl)]
    have K4 := hide (Blk.new w #[.int .i64 0, .int .i64 0, .int .i64 0, .int .i64 0, .int .i64 0, .int .i64 0] 60)
    have G4 := hide hS.size
    have N45 := hide (show w.heap.size ≠ b5 by have := (show Blk _ _ _ _ from unhide K5).lt; omega)
    have N46 := hide (show w.heap.size ≠ b6 by have := (show Blk _ _ _ _ from unhide K6).lt; omega)
    replace K5 := hide ((show Blk _ _ _ _ from unhide K5).keep (below1 w (.cells #[.int .i64 0, .int .i64 0, .int .i64 0, .int .i64 0, .int .i64 0, .int .i64 0] 60)))
    replace K6 := hide ((show Blk _ _ _ _ from unhide K6).keep (below1 w (.cells #[.int .i64 0, .int .i64 0, .int .i64 0, .int .i64 0, .int .i64 0, .int .i64 0] 60)))
    have hS2 := hide (below_via hS (below1 w (.cells #[.int .i64 0, .int .i64 0, .int .i64 0, .int .i64 0, .int .i64 0, .int .i64 0] 60)))
    clear hS
    go_wp2_with fail
    refine hK.out _ _ (unhide hS2) (fun hS => ?_)
    clear hK hS2
    try simp only [Act.put, List.setIfInBounds_toArray, List.set_cons_zero, List.set_cons_succ]
    exact n1_456 K4 G4 K5 G5 K6 G6 N45 N46 N56 hS H
theorem n1_4 {Q : Exit → Act → World → Prop} {x0 x2 x3 x5 x6 x7 x8 x9 x10 x16 x19 x20 x21 x22 x23 x24 x25 x26 x27 x28 x29 x30 x31 x32 x33 x34 x35 x36 x37 x38 x39 x40 x41 x42 x43 x44 x45 x46 : Value} {V w : World} {bx b4 : Nat} {r s t : Rw} (K4 : Hid (Blk w b4 #[.int .i64 0, .int .i64 0, .int .i64 0, .int .i64 0, .int .i64 0, .int .i64 0] 60)) (G4 : Hid (V.heap.size ≤ b4)) (hS : Below V.heap.size V w)
    (H : Hid (∀ (b4 b5 b6 : Nat) (W : World), Blk W b4 (cells6 r) 60 → Blk W b5 (cells6 s) 60 → Blk W b6 (cells6 t) 60 → V.heap.size ≤ b4 → V.heap.size ≤ b5 → V.heap.size ≤ b6 → Below V.heap.size V W → Q .normal ⟨List.toArray (x0 :: (.pointer (some ⟨bx, 0, none⟩) : Value) :: x2 :: x3 :: (.pointer (some ⟨b4, 0, none⟩) : Value) :: (.pointer (some ⟨b5, 0, none⟩) : Value) :: (.pointer (some ⟨b6, 0, none⟩) : Value) :: x7 :: x8 :: x9 :: x10 :: (.pointer (some ⟨bx, 0, none⟩) : Value) :: (.agg (cells6 r) : Value) :: (.agg (cells6 r) : Value) :: (.pointer (some ⟨bx, 6, none⟩) : Value) :: (.agg (cells6 s) : Value) :: (.agg (cells6 s) : Value) :: (.pointer (some ⟨bx, 12, none⟩) : Value) :: (.agg (cells6 t) : Value) :: (.agg (cells6 t) : Value) :: x20 :: x21 :: x22 :: x23 :: x24 :: x25 :: x26 :: x27 :: x28 :: x29 :: x30 :: x31 :: x32 :: x33 :: x34 :: x35 :: x36 :: x37 :: x38 :: x39 :: x40 :: x41 :: x42 :: x43 :: x44 :: x45 :: x46 :: []), []⟩ W)) :
    wpAnyH Try.prog .any (opsOf ((Try.f14.body.bind (regionAt 1)).getD .skip)) (NoPanic Q) (fun W => Below V.heap.size V W) 7 (List.toArray (true :: true :: true :: true :: true :: false :: true :: true :: false :: true :: false :: false :: false :: false :: false :: [])) ⟨List.toArray (x0 :: (.pointer (some ⟨bx, 0, none⟩) : Value) :: x2 :: x3 :: (.pointer (some ⟨b4, 0, none⟩) : Value) :: x5 :: x6 :: x7 :: x8 :: x9 :: x10 :: (.pointer (some ⟨bx, 0, none⟩) : Value) :: (.agg (cells6 r) : Value) :: (.agg (cells6 r) : Value) :: (.pointer (some ⟨bx, 6, none⟩) : Value) :: (.agg (cells6 s) : Value) :: x16 :: (.pointer (some ⟨bx, 12, none⟩) : Value) :: (.agg (cells6 t) : Value) :: x19 :: x20 :: x21 :: x22 :: x23 :: x24 :: x25 :: x26 :: x27 :: x28 :: x29 :: x30 :: x31 :: x32 :: x33 :: x34 :: x35 :: x36 :: x37 :: x38 :: x39 :: x40 :: x41 :: x42 :: x43 :: x44 :: x45 :: x46 :: []), []⟩ w := by
  conv => arg 3; whnf
  refine wpAnyH_all (rs := [5, 10, 11]) (by kernel_rfl) (by simp) (AllReadyH.cons (i := 5) rfl (fun KK hK => ?_) (AllReadyH.cons (i := 10) rfl (fun KK hK => ?_) (AllReadyH.cons (i := 11) rfl (fun KK hK => ?_) AllReadyH.nil)))
  · rw [if_pos (by kernel_rfl)]
    have hS1 := hide hS
    clear hS
    go_wp2_with fail
    refine (num_any s _).mono ?_
    rintro e w' ⟨rfl, hb⟩
    replace K4 := hide ((show Blk _ _ _ _ from unhide K4).keep hb)
    have hS2 := hide (below_via (unhide hS1) hb)
    clear hb hS1
    go_wp2_with fail
    refine hK.out _ _ (unhide hS2) (fun hS => ?_)
    clear hK hS2
    try simp only [Act.put, List.setIfInBounds_toArray, List.set_cons_zero, List.set_cons_succ]
    exact n2_4 K4 G4 hS H
  · rw [if_pos (by kernel_rfl)]
    have K5 := hide (Blk.new w #[.int .i64 0, .int .i64 0, .int .i64 0, .int .i64 0, .int .i64 0, .int .i64 0] 60)
    have G5 := hide hS.size
    have N45 := hide (show b4 ≠ w.heap.size by have := (show Blk _ _ _ _ from unhide K4).lt; omega)
    replace K4 := hide ((show Blk _ _ _ _ from unhide K4).keep (below1 w (.cells #[.int .i64 0, .int .i64 0, .int .i64 0, .int .i64 0, .int .i64 0, .int .i64 0] 60)))
    have hS2 := hide (below_via hS (below1 w (.cells #[.int .i64 0, .int .i64 0, .int .i64 0, .int .i64 0, .int .i64 0, .int .i64 0] 60)))
    clear hS
    go_wp2_with fail
    refine hK.out _ _ (unhide hS2) (fun hS => ?_)
    clear hK hS2
    try simp only [Act.put, List.setIfInBounds_toArray, List.set_cons_zero, List.set_cons_succ]
    exact n1_45 K4 G4 K5 G5 N45 hS H
  · rw [if_pos (by kernel_rfl)]
    have K6 := hide (Blk.new w #[.int .i64 0, .int .i64 0, .int .i64 0, .int .i64 0, .int .i64 0, .int .i64 0] 60)
    have G6 := hide hS.size
    have N46 := hide (show b4 ≠ w.heap.size by have := (show Blk _ _ _ _ from unhide K4).lt; omega)
    replace K4 := hide ((show Blk _ _ _ _ from unhide K4).keep (below1 w (.cells #[.int .i64 0, .int .i64 0, .int .i64 0, .int .i64 0, .int .i64 0, .int .i64 0] 60)))
    have hS2 := hide (below_via hS (below1 w (.cells #[.int .i64 0, .int .i64 0, .int .i64 0, .int .i64 0, .int .i64 0, .int .i64 0] 60)))
    clear hS
    go_wp2_with fail
    refine hK.out _ _ (unhide hS2) (fun hS => ?_)
    clear hK hS2
    try simp only [Act.put, List.setIfInBounds_toArray, List.set_cons_zero, List.set_cons_succ]
    exact n1_46 K4 G4 K6 G6 N46 hS H
theorem n1_5 {Q : Exit → Act → World → Prop} {x0 x2 x3 x4 x6 x7 x8 x9 x10 x16 x19 x20 x21 x22 x23 x24 x25 x26 x27 x28 x29 x30 x31 x32 x33 x34 x35 x36 x37 x38 x39 x40 x41 x42 x43 x44 x45 x46 : Value} {V w : World} {bx b5 : Nat} {r s t : Rw} (K5 : Hid (Blk w b5 #[.int .i64 0, .int .i64 0, .int .i64 0, .int .i64 0, .int .i64 0, .int .i64 0] 60)) (G5 : Hid (V.heap.size ≤ b5)) (hS : Below V.heap.size V w)
    (H : Hid (∀ (b4 b5 b6 : Nat) (W : World), Blk W b4 (cells6 r) 60 → Blk W b5 (cells6 s) 60 → Blk W b6 (cells6 t) 60 → V.heap.size ≤ b4 → V.heap.size ≤ b5 → V.heap.size ≤ b6 → Below V.heap.size V W → Q .normal ⟨List.toArray (x0 :: (.pointer (some ⟨bx, 0, none⟩) : Value) :: x2 :: x3 :: (.pointer (some ⟨b4, 0, none⟩) : Value) :: (.pointer (some ⟨b5, 0, none⟩) : Value) :: (.pointer (some ⟨b6, 0, none⟩) : Value) :: x7 :: x8 :: x9 :: x10 :: (.pointer (some ⟨bx, 0, none⟩) : Value) :: (.agg (cells6 r) : Value) :: (.agg (cells6 r) : Value) :: (.pointer (some ⟨bx, 6, none⟩) : Value) :: (.agg (cells6 s) : Value) :: (.agg (cells6 s) : Value) :: (.pointer (some ⟨bx, 12, none⟩) : Value) :: (.agg (cells6 t) : Value) :: (.agg (cells6 t) : Value) :: x20 :: x21 :: x22 :: x23 :: x24 :: x25 :: x26 :: x27 :: x28 :: x29 :: x30 :: x31 :: x32 :: x33 :: x34 :: x35 :: x36 :: x37 :: x38 :: x39 :: x40 :: x41 :: x42 :: x43 :: x44 :: x45 :: x46 :: []), []⟩ W)) :
    wpAnyH Try.prog .any (opsOf ((Try.f14.body.bind (regionAt 1)).getD .skip)) (NoPanic Q) (fun W => Below V.heap.size V W) 7 (List.toArray (true :: true :: true :: true :: true :: false :: true :: true :: false :: false :: true :: false :: false :: false :: false :: [])) ⟨List.toArray (x0 :: (.pointer (some ⟨bx, 0, none⟩) : Value) :: x2 :: x3 :: x4 :: (.pointer (some ⟨b5, 0, none⟩) : Value) :: x6 :: x7 :: x8 :: x9 :: x10 :: (.pointer (some ⟨bx, 0, none⟩) : Value) :: (.agg (cells6 r) : Value) :: (.agg (cells6 r) : Value) :: (.pointer (some ⟨bx, 6, none⟩) : Value) :: (.agg (cells6 s) : Value) :: x16 :: (.pointer (some ⟨bx, 12, none⟩) : Value) :: (.agg (cells6 t) : Value) :: x19 :: x20 :: x21 :: x22 :: x23 :: x24 :: x25 :: x26 :: x27 :: x28 :: x29 :: x30 :: x31 :: x32 :: x33 :: x34 :: x35 :: x36 :: x37 :: x38 :: x39 :: x40 :: x41 :: x42 :: x43 :: x44 :: x45 :: x46 :: []), []⟩ w := by
  conv => arg 3; whnf
  refine wpAnyH_all (rs := [5, 9, 11]) (by kernel_rfl) (by simp) (AllReadyH.cons (i := 5) rfl (fun KK hK => ?_) (AllReadyH.cons (i := 9) rfl (fun KK hK => ?_) (AllReadyH.cons (i := 11) rfl (fun KK hK => ?_) AllReadyH.nil)))
  · rw [if_pos (by kernel_rfl)]
    have hS1 := hide hS
    clear hS
    go_wp2_with fail
    refine (num_any s _).mono ?_
    rintro e w' ⟨rfl, hb⟩
    replace K5 := hide ((show Blk _ _ _ _ from unhide K5).keep hb)
    have hS2 := hide (below_via (unhide hS1) hb)
    clear hb hS1
    go_wp2_with fail
    refine hK.out _ _ (unhide hS2) (fun hS => ?_)
    clear hK hS2
    try simp only [Act.put, List.setIfInBounds_toArray, List.set_cons_zero, List.set_cons_succ]
    exact n2_5 K5 G5 hS H
  · rw [if_pos (by kernel_rfl)]
    have K4 := hide (Blk.new w #[.int .i64 0, .int .i64 0, .int .i64 0, .int .i64 0, .int .i64 0, .int .i64 0] 60)
    have G4 := hide hS.size
    have N45 := hide (show w.heap.size ≠ b5 by have := (show Blk _ _ _ _ from unhide K5).lt; omega)
    replace K5 := hide ((show Blk _ _ _ _ from unhide K5).keep (below1 w (.cells #[.int .i64 0, .int .i64 0, .int .i64 0, .int .i64 0, .int .i64 0, .int .i64 0] 60)))
    have hS2 := hide (below_via hS (below1 w (.cells #[.int .i64 0, .int .i64 0, .int .i64 0, .int .i64 0, .int .i64 0, .int .i64 0] 60)))
    clear hS
    go_wp2_with fail
    refine hK.out _ _ (unhide hS2) (fun hS => ?_)
    clear hK hS2
    try simp only [Act.put, List.setIfInBounds_toArray, List.set_cons_zero, List.set_cons_succ]
    exact n1_45 K4 G4 K5 G5 N45 hS H
  · rw [if_pos (by kernel_rfl)]
    have K6 := hide (Blk.new w #[.int .i64 0, .int .i64 0, .int .i64 0, .int .i64 0, .int .i64 0, .int .i64 0] 60)
    have G6 := hide hS.size
    have N56 := hide (show b5 ≠ w.heap.size by have := (show Blk _ _ _ _ from unhide K5).lt; omega)
    replace K5 := hide ((show Blk _ _ _ _ from unhide K5).keep (below1 w (.cells #[.int .i64 0, .int .i64 0, .int .i64 0, .int .i64 0, .int .i64 0, .int .i64 0] 60)))
    have hS2 := hide (below_via hS (below1 w (.cells #[.int .i64 0, .int .i64 0, .int .i64 0, .int .i64 0, .int .i64 0, .int .i64 0] 60)))
    clear hS
    go_wp2_with fail
    refine hK.out _ _ (unhide hS2) (fun hS => ?_)
    clear hK hS2
    try simp only [Act.put, List.setIfInBounds_toArray, List.set_cons_zero, List.set_cons_succ]
    exact n1_56 K5 G5 K6 G6 N56 hS H
theorem n1_6 {Q : Exit → Act → World → Prop} {x0 x2 x3 x4 x5 x7 x8 x9 x10 x16 x19 x20 x21 x22 x23 x24 x25 x26 x27 x28 x29 x30 x31 x32 x33 x34 x35 x36 x37 x38 x39 x40 x41 x42 x43 x44 x45 x46 : Value} {V w : World} {bx b6 : Nat} {r s t : Rw} (K6 : Hid (Blk w b6 #[.int .i64 0, .int .i64 0, .int .i64 0, .int .i64 0, .int .i64 0, .int .i64 0] 60)) (G6 : Hid (V.heap.size ≤ b6)) (hS : Below V.heap.size V w)
    (H : Hid (∀ (b4 b5 b6 : Nat) (W : World), Blk W b4 (cells6 r) 60 → Blk W b5 (cells6 s) 60 → Blk W b6 (cells6 t) 60 → V.heap.size ≤ b4 → V.heap.size ≤ b5 → V.heap.size ≤ b6 → Below V.heap.size V W → Q .normal ⟨List.toArray (x0 :: (.pointer (some ⟨bx, 0, none⟩) : Value) :: x2 :: x3 :: (.pointer (some ⟨b4, 0, none⟩) : Value) :: (.pointer (some ⟨b5, 0, none⟩) : Value) :: (.pointer (some ⟨b6, 0, none⟩) : Value) :: x7 :: x8 :: x9 :: x10 :: (.pointer (some ⟨bx, 0, none⟩) : Value) :: (.agg (cells6 r) : Value) :: (.agg (cells6 r) : Value) :: (.pointer (some ⟨bx, 6, none⟩) : Value) :: (.agg (cells6 s) : Value) :: (.agg (cells6 s) : Value) :: (.pointer (some ⟨bx, 12, none⟩) : Value) :: (.agg (cells6 t) : Value) :: (.agg (cells6 t) : Value) :: x20 :: x21 :: x22 :: x23 :: x24 :: x25 :: x26 :: x27 :: x28 :: x29 :: x30 :: x31 :: x32 :: x33 :: x34 :: x35 :: x36 :: x37 :: x38 :: x39 :: x40 :: x41 :: x42 :: x43 :: x44 :: x45 :: x46 :: []), []⟩ W)) :
    wpAnyH Try.prog .any (opsOf ((Try.f14.body.bind (regionAt 1)).getD .skip)) (NoPanic Q) (fun W => Below V.heap.size V W) 7 (List.toArray (true :: true :: true :: true :: true :: false :: true :: true :: false :: false :: false :: true :: false :: false :: false :: [])) ⟨List.toArray (x0 :: (.pointer (some ⟨bx, 0, none⟩) : Value) :: x2 :: x3 :: x4 :: x5 :: (.pointer (some ⟨b6, 0, none⟩) : Value) :: x7 :: x8 :: x9 :: x10 :: (.pointer (some ⟨bx, 0, none⟩) : Value) :: (.agg (cells6 r) : Value) :: (.agg (cells6 r) : Value) :: (.pointer (some ⟨bx, 6, none⟩) : Value) :: (.agg (cells6 s) : Value) :: x16 :: (.pointer (some ⟨bx, 12, none⟩) : Value) :: (.agg (cells6 t) : Value) :: x19 :: x20 :: x21 :: x22 :: x23 :: x24 :: x25 :: x26 :: x27 :: x28 :: x29 :: x30 :: x31 :: x32 :: x33 :: x34 :: x35 :: x36 :: x37 :: x38 :: x39 :: x40 :: x41 :: x42 :: x43 :: x44 :: x45 :: x46 :: []), []⟩ w := by
  conv => arg 3; whnf
  refine wpAnyH_all (rs := [5, 9, 10]) (by kernel_rfl) (by simp) (AllReadyH.cons (i := 5) rfl (fun KK hK => ?_) (AllReadyH.cons (i := 9) rfl (fun KK hK => ?_) (AllReadyH.cons (i := 10) rfl (fun KK hK => ?_) AllReadyH.nil)))
  · rw [if_pos (by kernel_rfl)]
    have hS1 := hide hS
    clear hS
    go_wp2_with fail
    refine (num_any s _).mono ?_
    rintro e w' ⟨rfl, hb⟩
    replace K6 := hide ((show Blk _ _ _ _ from unhide K6).keep hb)
    have hS2 := hide (below_via (unhide hS1) hb)
    clear hb hS1
    go_wp2_with fail
    refine hK.out _ _ (unhide hS2) (fun hS => ?_)
    clear hK hS2
    try simp only [Act.put, List.setIfInBounds_toArray, List.set_cons_zero, List.set_cons_succ]
    exact n2_6 K6 G6 hS H
  · rw [if_pos (by kernel_rfl)]
    have K4 := hide (Blk.new w #[.int .i64 0, .int .i64 0, .int .i64 0, .int .i64 0, .int .i64 0, .int .i64 0] 60)
    have G4 := hide hS.size
    have N46 := hide (show w.heap.size ≠ b6 by have := (show Blk _ _ _ _ from unhide K6).lt; omega)
    replace K6 := hide ((show Blk _ _ _ _ from unhide K6).keep (below1 w (.cells #[.int .i64 0, .int .i64 0, .int .i64 0, .int .i64 0, .int .i64 0, .int .i64 0] 60)))
    have hS2 := hide (below_via hS (below1 w (.cells #[.int .i64 0, .int .i64 0, .int .i64 0, .int .i64 0, .int .i64 0, .int .i64 0] 60)))
    clear hS
    go_wp2_with fail
    refine hK.out _ _ (unhide hS2) (fun hS => ?_)
    clear hK hS2
    try simp only [Act.put, List.setIfInBounds_toArray, List.set_cons_zero, List.set_cons_succ]
    exact n1_46 K4 G4 K6 G6 N46 hS H
  · rw [if_pos (by kernel_rfl)]
    have K5 := hide (Blk.new w #[.int .i64 0, .int .i64 0, .int .i64 0, .int .i64 0, .int .i64 0, .int .i64 0] 60)
    have G5 := hide hS.size
    have N56 := hide (show w.heap.size ≠ b6 by have := (show Blk _ _ _ _ from unhide K6).lt; omega)
    replace K6 := hide ((show Blk _ _ _ _ from unhide K6).keep (below1 w (.cells #[.int .i64 0, .int .i64 0, .int .i64 0, .int .i64 0, .int .i64 0, .int .i64 0] 60)))
    have hS2 := hide (below_via hS (below1 w (.cells #[.int .i64 0, .int .i64 0, .int .i64 0, .int .i64 0, .int .i64 0, .int .i64 0] 60)))
    clear hS
    go_wp2_with fail
    refine hK.out _ _ (unhide hS2) (fun hS => ?_)
    clear hK hS2
    try simp only [Act.put, List.setIfInBounds_toArray, List.set_cons_zero, List.set_cons_succ]
    exact n1_56 K5 G5 K6 G6 N56 hS H
theorem n1_0 {Q : Exit → Act → World → Prop} {x0 x2 x3 x4 x5 x6 x7 x8 x9 x10 x16 x19 x20 x21 x22 x23 x24 x25 x26 x27 x28 x29 x30 x31 x32 x33 x34 x35 x36 x37 x38 x39 x40 x41 x42 x43 x44 x45 x46 : Value} {V w : World} {bx : Nat} {r s t : Rw} (hS : Below V.heap.size V w)
    (H : Hid (∀ (b4 b5 b6 : Nat) (W : World), Blk W b4 (cells6 r) 60 → Blk W b5 (cells6 s) 60 → Blk W b6 (cells6 t) 60 → V.heap.size ≤ b4 → V.heap.size ≤ b5 → V.heap.size ≤ b6 → Below V.heap.size V W → Q .normal ⟨List.toArray (x0 :: (.pointer (some ⟨bx, 0, none⟩) : Value) :: x2 :: x3 :: (.pointer (some ⟨b4, 0, none⟩) : Value) :: (.pointer (some ⟨b5, 0, none⟩) : Value) :: (.pointer (some ⟨b6, 0, none⟩) : Value) :: x7 :: x8 :: x9 :: x10 :: (.pointer (some ⟨bx, 0, none⟩) : Value) :: (.agg (cells6 r) : Value) :: (.agg (cells6 r) : Value) :: (.pointer (some ⟨bx, 6, none⟩) : Value) :: (.agg (cells6 s) : Value) :: (.agg (cells6 s) : Value) :: (.pointer (some ⟨bx, 12, none⟩) : Value) :: (.agg (cells6 t) : Value) :: (.agg (cells6 t) : Value) :: x20 :: x21 :: x22 :: x23 :: x24 :: x25 :: x26 :: x27 :: x28 :: x29 :: x30 :: x31 :: x32 :: x33 :: x34 :: x35 :: x36 :: x37 :: x38 :: x39 :: x40 :: x41 :: x42 :: x43 :: x44 :: x45 :: x46 :: []), []⟩ W)) :
    wpAnyH Try.prog .any (opsOf ((Try.f14.body.bind (regionAt 1)).getD .skip)) (NoPanic Q) (fun W => Below V.heap.size V W) 8 (List.toArray (true :: true :: true :: true :: true :: false :: true :: true :: false :: false :: false :: false :: false :: false :: false :: [])) ⟨List.toArray (x0 :: (.pointer (some ⟨bx, 0, none⟩) : Value) :: x2 :: x3 :: x4 :: x5 :: x6 :: x7 :: x8 :: x9 :: x10 :: (.pointer (some ⟨bx, 0, none⟩) : Value) :: (.agg (cells6 r) : Value) :: (.agg (cells6 r) : Value) :: (.pointer (some ⟨bx, 6, none⟩) : Value) :: (.agg (cells6 s) : Value) :: x16 :: (.pointer (some ⟨bx, 12, none⟩) : Value) :: (.agg (cells6 t) : Value) :: x19 :: x20 :: x21 :: x22 :: x23 :: x24 :: x25 :: x26 :: x27 :: x28 :: x29 :: x30 :: x31 :: x32 :: x33 :: x34 :: x35 :: x36 :: x37 :: x38 :: x39 :: x40 :: x41 :: x42 :: x43 :: x44 :: x45 :: x46 :: []), []⟩ w := by
  conv => arg 3; whnf
  refine wpAnyH_all (rs := [5, 9, 10, 11]) (by kernel_rfl) (by simp) (AllReadyH.cons (i := 5) rfl (fun KK hK => ?_) (AllReadyH.cons (i := 9) rfl (fun KK hK => ?_) (AllReadyH.cons (i := 10) rfl (fun KK hK => ?_) (AllReadyH.cons (i := 11) rfl (fun KK hK => ?_) AllReadyH.nil))))
  · rw [if_pos (by kernel_rfl)]
    have hS1 := hide hS
    clear hS
    go_wp2_with fail
    refine (num_any s _).mono ?_
    rintro e w' ⟨rfl, hb⟩
    have hS2 := hide (below_via (unhide hS1) hb)
    clear hb hS1
    go_wp2_with fail
    refine hK.out _ _ (unhide hS2) (fun hS => ?_)
    clear hK hS2
    try simp only [Act.put, List.setIfInBounds_toArray, List.set_cons_zero, List.set_cons_succ]
    exact n2_0 hS H
  · rw [if_pos (by kernel_rfl)]
    have K4 := hide (Blk.new w #[.int .i64 0, .int .i64 0, .int .i64 0, .int .i64 0, .int .i64 0, .int .i64 0] 60)
    have G4 := hide hS.size
    have hS2 := hide (below_via hS (below1 w (.cells #[.int .i64 0, .int .i64 0, .int .i64 0, .int .i64 0, .int .i64 0, .int .i64 0] 60)))
    clear hS
    go_wp2_with fail
    refine hK.out _ _ (unhide hS2) (fun hS => ?_)
    clear hK hS2
    try simp only [Act.put, List.setIfInBounds_toArray, List.set_cons_zero, List.set_cons_succ]
    exact n1_4 K4 G4 hS H
  · rw [if_pos (by kernel_rfl)]
    have K5 := hide (Blk.new w #[.int .i64 0, .int .i64 0, .int .i64 0, .int .i64 0, .int .i64 0, .int .i64 0] 60)
    have G5 := hide hS.size
    have hS2 := hide (below_via hS (below1 w (.cells #[.int .i64 0, .int .i64 0, .int .i64 0, .int .i64 0, .int .i64 0, .int .i64 0] 60)))
    clear hS
    go_wp2_with fail
    refine hK.out _ _ (unhide hS2) (fun hS => ?_)
    clear hK hS2
    try simp only [Act.put, List.setIfInBounds_toArray, List.set_cons_zero, List.set_cons_succ]
    exact n1_5 K5 G5 hS H
  · rw [if_pos (by kernel_rfl)]
    have K6 := hide (Blk.new w #[.int .i64 0, .int .i64 0, .int .i64 0, .int .i64 0, .int .i64 0, .int .i64 0] 60)
    have G6 := hide hS.size
    have hS2 := hide (below_via hS (below1 w (.cells #[.int .i64 0, .int .i64 0, .int .i64 0, .int .i64 0, .int .i64 0, .int .i64 0] 60)))
    clear hS
    go_wp2_with fail
    refine hK.out _ _ (unhide hS2) (fun hS => ?_)
    clear hK hS2
    try simp only [Act.put, List.setIfInBounds_toArray, List.set_cons_zero, List.set_cons_succ]
    exact n1_6 K6 G6 hS H
theorem n0_456 {Q : Exit → Act → World → Prop} {x0 x2 x3 x7 x8 x9 x10 x13 x16 x19 x20 x21 x22 x23 x24 x25 x26 x27 x28 x29 x30 x31 x32 x33 x34 x35 x36 x37 x38 x39 x40 x41 x42 x43 x44 x45 x46 : Value} {V w : World} {bx b4 b5 b6 : Nat} {r s t : Rw} (K4 : Hid (Blk w b4 #[.int .i64 0, .int .i64 0, .int .i64 0, .int .i64 0, .int .i64 0, .int .i64 0] 60)) (G4 : Hid (V.heap.size ≤ b4)) (K5 : Hid (Blk w b5 #[.int .i64 0, .int .i64 0, .int .i64 0, .int .i64 0, .int .i64 0, .int .i64 0] 60)) (G5 : Hid (V.heap.size ≤ b5)) (K6 : Hid (Blk w b6 #[.int .i64 0, .int .i64 0, .int .i64 0, .int .i64 0, .int .i64 0, .int .i64 0] 60)) (G6 : Hid (V.heap.size ≤ b6)) (N45 : Hid (b4 ≠ b5)) (N46 : Hid (b4 ≠ b6)) (N56 : Hid (b5 ≠ b6)) (hS : Below V.heap.size V w)
    (H : Hid (∀ (b4 b5 b6 : Nat) (W : World), Blk W b4 (cells6 r) 60 → Blk W b5 (cells6 s) 60 → Blk W b6 (cells6 t) 60 → V.heap.size ≤ b4 → V.heap.size ≤ b5 → V.heap.size ≤ b6 → Below V.heap.size V W → Q .normal ⟨List.toArray (x0 :: (.pointer (some ⟨bx, 0, none⟩) : Value) :: x2 :: x3 :: (.pointer (some ⟨b4, 0, none⟩) : Value) :: (.pointer (some ⟨b5, 0, none⟩) : Value) :: (.pointer (some ⟨b6, 0, none⟩) : Value) :: x7 :: x8 :: x9 :: x10 :: (.pointer (some ⟨bx, 0, none⟩) : Value) :: (.agg (cells6 r) : Value) :: (.agg (cells6 r) : Value) :: (.pointer (some ⟨bx, 6, none⟩) : Value) :: (.agg (cells6 s) : Value) :: (.agg (cells6 s) : Value) :: (.pointer (some ⟨bx, 12, none⟩) : Value) :: (.agg (cells6 t) : Value) :: (.agg (cells6 t) : Value) :: x20 :: x21 :: x22 :: x23 :: x24 :: x25 :: x26 :: x27 :: x28 :: x29 :: x30 :: x31 :: x32 :: x33 :: x34 :: x35 :: x36 :: x37 :: x38 :: x39 :: x40 :: x41 :: x42 :: x43 :: x44 :: x45 :: x46 :: []), []⟩ W)) :
    wpAnyH Try.prog .any (opsOf ((Try.f14.body.bind (regionAt 1)).getD .skip)) (NoPanic Q) (fun W => Below V.heap.size V W) 6 (List.toArray (true :: true :: false :: true :: true :: false :: true :: true :: false :: true :: true :: true :: false :: false :: false :: [])) ⟨List.toArray (x0 :: (.pointer (some ⟨bx, 0, none⟩) : Value) :: x2 :: x3 :: (.pointer (some ⟨b4, 0, none⟩) : Value) :: (.pointer (some ⟨b5, 0, none⟩) : Value) :: (.pointer (some ⟨b6, 0, none⟩) : Value) :: x7 :: x8 :: x9 :: x10 :: (.pointer (some ⟨bx, 0, none⟩) : Value) :: (.agg (cells6 r) : Value) :: x13 :: (.pointer (some ⟨bx, 6, none⟩) : Value) :: (.agg (cells6 s) : Value) :: x16 :: (.pointer (some ⟨bx, 12, none⟩) : Value) :: (.agg (cells6 t) : Value) :: x19 :: x20 :: x21 :: x22 :: x23 :: x24 :: x25 :: x26 :: x27 :: x28 :: x29 :: x30 :: x31 :: x32 :: x33 :: x34 :: x35 :: x36 :: x37 :: x38 :: x39 :: x40 :: x41 :: x42 :: x43 :: x44 :: x45 :: x46 :: []), []⟩ w := by
  conv => arg 3; whnf
  refine wpAnyH_all (rs := [2]) (by kernel_rfl) (by simp) (AllReadyH.cons (i := 2) rfl (fun KK hK => ?_) AllReadyH.nil)
  rw [if_pos (by kernel_rfl)]
  have hS1 := hide hS
  clear hS
  go_wp2_with fail
  refine (num_any r _).mono ?_
  rintro e w' ⟨rfl, hb⟩
  replace K4 := hide ((show Blk _ _ _ _ from unhide K4).keep hb)
  replace K5 := hide ((show Blk _ _ _ _ from unhide K5).keep hb)
  replace K6 := hide ((show Blk _ _ _ _ from unhide K6).keep hb)
  have hS2 := hide (below_via (unhide hS1) hb)
  clear hb hS1
  go_wp2_with fail
  refine hK.out _ _ (unhide hS2) (fun hS => ?_)
  clear hK hS2
  try simp only [Act.put, List.setIfInBounds_toArray, List.set_cons_zero, List.set_cons_succ]
  exact n1_456 K4 G4 K5 G5 K6 G6 N45 N46 N56 hS H
theorem n0_45 {Q : Exit → Act → World → Prop} {x0 x2 x3 x6 x7 x8 x9 x10 x13 x16 x19 x20 x21 x22 x23 x24 x25 x26 x27 x28 x29 x30 x31 x32 x33 x34 x35 x36 x37 x38 x39 x40 x41 x42 x43 x44 x45 x46 : Value} {V w : World} {bx b4 b5 : Nat} {r s t : Rw} (K4 : Hid (Blk w b4 #[.int .i64 0, .int .i64 0, .int .i64 0, .int .i64 0, .int .i64 0, .int .i64 0] 60)) (G4 : Hid (V.heap.size ≤ b4)) (K5 : Hid (Blk w b5 #[.int .i64 0, .int .i64 0, .int .i64 0, .int .i64 0, .int .i64 0, .int .i64 0] 60)) (G5 : Hid (V.heap.size ≤ b5)) (N45 : Hid (b4 ≠ b5)) (hS : Below V.heap.size V w)
    (H : Hid (∀ (b4 b5 b6 : Nat) (W : World), Blk W b4 (cells6 r) 60 → Blk W b5 (cells6 s) 60 → Blk W b6 (cells6 t) 60 → V.heap.size ≤ b4 → V.heap.size ≤ b5 → V.heap.size ≤ b6 → Below V.heap.size V W → Q .normal ⟨List.toArray (x0 :: (.pointer (some ⟨bx, 0, none⟩) : Value) :: x2 :: x3 :: (.pointer (some ⟨b4, 0, none⟩) : Value) :: (.pointer (some ⟨b5, 0, none⟩) : Value) :: (.pointer (some ⟨b6, 0, none⟩) : Value) :: x7 :: x8 :: x9 :: x10 :: (.pointer (some ⟨bx, 0, none⟩) : Value) :: (.agg (cells6 r) : Value) :: (.agg (cells6 r) : Value) :: (.pointer (some ⟨bx, 6, none⟩) : Value) :: (.agg (cells6 s) : Value) :: (.agg (cells6 s) : Value) :: (.pointer (some ⟨bx, 12, none⟩) : Value) :: (.agg (cells6 t) : Value) :: (.agg (cells6 t) : Value) :: x20 :: x21 :: x22 :: x23 :: x24 :: x25 :: x26 :: x27 :: x28 :: x29 :: x30 :: x31 :: x32 :: x33 :: x34 :: x35 :: x36 :: x37 :: x38 :: x39 :: x40 :: x41 :: x42 :: x43 :: x44 :: x45 :: x46 :: []), []⟩ W)) :
    wpAnyH Try.prog .any (opsOf ((Try.f14.body.bind (regionAt 1)).getD .skip)) (NoPanic Q) (fun W => Below V.heap.size V W) 7 (List.toArray (true :: true :: false :: true :: true :: false :: true :: true :: false :: true :: true :: false :: false :: false :: false :: [])) ⟨List.toArray (x0 :: (.pointer (some ⟨bx, 0, none⟩) : Value) :: x2 :: x3 :: (.pointer (some ⟨b4, 0, none⟩) : Value) :: (.pointer (some ⟨b5, 0, none⟩) : Value) :: x6 :: x7 :: x8 :: x9 :: x10 :: (.pointer (some ⟨bx, 0, none⟩) : Value) :: (.agg (cells6 r) : Value) :: x13 :: (.pointer (some ⟨bx, 6, none⟩) : Value) :: (.agg (cells6 s) : Value) :: x16 :: (.pointer (some ⟨bx, 12, none⟩) : Value) :: (.agg (cells6 t) : Value) :: x19 :: x20 :: x21 :: x22 :: x23 :: x24 :: x25 :: x26 :: x27 :: x28 :: x29 :: x30 :: x31 :: x32 :: x33 :: x34 :: x35 :: x36 :: x37 :: x38 :: x39 :: x40 :: x41 :: x42 :: x43 :: x44 :: x45 :: x46 :: []), []⟩ w := by
  conv => arg 3; whnf
  refine wpAnyH_all (rs := [2, 11]) (by kernel_rfl) (by simp) (AllReadyH.cons (i := 2) rfl (fun KK hK => ?_) (AllReadyH.cons (i := 11) rfl (fun KK hK => ?_) AllReadyH.nil))
  · rw [if_pos (by kernel_rfl)]
    have hS1 := hide hS
    clear hS
    go_wp2_with fail
    refine (num_any r _).mono ?_
    rintro e w' ⟨rfl, hb⟩
    replace K4 := hide ((show Blk _ _ _ _ from unhide K4).keep hb)
    replace K5 := hide ((show Blk _ _ _ _ from unhide K5).keep hb)
    have hS2 := hide (below_via (unhide hS1) hb)
    clear hb hS1
    go_wp2_with fail
    refine hK.out _ _ (unhide hS2) (fun hS => ?_)
    clear hK hS2
    try simp only [Act.put, List.setIfInBounds_toArray, List.set_cons_zero, List.set_cons_succ]
    exact n1_45 K4 G4 K5 G5 N45 hS H
  · rw [if_pos (by kernel_rfl)]
    have K6 := hide (Blk.new w #[.int .i64 0, .int .i64 0, .int .i64 0, .int .i64 0, .int .i64 0, .int .i64 0] 60)
    have G6 := hide hS.size
    have N46 := hide (show b4 ≠ w.heap.size by have := (show Blk _ _ _ _ from unhide K4).lt; omega)
    have N56 := hide (show b5 ≠ w.heap.size by have := (show Blk _ _ _ _ from unhide K5).lt; omega)
    replace K4 := hide ((show Blk _ _ _ _ from unhide K4).keep (below1 w (.cells #[.int .i64 0, .int .i64 0, .int .i64 0, .int .i64 0, .int .i64 0, .int .i64 0] 60)))
    replace K5 := hide ((show Blk _ _ _ _ from unhide K5).keep (below1 w (.cells #[.int .i64 0, .int .i64 0, .int .i64 0, .int .i64 0, .int .i64 0, .int .i64 0] 60)))
    have hS2 := hide (below_via hS (below1 w (.cells #[.int .i64 0, .int .i64 0, .int .i64 0, .int .i64 0, .int .i64 0, .int .i64 0] 60)))
    clear hS
    go_wp2_with fail
    refine hK.out _ _ (unhide hS2) (fun hS => ?_)
    clear hK hS2
    try simp only [Act.put, List.setIfInBounds_toArray, List.set_cons_zero, List.set_cons_succ]
    exact n0_456 K4 G4 K5 G5 K6 G6 N45 N46 N56 hS H
theorem n0_46 {Q : Exit → Act → World → Prop} {x0 x2 x3 x5 x7 x8 x9 x10 x13 x16 x19 x20 x21 x22 x23 x24 x25 x26 x27 x28 x29 x30 x31 x32 x33 x34 x35 x36 x37 x38 x39 x40 x41 x42 x43 x44 x45 x46 : Value} {V w : World} {bx b4 b6 : Nat} {r s t : Rw} (K4 : Hid (Blk w b4 #[.int .i64 0, .int .i64 0, .int .i64 0, .int .i64 0, .int .i64 0, .int .i64 0] 60)) (G4 : Hid (V.heap.size ≤ b4)) (K6 : Hid (Blk w b6 #[.int .i64 0, .int .i64 0, .int .i64 0, .int .i64 0, .int .i64 0, .int .i64 0] 60)) (G6 : Hid (V.heap.size ≤ b6)) (N46 : Hid (b4 ≠ b6)) (hS : Below V.heap.size V w)
    (H : Hid (∀ (b4 b5 b6 : Nat) (W : World), Blk W b4 (cells6 r) 60 → Blk W b5 (cells6 s) 60 → Blk W b6 (cells6 t) 60 → V.heap.size ≤ b4 → V.heap.size ≤ b5 → V.heap.size ≤ b6 → Below V.heap.size V W → Q .normal ⟨List.toArray (x0 :: (.pointer (some ⟨bx, 0, none⟩) : Value) :: x2 :: x3 :: (.pointer (some ⟨b4, 0, none⟩) : Value) :: (.pointer (some ⟨b5, 0, none⟩) : Value) :: (.pointer (some ⟨b6, 0, none⟩) : Value) :: x7 :: x8 :: x9 :: x10 :: (.pointer (some ⟨bx, 0, none⟩) : Value) :: (.agg (cells6 r) : Value) :: (.agg (cells6 r) : Value) :: (.pointer (some ⟨bx, 6, none⟩) : Value) :: (.agg (cells6 s) : Value) :: (.agg (cells6 s) : Value) :: (.pointer (some ⟨bx, 12, none⟩) : Value) :: (.agg (cells6 t) : Value) :: (.agg (cells6 t) : Value) :: x20 :: x21 :: x22 :: x23 :: x24 :: x25 :: x26 :: x27 :: x28 :: x29 :: x30 :: x31 :: x32 :: x33 :: x34 :: x35 :: x36 :: x37 :: x38 :: x39 :: x40 :: x41 :: x42 :: x43 :: x44 :: x45 :: x46 :: []), []⟩ W)) :
    wpAnyH Try.prog .any (opsOf ((Try.f14.body.bind (regionAt 1)).getD .skip)) (NoPanic Q) (fun W => Below V.heap.size V W) 7 (List.toArray (true :: true :: false :: true :: true :: false :: true :: true :: false :: true :: false :: true :: false :: false :: false :: [])) ⟨List.toArray (x0 :: (.pointer (some ⟨bx, 0, none⟩) : Value) :: x2 :: x3 :: (.pointer (some ⟨b4, 0, none⟩) : Value) :: x5 :: (.pointer (some ⟨b6, 0, none⟩) : Value) :: x7 :: x8 :: x9 :: x10 :: (.pointer (some ⟨bx, 0, none⟩) : Value) :: (.agg (cells6 r) : Value) :: x13 :: (.pointer (some ⟨bx, 6, none⟩) : Value) :: (.agg (cells6 s) : Value) :: x16 :: (.pointer (some ⟨bx, 12, none⟩) : Value) :: (.agg (cells6 t) : Value) :: x19 :: x20 :: x21 :: x22 :: x23 :: x24 :: x25 :: x26 :: x27 :: x28 :: x29 :: x30 :: x31 :: x32 :: x33 :: x34 :: x35 :: x36 :: x37 :: x38 :: x39 :: x40 :: x41 :: x42 :: x43 :: x44 :: x45 :: x46 :: []), []⟩ w := by
  conv => arg 3; whnf
  refine wpAnyH_all (rs := [2, 10]) (by kernel_rfl) (by simp) (AllReadyH.cons (i := 2) rfl (fun KK hK => ?_) (AllReadyH.cons (i := 10) rfl (fun KK hK => ?_) AllReadyH.nil))
  · rw [if_pos (by kernel_rfl)]
    have hS1 := hide hS
    clear hS
    go_wp2_with fail
    refine (num_any r _).mono ?_
    rintro e w' ⟨rfl, hb⟩
    replace K4 := hide ((show Blk _ _ _ _ from unhide K4).keep hb)
    replace K6 := hide ((show Blk _ _ _ _ from unhide K6).keep hb)
    have hS2 := hide (below_via (unhide hS1) hb)
    clear hb hS1
    go_wp2_with fail
    refine hK.out _ _ (unhide hS2) (fun hS => ?_)
    clear hK hS2
    try simp only [Act.put, List.setIfInBounds_toArray, List.set_cons_zero, List.set_cons_succ]
    exact n1_46 K4 G4 K6 G6 N46 hS H
  · rw [if_pos (by kernel_rfl)]
    have K5 := hide (Blk.new w #[.int .i64 0, .int .i64 0, .int .i64 0, .int .i64 0, .int .i64 0, .int .i64 0] 60)
    have G5 := hide hS.size
    have N45 := hide (show b4 ≠ w.heap.size by have := (show Blk _ _ _ _ from unhide K4).lt; omega)
    have N56 := hide (show w.heap.size ≠ b6 by have := (show Blk _ _ _ _ from unhide K6).lt; omega)
    replace K4 := hide ((show Blk _ _ _ _ from unhide K4).keep (below1 w (.cells #[.int .i64 0, .int .i64 0, .int .i64 0, .int .i64 0, .int .i64 0, .int .i64 0] 60)))
    replace K6 := hide ((show Blk _ _ _ _ from unhide K6).keep (below1 w (.cells #[.int .i64 0, .int .i64 0, .int .i64 0, .int .i64 0, .int .i64 0, .int .i64 0] 60)))
    have hS2 := hide (below_via hS (below1 w (.cells #[.int .i64 0, .int .i64 0, .int .i64 0, .int .i64 0, .int .i64 0, .int .i64 0] 60)))
    clear hS
    go_wp2_with fail
    refine hK.out _ _ (unhide hS2) (fun hS => ?_)
    clear hK hS2
    try simp only [Act.put, List.setIfInBounds_toArray, List.set_cons_zero, List.set_cons_succ]
    exact n0_456 K4 G4 K5 G5 K6 G6 N45 N46 N56 hS H
theorem n0_56 {Q : Exit → Act → World → Prop} {x0 x2 x3 x4 x7 x8 x9 x10 x13 x16 x19 x20 x21 x22 x23 x24 x25 x26 x27 x28 x29 x30 x31 x32 x33 x34 x35 x36 x37 x38 x39 x40 x41 x42 x43 x44 x45 x46 : Value} {V w : World} {bx b5 b6 : Nat} {r s t : Rw} (K5 : Hid (Blk w b5 #[.int .i64 0, .int .i64 0, .int .i64 0, .int .i64 0, .int .i64 0, .int .i64 0] 60)) (G5 : Hid (V.heap.size ≤ b5)) (K6 : Hid (Blk w b6 #[.int .i64 0, .int .i64 0, .int .i64 0, .int .i64 0, .int .i64 0, .int .i64 0] 60)) (G6 : Hid (V.heap.size ≤ b6)) (N56 : Hid (b5 ≠ b6)) (hS : Below V.heap.size V w)
    (H : Hid (∀ (b4 b5 b6 : Nat) (W : World), Blk W b4 (cells6 r) 60 → Blk W b5 (cells6 s) 60 → Blk W b6 (cells6 t) 60 → V.heap.size ≤ b4 → V.heap.size ≤ b5 → V.heap.size ≤ b6 → Below V.heap.size V W → Q .normal ⟨List.toArray (x0 :: (.pointer (some ⟨bx, 0, none⟩) : Value) :: x2 :: x3 :: (.pointer (some ⟨b4, 0, none⟩) : Value) :: (.pointer (some ⟨b5, 0, none⟩) : Value) :: (.pointer (some ⟨b6, 0, none⟩) : Value) :: x7 :: x8 :: x9 :: x10 :: (.pointer (some ⟨bx, 0, none⟩) : Value) :: (.agg (cells6 r) : Value) :: (.agg (cells6 r) : Value) :: (.pointer (some ⟨bx, 6, none⟩) : Value) :: (.agg (cells6 s) : Value) :: (.agg (cells6 s) : Value) :: (.pointer (some ⟨bx, 12, none⟩) : Value) :: (.agg (cells6 t) : Value) :: (.agg (cells6 t) : Value) :: x20 :: x21 :: x22 :: x23 :: x24 :: x25 :: x26 :: x27 :: x28 :: x29 :: x30 :: x31 :: x32 :: x33 :: x34 :: x35 :: x36 :: x37 :: x38 :: x39 :: x40 :: x41 :: x42 :: x43 :: x44 :: x45 :: x46 :: []), []⟩ W)) :
    wpAnyH Try.prog .any (opsOf ((Try.f14.body.bind (regionAt 1)).getD .skip)) (NoPanic Q) (fun W => Below V.heap.size V W) 7 (List.toArray (true :: true :: false :: true :: true :: false :: true :: true :: false :: false :: true :: true :: false :: false :: false :: [])) ⟨List.toArray (x0 :: (.pointer (some ⟨bx, 0, none⟩) : Value) :: x2 :: x3 :: x4 :: (.pointer (some ⟨b5, 0, none⟩) : Value) :: (.pointer (some ⟨b6, 0, none⟩) : Value) :: x7 :: x8 :: x9 :: x10 :: (.pointer (some ⟨bx, 0, none⟩) : Value) :: (.agg (cells6 r) : Value) :: x13 :: (.pointer (some ⟨bx, 6, none⟩) : Value) :: (.agg (cells6 s) : Value) :: x16 :: (.pointer (some ⟨bx, 12, none⟩) : Value) :: (.agg (cells6 t) : Value) :: x19 :: x20 :: x21 :: x22 :: x23 :: x24 :: x25 :: x26 :: x27 :: x28 :: x29 :: x30 :: x31 :: x32 :: x33 :: x34 :: x35 :: x36 :: x37 :: x38 :: x39 :: x40 :: x41 :: x42 :: x43 :: x44 :: x45 :: x46 :: []), []⟩ w := by
  conv => arg 3; whnf
  refine wpAnyH_all (rs := [2, 9]) (by kernel_rfl) (by simp) (AllReadyH.cons (i := 2) rfl (fun KK hK => ?_) (AllReadyH.cons (i := 9) rfl (fun KK hK => ?_) AllReadyH.nil))
  · rw [if_pos (by kernel_rfl)]
    have hS1 := hide hS
    clear hS
    go_wp2_with fail
    refine (num_any r _).mono ?_
    rintro e w' ⟨rfl, hb⟩
    replace K5 := hide ((show Blk _ _ _ _ from unhide K5).keep hb)
    replace K6 := hide ((show Blk _ _ _ _ from unhide K6).keep hb)
    have hS2 := hide (below_via (unhide hS1) hb)
    clear hb hS1
    go_wp2_with fail
    refine hK.out _ _ (unhide hS2) (fun hS => ?_)
    clear hK hS2
    try simp only [Act.put, List.setIfInBounds_toArray, List.set_cons_zero, List.set_cons_succ]
    exact n1_56 K5 G5 K6 G6 N56 hS H
  · rw [if_pos (by kernel_rfl)]
    have K4 := hide (Blk.new w #[.int .i64 0, .int .i64 0, .int .i64 0, .int .i64 0, .int .i64 0, .int .i64 0] 60)
    have G4 := hide hS.size
    have N45 := hide (show w.heap.size ≠ b5 by have := (show Blk _ _ _ _ from unhide K5).lt; omega)
    have N46 := hide (show w.heap.size ≠ b6 by have := (show Blk _ _ _ _ from unhide K6).lt; omega)
    replace K5 := hide ((show Blk _ _ _ _ from unhide K5).keep (below1 w (.cells #[.int .i64 0, .int .i64 0, .int .i64 0, .int .i64 0, .int .i64 0, .int .i64 0] 60)))
    replace K6 := hide ((show Blk _ _ _ _ from unhide K6).keep (below1 w (.cells #[.int .i64 0, .int .i64 0, .int .i64 0, .int .i64 0, .int .i64 0, .int .i64 0] 60)))
    have hS2 := hide (below_via hS (below1 w (.cells #[.int .i64 0, .int .i64 0, .int .i64 0, .int .i64 0, .int .i64 0, .int .i64 0] 60)))
    clear hS
    go_wp2_with fail
    refine hK.out _ _ (unhide hS2) (fun hS => ?_)
    clear hK hS2
    try simp only [Act.put, List.setIfInBounds_toArray, List.set_cons_zero, List.set_cons_succ]
    exact n0_456 K4 G4 K5 G5 K6 G6 N45 N46 N56 hS H
theorem n0_4 {Q : Exit → Act → World → Prop} {x0 x2 x3 x5 x6 x7 x8 x9 x10 x13 x16 x19 x20 x21 x22 x23 x24 x25 x26 x27 x28 x29 x30 x31 x32 x33 x34 x35 x36 x37 x38 x39 x40 x41 x42 x43 x44 x45 x46 : Value} {V w : World} {bx b4 : Nat} {r s t : Rw} (K4 : Hid (Blk w b4 #[.int .i64 0, .int .i64 0, .int .i64 0, .int .i64 0, .int .i64 0, .int .i64 0] 60)) (G4 : Hid (V.heap.size ≤ b4)) (hS : Below V.heap.size V w)
    (H : Hid (∀ (b4 b5 b6 : Nat) (W : World), Blk W b4 (cells6 r) 60 → Blk W b5 (cells6 s) 60 → Blk W b6 (cells6 t) 60 → V.heap.size ≤ b4 → V.heap.size ≤ b5 → V.heap.size ≤ b6 → Below V.heap.size V W → Q .normal ⟨List.toArray (x0 :: (.pointer (some ⟨bx, 0, none⟩) : Value) :: x2 :: x3 :: (.pointer (some ⟨b4, 0, none⟩) : Value) :: (.pointer (some ⟨b5, 0, none⟩) : Value) :: (.pointer (some ⟨b6, 0, none⟩) : Value) :: x7 :: x8 :: x9 :: x10 :: (.pointer (some ⟨bx, 0, none⟩) : Value) :: (.agg (cells6 r) : Value) :: (.agg (cells6 r) : Value) :: (.pointer (some ⟨bx, 6, none⟩) : Value) :: (.agg (cells6 s) : Value) :: (.agg (cells6 s) : Value) :: (.pointer (some ⟨bx, 12, none⟩) : Value) :: (.agg (cells6 t) : Value) :: (.agg (cells6 t) : Value) :: x20 :: x21 :: x22 :: x23 :: x24 :: x25 :: x26 :: x27 :: x28 :: x29 :: x30 :: x31 :: x32 :: x33 :: x34 :: x35 :: x36 :: x37 :: x38 :: x39 :: x40 :: x41 :: x42 :: x43 :: x44 :: x45 :: x46 :: []), []⟩ W)) :
    wpAnyH Try.prog .any (opsOf ((Try.f14.body.bind (regionAt 1)).getD .skip)) (NoPanic Q) (fun W => Below V.heap.size V W) 8 (List.toArray (true :: true :: false :: true :: true :: false :: true :: true :: false :: true :: false :: false :: false :: false :: false :: [])) ⟨List.toArray (x0 :: (.pointer (some ⟨bx, 0, none⟩) : Value) :: x2 :: x3 :: (.pointer (some ⟨b4, 0, none⟩) : Value) :: x5 :: x6 :: x7 :: x8 :: x9 :: x10 :: (.pointer (some ⟨bx, 0, none⟩) : Value) :: (.agg (cells6 r) : Value) :: x13 :: (.pointer (some ⟨bx, 6, none⟩) : Value) :: (.agg (cells6 s) : Value) :: x16 :: (.pointer (some ⟨bx, 12, none⟩) : Value) :: (.agg (cells6 t) : Value) :: x19 :: x20 :: x21 :: x22 :: x23 :: x24 :: x25 :: x26 :: x27 :: x28 :: x29 :: x30 :: x31 :: x32 :: x33 :: x34 :: x35 :: x36 :: x37 :: x38 :: x39 :: x40 :: x41 :: x42 :: x43 :: x44 :: x45 :: x46 :: []), []⟩ w := by
  conv => arg 3; whnf
  refine wpAnyH_all (rs := [2, 10, 11]) (by kernel_rfl) (by simp) (AllReadyH.cons (i := 2) rfl (fun KK hK => ?_) (AllReadyH.cons (i := 10) rfl (fun KK hK => ?_) (AllReadyH.cons (i := 11) rfl (fun KK hK => ?_) AllReadyH.nil)))
  · rw [if_pos (by kernel_rfl)]
    have hS1 := hide hS
    clear hS
    go_wp2_with fail
    refine (num_any r _).mono ?_
    rintro e w' ⟨rfl, hb⟩
    replace K4 := hide ((show Blk _ _ _ _ from unhide K4).keep hb)
    have hS2 := hide (below_via (unhide hS1) hb)
    clear hb hS1
    go_wp2_with fail
    refine hK.out _ _ (unhide hS2) (fun hS => ?_)
    clear hK hS2
    try simp only [Act.put, List.setIfInBounds_toArray, List.set_cons_zero, List.set_cons_succ]
    exact n1_4 K4 G4 hS H
  · rw [if_pos (by kernel_rfl)]
    have K5 := hide (Blk.new w #[.int .i64 0, .int .i64 0, .int .i64 0, .int .i64 0, .int .i64 0, .int .i64 0] 60)
    have G5 := hide hS.size
    have N45 := hide (show b4 ≠ w.heap.size by have := (show Blk _ _ _ _ from unhide K4).lt; omega)
    replace K4 := hide ((show Blk _ _ _ _ from unhide K4).keep (below1 w (.cells #[.int .i64 0, .int .i64 0, .int .i64 0, .int .i64 0, .int .i64 0, .int .i64 0] 60)))
    have hS2 := hide (below_via hS (below1 w (.cells #[.int .i64 0, .int .i64 0, .int .i64 0, .int .i64 0, .int .i64 0, .int .i64 0] 60)))
    clear hS
    go_wp2_with fail
    refine hK.out _ _ (unhide hS2) (fun hS => ?_)
    clear hK hS2
    try simp only [Act.put, List.setIfInBounds_toArray, List.set_cons_zero, List.set_cons_succ]
    exact n0_45 K4 G4 K5 G5 N45 hS H
  · rw [if_pos (by kernel_rfl)]
    have K6 := hide (Blk.new w #[.int .i64 0, .int .i64 0, .int .i64 0, .int .i64 0, .int .i64 0, .int .i64 0] 60)
    have G6 := hide hS.size
    have N46 := hide (show b4 ≠ w.heap.size by have := (show Blk _ _ _ _ from unhide K4).lt; omega)
    replace K4 := hide ((show Blk _ _ _ _ from unhide K4).keep (below1 w (.cells #[.int .i64 0, .int .i64 0, .int .i64 0, .int .i64 0, .int .i64 0, .int .i64 0] 60)))
    have hS2 := hide (below_via hS (below1 w (.cells #[.int .i64 0, .int .i64 0, .int .i64 0, .int .i64 0, .int .i64 0, .int .i64 0] 60)))
    clear hS
    go_wp2_with fail
    refine hK.out _ _ (unhide hS2) (fun hS => ?_)
    clear hK hS2
    try simp only [Act.put, List.setIfInBounds_toArray, List.set_cons_zero, List.set_cons_succ]
    exact n0_46 K4 G4 K6 G6 N46 hS H
theorem n0_5 {Q : Exit → Act → World → Prop} {x0 x2 x3 x4 x6 x7 x8 x9 x10 x13 x16 x19 x20 x21 x22 x23 x24 x25 x26 x27 x28 x29 x30 x31 x32 x33 x34 x35 x36 x37 x38 x39 x40 x41 x42 x43 x44 x45 x46 : Value} {V w : World} {bx b5 : Nat} {r s t : Rw} (K5 : Hid (Blk w b5 #[.int .i64 0, .int .i64 0, .int .i64 0, .int .i64 0, .int .i64 0, .int .i64 0] 60)) (G5 : Hid (V.heap.size ≤ b5)) (hS : Below V.heap.size V w)
    (H : Hid (∀ (b4 b5 b6 : Nat) (W : World), Blk W b4 (cells6 r) 60 → Blk W b5 (cells6 s) 60 → Blk W b6 (cells6 t) 60 → V.heap.size ≤ b4 → V.heap.size ≤ b5 → V.heap.size ≤ b6 → Below V.heap.size V W → Q .normal ⟨List.toArray (x0 :: (.pointer (some ⟨bx, 0, none⟩) : Value) :: x2 :: x3 :: (.pointer (some ⟨b4, 0, none⟩) : Value) :: (.pointer (some ⟨b5, 0, none⟩) : Value) :: (.pointer (some ⟨b6, 0, none⟩) : Value) :: x7 :: x8 :: x9 :: x10 :: (.pointer (some ⟨bx, 0, none⟩) : Value) :: (.agg (cells6 r) : Value) :: (.agg (cells6 r) : Value) :: (.pointer (some ⟨bx, 6, none⟩) : Value) :: (.agg (cells6 s) : Value) :: (.agg (cells6 s) : Value) :: (.pointer (some ⟨bx, 12, none⟩) : Value) :: (.agg (cells6 t) : Value) :: (.agg (cells6 t) : Value) :: x20 :: x21 :: x22 :: x23 :: x24 :: x25 :: x26 :: x27 :: x28 :: x29 :: x30 :: x31 :: x32 :: x33 :: x34 :: x35 :: x36 :: x37 :: x38 :: x39 :: x40 :: x41 :: x42 :: x43 :: x44 :: x45 :: x46 :: []), []⟩ W)) :
    wpAnyH Try.prog .any (opsOf ((Try.f14.body.bind (regionAt 1)).getD .skip)) (NoPanic Q) (fun W => Below V.heap.size V W) 8 (List.toArray (true :: true :: false :: true :: true :: false :: true :: true :: false :: false :: true :: false :: false :: false :: false :: [])) ⟨List.toArray (x0 :: (.pointer (some ⟨bx, 0, none⟩) : Value) :: x2 :: x3 :: x4 :: (.pointer (some ⟨b5, 0, none⟩) : Value) :: x6 :: x7 :: x8 :: x9 :: x10 :: (.pointer (some ⟨bx, 0, none⟩) : Value) :: (.agg (cells6 r) : Value) :: x13 :: (.pointer (some ⟨bx, 6, none⟩) : Value) :: (.agg (cells6 s) : Value) :: x16 :: (.pointer (some ⟨bx, 12, none⟩) : Value) :: (.agg (cells6 t) : Value) :: x19 :: x20 :: x21 :: x22 :: x23 :: x24 :: x25 :: x26 :: x27 :: x28 :: x29 :: x30 :: x31 :: x32 :: x33 :: x34 :: x35 :: x36 :: x37 :: x38 :: x39 :: x40 :: x41 :: x42 :: x43 :: x44 :: x45 :: x46 :: []), []⟩ w := by
  conv => arg 3; whnf
  refine wpAnyH_all (rs := [2, 9, 11]) (by kernel_rfl) (by simp) (AllReadyH.cons (i := 2) rfl (fun KK hK => ?_) (AllReadyH.cons (i := 9) rfl (fun KK hK => ?_) (AllReadyH.cons (i := 11) rfl (fun KK hK => ?_) AllReadyH.nil)))
  · rw [if_pos (by kernel_rfl)]
    have hS1 := hide hS
    clear hS
    go_wp2_with fail
    refine (num_any r _).mono ?_
    rintro e w' ⟨rfl, hb⟩
    replace K5 := hide ((show Blk _ _ _ _ from unhide K5).keep hb)
    have hS2 := hide (below_via (unhide hS1) hb)
    clear hb hS1
    go_wp2_with fail
    refine hK.out _ _ (unhide hS2) (fun hS => ?_)
    clear hK hS2
    try simp only [Act.put, List.setIfInBounds_toArray, List.set_cons_zero, List.set_cons_succ]
    exact n1_5 K5 G5 hS H
  · rw [if_pos (by kernel_rfl)]
    have K4 := hide (Blk.new w #[.int .i64 0, .int .i64 0, .int .i64 0, .int .i64 0, .int .i64 0, .int .i64 0] 60)
    have G4 := hide hS.size
    have N45 := hide (show w.heap.size ≠ b5 by have := (show Blk _ _ _ _ from unhide K5).lt; omega)
    replace K5 := hide ((show Blk _ _ _ _ from unhide K5).keep (below1 w (.cells #[.int .i64 0, .int .i64 0, .int .i64 0, .int .i64 0, .int .i64 0, .int .i64 0] 60)))
    have hS2 := hide (below_via hS (below1 w (.cells #[.int .i64 0, .int .i64 0, .int .i64 0, .int .i64 0, .int .i64 0, .int .i64 0] 60)))
    clear hS
    go_wp2_with fail
    refine hK.out _ _ (unhide hS2) (fun hS => ?_)
    clear hK hS2
    try simp only [Act.put, List.setIfInBounds_toArray, List.set_cons_zero, List.set_cons_succ]
    exact n0_45 K4 G4 K5 G5 N45 hS H
  · rw [if_pos (by kernel_rfl)]
    have K6 := hide (Blk.new w #[.int .i64 0, .int .i64 0, .int .i64 0, .int .i64 0, .int .i64 0, .int .i64 0] 60)
    have G6 := hide hS.size
    have N56 := hide (show b5 ≠ w.heap.size by have := (show Blk _ _ _ _ from unhide K5).lt; omega)
    replace K5 := hide ((show Blk _ _ _ _ from unhide K5).keep (below1 w (.cells #[.int .i64 0, .int .i64 0, .int .i64 0, .int .i64 0, .int .i64 0, .int .i64 0] 60)))
    have hS2 := hide (below_via hS (below1 w (.cells #[.int .i64 0, .int .i64 0, .int .i64 0, .int .i64 0, .int .i64 0, .int .i64 0] 60)))
    clear hS
    go_wp2_with fail
    refine hK.out _ _ (unhide hS2) (fun hS => ?_)
    clear hK hS2
    try simp only [Act.put, List.setIfInBounds_toArray, List.set_cons_zero, List.set_cons_succ]
    exact n0_56 K5 G5 K6 G6 N56 hS H
theorem n0_6 {Q : Exit → Act → World → Prop} {x0 x2 x3 x4 x5 x7 x8 x9 x10 x13 x16 x19 x20 x21 x22 x23 x24 x25 x26 x27 x28 x29 x30 x31 x32 x33 x34 x35 x36 x37 x38 x39 x40 x41 x42 x43 x44 x45 x46 : Value} {V w : World} {bx b6 : Nat} {r s t : Rw} (K6 : Hid (Blk w b6 #[.int .i64 0, .int .i64 0, .int .i64 0, .int .i64 0, .int .i64 0, .int .i64 0] 60)) (G6 : Hid (V.heap.size ≤ b6)) (hS : Below V.heap.size V w)
    (H : Hid (∀ (b4 b5 b6 : Nat) (W : World), Blk W b4 (cells6 r) 60 → Blk W b5 (cells6 s) 60 → Blk W b6 (cells6 t) 60 → V.heap.size ≤ b4 → V.heap.size ≤ b5 → V.heap.size ≤ b6 → Below V.heap.size V W → Q .normal ⟨List.toArray (x0 :: (.pointer (some ⟨bx, 0, none⟩) : Value) :: x2 :: x3 :: (.pointer (some ⟨b4, 0, none⟩) : Value) :: (.pointer (some ⟨b5, 0, none⟩) : Value) :: (.pointer (some ⟨b6, 0, none⟩) : Value) :: x7 :: x8 :: x9 :: x10 :: (.pointer (some ⟨bx, 0, none⟩) : Value) :: (.agg (cells6 r) : Value) :: (.agg (cells6 r) : Value) :: (.pointer (some ⟨bx, 6, none⟩) : Value) :: (.agg (cells6 s) : Value) :: (.agg (cells6 s) : Value) :: (.pointer (some ⟨bx, 12, none⟩) : Value) :: (.agg (cells6 t) : Value) :: (.agg (cells6 t) : Value) :: x20 :: x21 :: x22 :: x23 :: x24 :: x25 :: x26 :: x27 :: x28 :: x29 :: x30 :: x31 :: x32 :: x33 :: x34 :: x35 :: x36 :: x37 :: x38 :: x39 :: x40 :: x41 :: x42 :: x43 :: x44 :: x45 :: x46 :: []), []⟩ W)) :
    wpAnyH Try.prog .any (opsOf ((Try.f14.body.bind (regionAt 1)).getD .skip)) (NoPanic Q) (fun W => Below V.heap.size V W) 8 (List.toArray (true :: true :: false :: true :: true :: false :: true :: true :: false :: false :: false :: true :: false :: false :: false :: [])) ⟨List.toArray (x0 :: (.pointer (some ⟨bx, 0, none⟩) : Value) :: x2 :: x3 :: x4 :: x5 :: (.pointer (some ⟨b6, 0, none⟩) : Value) :: x7 :: x8 :: x9 :: x10 :: (.pointer (some ⟨bx, 0, none⟩) : Value) :: (.agg (cells6 r) : Value) :: x13 :: (.pointer (some ⟨bx, 6, none⟩) : Value) :: (.agg (cells6 s) : Value) :: x16 :: (.pointer (some ⟨bx, 12, none⟩) : Value) :: (.agg (cells6 t) : Value) :: x19 :: x20 :: x21 :: x22 :: x23 :: x24 :: x25 :: x26 :: x27 :: x28 :: x29 :: x30 :: x31 :: x32 :: x33 :: x34 :: x35 :: x36 :: x37 :: x38 :: x39 :: x40 :: x41 :: x42 :: x43 :: x44 :: x45 :: x46 :: []), []⟩ w := by
  conv => arg 3; whnf
  refine wpAnyH_all (rs := [2, 9, 10]) (by kernel_rfl) (by simp) (AllReadyH.cons (i := 2) rfl (fun KK hK => ?_) (AllReadyH.cons (i := 9) rfl (fun KK hK => ?_) (AllReadyH.cons (i := 10) rfl (fun KK hK => ?_) AllReadyH.nil)))
  · rw [if_pos (by kernel_rfl)]
    have hS1 := hide hS
    clear hS
    go_wp2_with fail
    refine (num_any r _).mono ?_
    rintro e w' ⟨rfl, hb⟩
    replace K6 := hide ((show Blk _ _ _ _ from unhide K6).keep hb)
    have hS2 := hide (below_via (unhide hS1) hb)
    clear hb hS1
    go_wp2_with fail
    refine hK.out _ _ (unhide hS2) (fun hS => ?_)
    clear hK hS2
    try simp only [Act.put, List.setIfInBounds_toArray, List.set_cons_zero, List.set_cons_succ]
    exact n1_6 K6 G6 hS H
  · rw [if_pos (by kernel_rfl)]
    have K4 := hide (Blk.new w #[.int .i64 0, .int .i64 0, .int .i64 0, .int .i64 0, .int .i64 0, .int .i64 0] 60)
    have G4 := hide hS.size
    have N46 := hide (show w.heap.size ≠ b6 by have := (show Blk _ _ _ _ from unhide K6).lt; omega)
    replace K6 := hide ((show Blk _ _ _ _ from unhide K6).keep (below1 w (.cells #[.int .i64 0, .int .i64 0, .int .i64 0, .int .i64 0, .int .i64 0, .int .i64 0] 60)))
    have hS2 := hide (below_via hS (below1 w (.cells #[.int .i64 0, .int .i64 0, .int .i64 0, .int .i64 0, .int .i64 0, .int .i64 0] 60)))
    clear hS
    go_wp2_with fail
    refine hK.out _ _ (unhide hS2) (fun hS => ?_)
    clear hK hS2
    try simp only [Act.put, List.setIfInBounds_toArray, List.set_cons_zero, List.set_cons_succ]
    exact n0_46 K4 G4 K6 G6 N46 hS H
  · rw [if_pos (by kernel_rfl)]
    have K5 := hide (Blk.new w #[.int .i64 0, .int .i64 0, .int .i64 0, .int .i64 0, .int .i64 0, .int .i64 0] 60)
    have G5 := hide hS.size
    have N56 := hide (show w.heap.size ≠ b6 by have := (show Blk _ _ _ _ from unhide K6).lt; omega)
    replace K6 := hide ((show Blk _ _ _ _ from unhide K6).keep (below1 w (.cells #[.int .i64 0, .int .i64 0, .int .i64 0, .int .i64 0, .int .i64 0, .int .i64 0] 60)))
    have hS2 := hide (below_via hS (below1 w (.cells #[.int .i64 0, .int .i64 0, .int .i64 0, .int .i64 0, .int .i64 0, .int .i64 0] 60)))
    clear hS
    go_wp2_with fail
    refine hK.out _ _ (unhide hS2) (fun hS => ?_)
    clear hK hS2
    try simp only [Act.put, List.setIfInBounds_toArray, List.set_cons_zero, List.set_cons_succ]
    exact n0_56 K5 G5 K6 G6 N56 hS H
theorem n0_0 {Q : Exit → Act → World → Prop} {x0 x2 x3 x4 x5 x6 x7 x8 x9 x10 x13 x16 x19 x20 x21 x22 x23 x24 x25 x26 x27 x28 x29 x30 x31 x32 x33 x34 x35 x36 x37 x38 x39 x40 x41 x42 x43 x44 x45 x46 : Value} {V w : World} {bx : Nat} {r s t : Rw} (hS : Below V.heap.size V w)
    (H : Hid (∀ (b4 b5 b6 : Nat) (W : World), Blk W b4 (cells6 r) 60 → Blk W b5 (cells6 s) 60 → Blk W b6 (cells6 t) 60 → V.heap.size ≤ b4 → V.heap.size ≤ b5 → V.heap.size ≤ b6 → Below V.heap.size V W → Q .normal ⟨List.toArray (x0 :: (.pointer (some ⟨bx, 0, none⟩) : Value) :: x2 :: x3 :: (.pointer (some ⟨b4, 0, none⟩) : Value) :: (.pointer (some ⟨b5, 0, none⟩) : Value) :: (.pointer (some ⟨b6, 0, none⟩) : Value) :: x7 :: x8 :: x9 :: x10 :: (.pointer (some ⟨bx, 0, none⟩) : Value) :: (.agg (cells6 r) : Value) :: (.agg (cells6 r) : Value) :: (.pointer (some ⟨bx, 6, none⟩) : Value) :: (.agg (cells6 s) : Value) :: (.agg (cells6 s) : Value) :: (.pointer (some ⟨bx, 12, none⟩) : Value) :: (.agg (cells6 t) : Value) :: (.agg (cells6 t) : Value) :: x20 :: x21 :: x22 :: x23 :: x24 :: x25 :: x26 :: x27 :: x28 :: x29 :: x30 :: x31 :: x32 :: x33 :: x34 :: x35 :: x36 :: x37 :: x38 :: x39 :: x40 :: x41 :: x42 :: x43 :: x44 :: x45 :: x46 :: []), []⟩ W)) :
    wpAnyH Try.prog .any (opsOf ((Try.f14.body.bind (regionAt 1)).getD .skip)) (NoPanic Q) (fun W => Below V.heap.size V W) 9 (List.toArray (true :: true :: false :: true :: true :: false :: true :: true :: false :: false :: false :: false :: false :: false :: false :: [])) ⟨List.toArray (x0 :: (.pointer (some ⟨bx, 0, none⟩) : Value) :: x2 :: x3 :: x4 :: x5 :: x6 :: x7 :: x8 :: x9 :: x10 :: (.pointer (some ⟨bx, 0, none⟩) : Value) :: (.agg (cells6 r) : Value) :: x13 :: (.pointer (some ⟨bx, 6, none⟩) : Value) :: (.agg (cells6 s) : Value) :: x16 :: (.pointer (some ⟨bx, 12, none⟩) : Value) :: (.agg (cells6 t) : Value) :: x19 :: x20 :: x21 :: x22 :: x23 :: x24 :: x25 :: x26 :: x27 :: x28 :: x29 :: x30 :: x31 :: x32 :: x33 :: x34 :: x35 :: x36 :: x37 :: x38 :: x39 :: x40 :: x41 :: x42 :: x43 :: x44 :: x45 :: x46 :: []), []⟩ w := by
  conv => arg 3; whnf
  refine wpAnyH_all (rs := [2, 9, 10, 11]) (by kernel_rfl) (by simp) (AllReadyH.cons (i := 2) rfl (fun KK hK => ?_) (AllReadyH.cons (i := 9) rfl (fun KK hK => ?_) (AllReadyH.cons (i := 10) rfl (fun KK hK => ?_) (AllReadyH.cons (i := 11) rfl (fun KK hK => ?_) AllReadyH.nil))))
  · rw [if_pos (by kernel_rfl)]
    have hS1 := hide hS
    clear hS
    go_wp2_with fail
    refine (num_any r _).mono ?_
    rintro e w' ⟨rfl, hb⟩
    have hS2 := hide (below_via (unhide hS1) hb)
    clear hb hS1
    go_wp2_with fail
    refine hK.out _ _ (unhide hS2) (fun hS => ?_)
    clear hK hS2
    try simp only [Act.put, List.setIfInBounds_toArray, List.set_cons_zero, List.set_cons_succ]
    exact n1_0 hS H
  · rw [if_pos (by kernel_rfl)]
    have K4 := hide (Blk.new w #[.int .i64 0, .int .i64 0, .int .i64 0, .int .i64 0, .int .i64 0, .int .i64 0] 60)
    have G4 := hide hS.size
    have hS2 := hide (below_via hS (below1 w (.cells #[.int .i64 0, .int .i64 0, .int .i64 0, .int .i64 0, .int .i64 0, .int .i64 0] 60)))
    clear hS
    go_wp2_with fail
    refine hK.out _ _ (unhide hS2) (fun hS => ?_)
    clear hK hS2
    try simp only [Act.put, List.setIfInBounds_toArray, List.set_cons_zero, List.set_cons_succ]
    exact n0_4 K4 G4 hS H
  · rw [if_pos (by kernel_rfl)]
    have K5 := hide (Blk.new w #[.int .i64 0, .int .i64 0, .int .i64 0, .int .i64 0, .int .i64 0, .int .i64 0] 60)
    have G5 := hide hS.size
    have hS2 := hide (below_via hS (below1 w (.cells #[.int .i64 0, .int .i64 0, .int .i64 0, .int .i64 0, .int .i64 0, .int .i64 0] 60)))
    clear hS
    go_wp2_with fail
    refine hK.out _ _ (unhide hS2) (fun hS => ?_)
    clear hK hS2
    try simp only [Act.put, List.setIfInBounds_toArray, List.set_cons_zero, List.set_cons_succ]
    exact n0_5 K5 G5 hS H
  · rw [if_pos (by kernel_rfl)]
    have K6 := hide (Blk.new w #[.int .i64 0, .int .i64 0, .int .i64 0, .int .i64 0, .int .i64 0, .int .i64 0] 60)
    have G6 := hide hS.size
    have hS2 := hide (below_via hS (below1 w (.cells #[.int .i64 0, .int .i64 0, .int .i64 0, .int .i64 0, .int .i64 0, .int .i64 0] 60)))
    clear hS
    go_wp2_with fail
    refine hK.out _ _ (unhide hS2) (fun hS => ?_)
    clear hK hS2
    try simp only [Act.put, List.setIfInBounds_toArray, List.set_cons_zero, List.set_cons_succ]
    exact n0_6 K6 G6 hS H
theorem nreg1 {Q : Exit → Act → World → Prop} {x0 x2 x3 x4 x5 x6 x7 x8 x9 x10 x11 x12 x13 x14 x15 x16 x17 x18 x19 x20 x21 x22 x23 x24 x25 x26 x27 x28 x29 x30 x31 x32 x33 x34 x35 x36 x37 x38 x39 x40 x41 x42 x43 x44 x45 x46 : Value} {V : World} {bx : Nat} {r s t : Rw} (hB : Hid (Blk V bx (cells18 r s t) 27))
    (H : Hid (∀ (b4 b5 b6 : Nat) (W : World), Blk W b4 (cells6 r) 60 → Blk W b5 (cells6 s) 60 → Blk W b6 (cells6 t) 60 → V.heap.size ≤ b4 → V.heap.size ≤ b5 → V.heap.size ≤ b6 → Below V.heap.size V W → Q .normal ⟨List.toArray (x0 :: (.pointer (some ⟨bx, 0, none⟩) : Value) :: x2 :: x3 :: (.pointer (some ⟨b4, 0, none⟩) : Value) :: (.pointer (some ⟨b5, 0, none⟩) : Value) :: (.pointer (some ⟨b6, 0, none⟩) : Value) :: x7 :: x8 :: x9 :: x10 :: (.pointer (some ⟨bx, 0, none⟩) : Value) :: (.agg (cells6 r) : Value) :: (.agg (cells6 r) : Value) :: (.pointer (some ⟨bx, 6, none⟩) : Value) :: (.agg (cells6 s) : Value) :: (.agg (cells6 s) : Value) :: (.pointer (some ⟨bx, 12, none⟩) : Value) :: (.agg (cells6 t) : Value) :: (.agg (cells6 t) : Value) :: x20 :: x21 :: x22 :: x23 :: x24 :: x25 :: x26 :: x27 :: x28 :: x29 :: x30 :: x31 :: x32 :: x33 :: x34 :: x35 :: x36 :: x37 :: x38 :: x39 :: x40 :: x41 :: x42 :: x43 :: x44 :: x45 :: x46 :: []), []⟩ W)) :
    Code.wp Try.prog ((Try.f14.body.bind (regionAt 1)).getD .skip) Q ⟨List.toArray (x0 :: (.pointer (some ⟨bx, 0, none⟩) : Value) :: x2 :: x3 :: x4 :: x5 :: x6 :: x7 :: x8 :: x9 :: x10 :: x11 :: x12 :: x13 :: x14 :: x15 :: x16 :: x17 :: x18 :: x19 :: x20 :: x21 :: x22 :: x23 :: x24 :: x25 :: x26 :: x27 :: x28 :: x29 :: x30 :: x31 :: x32 :: x33 :: x34 :: x35 :: x36 :: x37 :: x38 :: x39 :: x40 :: x41 :: x42 :: x43 :: x44 :: x45 :: x46 :: []), []⟩ V := by
  conv => arg 2; whnf
  refine wp_region_noPanic ?_
  refine wp_region_held_drew (S := fun W => Below V.heap.size V W) (by kernel_rfl) (Below.refl _ _).drew (fun hS => ?_)
  generalize hV : V.drew = V0 at *
  clear hV
  refine anyH_at (i := 0) (v := .pointer (some ⟨bx, 0, none⟩)) 11 rfl (by kernel_rfl) (by kernel_rfl) (by kernel_rfl) (by kernel_rfl) (fun _ _ _ h => h) (Or.inl ⟨by kernel_rfl, fun W hS => by go_simp⟩) hS ?_
  try simp only [Act.put, List.setIfInBounds_toArray, List.set_cons_zero, List.set_cons_succ]
  refine anyH_at (i := 1) (v := .agg (cells6 r)) 12 rfl (by kernel_rfl) (by kernel_rfl) (by kernel_rfl) (by kernel_rfl) (fun _ _ _ h => h) (Or.inl ⟨by kernel_rfl, fun W hS => by have q := (show Blk _ _ _ _ from unhide hB).keep hS; have c0 := q.at 0 (.int .i64 r.o) rfl; have c1 := q.at 1 (.int .i64 r.i) rfl; have c2 := q.at 2 (.int .i64 r.u) rfl; have c3 := q.at 3 (.int .i64 r.n) rfl; have c4 := q.at 4 (.int .i64 r.x) rfl; have c5 := q.at 5 (.int .i64 r.z) rfl; go_simp⟩) hS ?_
  try simp only [Act.put, List.setIfInBounds_toArray, List.set_cons_zero, List.set_cons_succ]
  refine anyH_at (i := 3) (v := .pointer (some ⟨bx, 6, none⟩)) 14 rfl (by kernel_rfl) (by kernel_rfl) (by kernel_rfl) (by kernel_rfl) (fun _ _ _ h => h) (Or.inl ⟨by kernel_rfl, fun W hS => by go_simp⟩) hS ?_
  try simp only [Act.put, List.setIfInBounds_toArray, List.set_cons_zero, List.set_cons_succ]
  refine anyH_at (i := 4) (v := .agg (cells6 s)) 15 rfl (by kernel_rfl) (by kernel_rfl) (by kernel_rfl) (by kernel_rfl) (fun _ _ _ h => h) (Or.inl ⟨by kernel_rfl, fun W hS => by have q := (show Blk _ _ _ _ from unhide hB).keep hS; have c0 := q.at 6 (.int .i64 s.o) rfl; have c1 := q.at 7 (.int .i64 s.i) rfl; have c2 := q.at 8 (.int .i64 s.u) rfl; have c3 := q.at 9 (.int .i64 s.n) rfl; have c4 := q.at 10 (.int .i64 s.x) rfl; have c5 := q.at 11 (.int .i64 s.z) rfl; go_simp⟩) hS ?_
  try simp only [Act.put, List.setIfInBounds_toArray, List.set_cons_zero, List.set_cons_succ]
  refine anyH_at (i := 6) (v := .pointer (some ⟨bx, 12, none⟩)) 17 rfl (by kernel_rfl) (by kernel_rfl) (by kernel_rfl) (by kernel_rfl) (fun _ _ _ h => h) (Or.inl ⟨by kernel_rfl, fun W hS => by go_simp⟩) hS ?_
  try simp only [Act.put, List.setIfInBounds_toArray, List.set_cons_zero, List.set_cons_succ]
  refine anyH_at (i := 7) (v := .agg (cells6 t)) 18 rfl (by kernel_rfl) (by kernel_rfl) (by kernel_rfl) (by kernel_rfl) (fun _ _ _ h => h) (Or.inl ⟨by kernel_rfl, fun W hS => by have q := (show Blk _ _ _ _ from unhide hB).keep hS; have c0 := q.at 12 (.int .i64 t.o) rfl; have c1 := q.at 13 (.int .i64 t.i) rfl; have c2 := q.at 14 (.int .i64 t.u) rfl; have c3 := q.at 15 (.int .i64 t.n) rfl; have c4 := q.at 16 (.int .i64 t.x) rfl; have c5 := q.at 17 (.int .i64 t.z) rfl; go_simp⟩) hS ?_
  try simp only [Act.put, List.setIfInBounds_toArray, List.set_cons_zero, List.set_cons_succ]
  exact n0_0 hS H
end Go.Proofs.Ytkccladbcehdbaa
