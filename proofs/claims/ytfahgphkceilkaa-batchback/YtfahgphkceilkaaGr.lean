/- Get's drawn region, by itself. -/
import Derived.Test.YtfahgphkceilkaaLf
import Derived.Test.YtfahgphkceilkaaCb
namespace Go.Proofs.Ytfahgphkceilkaa
open Go.RowKit
set_option linter.unusedVariables false
set_option linter.unusedSimpArgs false
/-- The region of that number. -/
def regionAt (n : Nat) : Code → Option Code
  | .region k o m => if k = n then some (.region k o m) else none
  | .seq a b => match regionAt n a with
    | some c => some c
    | none => regionAt n b
  | .cond _ a b => match regionAt n a with
    | some c => some c
    | none => regionAt n b
  | .block _ c => regionAt n c
  | .loop c => regionAt n c
  | .scope c => regionAt n c
  | _ => none
theorem num_at (xs : List Nat) (k : Nat) (hb : Bytes xs) : wrap64 (valB ((xs.drop k).take 4) : Nat) = ((valB ((xs.drop k).take 4) : Nat) : Int) := by
  have h := val_lt (bytes_take (bytes_drop hb k) 4)
  have h2 : 256 ^ ((xs.drop k).take 4).length ≤ 256 ^ 4 := Nat.pow_le_pow_right (by decide) (by rw [List.length_take]; omega)
  have h3 : 256 ^ 4 = 4294967296 := by decide
  exact wrap_in ⟨by omega, by omega⟩
theorem lis_sub (xs : List Nat) {m : Nat} (h : xs.length = 15 + 9 * m) : linesB m ((xs.drop 11).take (9 * m)) = linesB m (xs.drop 11) := by
  have key : ∀ (m : Nat) (l : List Nat), linesB m (l.take (9 * m)) = linesB m l := fun m => by
    induction m with
    | zero => intro l; rfl
    | succ m ih =>
      intro l
      rw [linesB, linesB, List.drop_take, show 9 * (m + 1) - 9 = 9 * m by omega, ih]
      congr 1
      unfold lineOf
      rw [List.drop_take, List.take_take, show min 8 (9 * (m + 1) - 1) = 8 by omega]
      congr 2
      simp only [List.getD]
      rw [List.getElem?_take_of_lt (by omega)]
  exact key m _
set_option maxRecDepth 20000 in
set_option maxHeartbeats 32000000 in
theorem greg4 {Q : Exit → Act → World → Prop} {x1 x2 x3 x4 x5 x6 x7 x8 x9 x10 x11 x12 x13 x14 x15 x16 x17 x18 x19 x20 x21 x22 x23 x24 x25 x26 x27 x28 x29 : Value} {x : Option Addr} {n cap m j4 : Nat} {xs : List Nat} {a b : Int} {V : World} {ls : List (List Value)}
    (hn : 15 ≤ n) (hc : n ≤ cap) (hj1 : 11 ≤ j4) (hj2 : j4 ≤ cap) (hm : j4 - 11 = m) (hw : IntKind.i64.wrap ((n : Int) - 4) = (j4 : Int))
    (h1 : ∀ W, Below V.heap.size V W → Calls Try.prog 32 #[.slice (loA 1 x 2 cap) 4 (cap - 2)] W fun e w' => e = .returned (.int .i64 a) ∧ w' = W)
    (h2 : ∀ W, Below V.heap.size V W → Calls Try.prog 32 #[.slice (loA 1 x 6 cap) 4 (cap - 6)] W fun e w' => e = .returned (.int .i64 b) ∧ w' = W)
    (h3 : ∀ W, Below V.heap.size V W → Calls Try.prog 33 #[.slice (loA 1 x 11 cap) m (cap - 11)] W fun e w' => ∃ u, e = .returned u ∧ GrowG 54 2 W w' u ls)
    (h : ∀ (s1 s2 s3 u : Value) (cb : Nat) (W : World), V.heap.size ≤ cb → Blk W cb #[.int .i64 a, .int .i64 b, u] 32 → GrowG 54 2 V W u ls → Q .normal ⟨List.toArray ((.slice x n cap : Value) :: x1 :: x2 :: x3 :: x4 :: (.pointer (some ⟨cb, 0, none⟩) : Value) :: x6 :: x7 :: x8 :: x9 :: x10 :: x11 :: (.slice x n cap : Value) :: s1 :: (.int .i64 a : Value) :: (.slice x n cap : Value) :: s2 :: (.int .i64 b : Value) :: (.slice x n cap : Value) :: (.slice x n cap : Value) :: (.int .i64 (n : Int) : Value) :: (.int .i64 (j4 : Int) : Value) :: s3 :: u :: (.agg #[.int .i64 a, .int .i64 b, u] : Value) :: x25 :: x26 :: x27 :: x28 :: x29 :: []), []⟩ W) :
    Code.wp Try.prog ((Try.f18.body.bind (regionAt 4)).getD .skip) Q ⟨List.toArray ((.slice x n cap : Value) :: x1 :: x2 :: x3 :: x4 :: x5 :: x6 :: x7 :: x8 :: x9 :: x10 :: x11 :: x12 :: x13 :: x14 :: x15 :: x16 :: x17 :: x18 :: x19 :: x20 :: x21 :: x22 :: x23 :: x24 :: x25 :: x26 :: x27 :: x28 :: x29 :: []), []⟩ V := by
  have H := hide h
  have H1 := hide h1
  have H2 := hide h2
  have H3 := hide h3
  clear h h1 h2 h3
  conv => arg 2; whnf
  refine wp_region_noPanic ?_
  refine wp_region_held_drew (S := fun W => Below V.heap.size V W) (by kernel_rfl) (Below.refl _ _).drew (fun hS => ?_)
  generalize hV : V.drew = V0 at *
  clear hV
  refine anyH_at (i := 0) (v := .slice x n cap) 12 rfl (by kernel_rfl) (by kernel_rfl) (by kernel_rfl) (by kernel_rfl) (fun _ _ _ h => h) (Or.inl ⟨by kernel_rfl, fun W hS => by go_simp⟩) hS ?_
  try simp only [Act.put, List.setIfInBounds_toArray, List.set_cons_zero, List.set_cons_succ]
  refine anyH_at (i := 1) (v := .slice (loA 1 x 2 cap) 4 (cap - 2)) 13 rfl (by kernel_rfl) (by kernel_rfl) (by kernel_rfl) (by kernel_rfl) (fun _ _ _ h => h) (Or.inl ⟨by kernel_rfl, fun W hS => by have q2 : (6 : Int) ≤ (cap : Int) := (by omega); (go_simp; try simp [q2, loA, Addr.add])⟩) hS ?_
  try simp only [Act.put, List.setIfInBounds_toArray, List.set_cons_zero, List.set_cons_succ]
  refine anyH_at (i := 3) (v := .slice x n cap) 15 rfl (by kernel_rfl) (by kernel_rfl) (by kernel_rfl) (by kernel_rfl) (fun _ _ _ h => h) (Or.inl ⟨by kernel_rfl, fun W hS => by go_simp⟩) hS ?_
  try simp only [Act.put, List.setIfInBounds_toArray, List.set_cons_zero, List.set_cons_succ]
  refine anyH_at (i := 4) (v := .slice (loA 1 x 6 cap) 4 (cap - 6)) 16 rfl (by kernel_rfl) (by kernel_rfl) (by kernel_rfl) (by kernel_rfl) (fun _ _ _ h => h) (Or.inl ⟨by kernel_rfl, fun W hS => by have q2 : (10 : Int) ≤ (cap : Int) := (by omega); (go_simp; try simp [q2, loA, Addr.add])⟩) hS ?_
  try simp only [Act.put, List.setIfInBounds_toArray, List.set_cons_zero, List.set_cons_succ]
  refine anyH_at (i := 6) (v := .slice x n cap) 18 rfl (by kernel_rfl) (by kernel_rfl) (by kernel_rfl) (by kernel_rfl) (fun _ _ _ h => h) (Or.inl ⟨by kernel_rfl, fun W hS => by go_simp⟩) hS ?_
  try simp only [Act.put, List.setIfInBounds_toArray, List.set_cons_zero, List.set_cons_succ]
  refine anyH_at (i := 7) (v := .slice x n cap) 19 rfl (by kernel_rfl) (by kernel_rfl) (by kernel_rfl) (by kernel_rfl) (fun _ _ _ h => h) (Or.inl ⟨by kernel_rfl, fun W hS => by go_simp⟩) hS ?_
  try simp only [Act.put, List.setIfInBounds_toArray, List.set_cons_zero, List.set_cons_succ]
  refine anyH_at (i := 8) (v := .int .i64 (n : Int)) 20 rfl (by kernel_rfl) (by kernel_rfl) (by kernel_rfl) (by kernel_rfl) (fun _ _ _ h => h) (Or.inl ⟨by kernel_rfl, fun W hS => by go_simp⟩) hS ?_
  try simp only [Act.put, List.setIfInBounds_toArray, List.set_cons_zero, List.set_cons_succ]
  refine anyH_at (i := 9) (v := .int .i64 (j4 : Int)) 21 rfl (by kernel_rfl) (by kernel_rfl) (by kernel_rfl) (by kernel_rfl) (fun _ _ _ h => h) (Or.inl ⟨by kernel_rfl, fun W hS => by have f1 := hw; go_simp⟩) hS ?_
  try simp only [Act.put, List.setIfInBounds_toArray, List.set_cons_zero, List.set_cons_succ]
  refine anyH_at (i := 10) (v := .slice (loA 1 x 11 cap) m (cap - 11)) 22 rfl (by kernel_rfl) (by kernel_rfl) (by kernel_rfl) (by kernel_rfl) (fun _ _ _ h => h) (Or.inl ⟨by kernel_rfl, fun W hS => by have q1 : (11 : Int) ≤ (j4 : Int) := (by omega); (go_simp; try simp [q1, hj2, hm, loA, Addr.add])⟩) hS ?_
  try simp only [Act.put, List.setIfInBounds_toArray, List.set_cons_zero, List.set_cons_succ]
  clear hw hn hc hj1 hj2 hm
  refine wpAnyH_all (rs := [2, 13]) (by kernel_rfl) (by simp) (AllReadyH.cons (i := 2) rfl (fun KK hK => ?_) (AllReadyH.cons (i := 13) rfl (fun KK hK => ?_) AllReadyH.nil))
  · rw [if_pos (by kernel_rfl)]
    have hQ := hide (unhide H1 V0 hS)
    have hS0 := hide hS
    clear hS
    go_wp2_with fail
    refine (unhide hQ).mono ?_
    rintro r VV ⟨rfl, hVV⟩
    replace hVV := hVV.symm
    subst hVV
    have hS1 := hS0
    clear hQ hS0
    go_wp2_with fail
    refine hK.out _ _ (unhide hS1) (fun hS => ?_)
    clear hK hS1
    try simp only [Act.put, List.setIfInBounds_toArray, List.set_cons_zero, List.set_cons_succ]
    refine wpAnyH_all (rs := [5, 13]) (by kernel_rfl) (by simp) (AllReadyH.cons (i := 5) rfl (fun KK hK => ?_) (AllReadyH.cons (i := 13) rfl (fun KK hK => ?_) AllReadyH.nil))
    · rw [if_pos (by kernel_rfl)]
      have hQ := hide (unhide H2 V0 hS)
      have hS0 := hide hS
      clear hS
      go_wp2_with fail
      refine (unhide hQ).mono ?_
      rintro r VV ⟨rfl, hVV⟩
      replace hVV := hVV.symm
      subst hVV
      have hS1 := hS0
      clear hQ hS0
      go_wp2_with fail
      refine hK.out _ _ (unhide hS1) (fun hS => ?_)
      clear hK hS1
      try simp only [Act.put, List.setIfInBounds_toArray, List.set_cons_zero, List.set_cons_succ]
      refine wpAnyH_all (rs := [11, 13]) (by kernel_rfl) (by simp) (AllReadyH.cons (i := 11) rfl (fun KK hK => ?_) (AllReadyH.cons (i := 13) rfl (fun KK hK => ?_) AllReadyH.nil))
      · rw [if_pos (by kernel_rfl)]
        have hQ := hide (unhide H3 V0 hS)
        have hS0 := hide hS
        clear hS
        go_wp2_with fail
        refine (unhide hQ).mono ?_
        rintro r V9 ⟨u, rfl, hg⟩
        have hS1 := hide (below_via (unhide hS0) hg.below)
        have HG := hide (hg.from (unhide hS0))
        obtain ⟨xu, nu, cu, rfl⟩ : ∃ xu nu cu, u = .slice xu nu cu := by
          obtain ⟨xu, cu, e1⟩ := rowG_slice hg.row
          exact ⟨xu, _, cu, e1⟩
        clear hg
        clear hQ hS0
        go_wp2_with fail
        refine hK.out _ _ (unhide hS1) (fun hS => ?_)
        clear hK hS1
        try simp only [Act.put, List.setIfInBounds_toArray, List.set_cons_zero, List.set_cons_succ]
        refine anyH_at (i := 12) (v := .agg #[.int .i64 a, .int .i64 b, .slice xu nu cu]) 24 rfl (by kernel_rfl) (by kernel_rfl) (by kernel_rfl) (by kernel_rfl) (fun _ _ _ h => h) (Or.inl ⟨by kernel_rfl, fun W hS => by have f1 := bd32 a b xu nu cu W; go_simp⟩) hS ?_
        try simp only [Act.put, List.setIfInBounds_toArray, List.set_cons_zero, List.set_cons_succ]
        refine wpAnyH_all (rs := [13]) (by kernel_rfl) (by simp) (AllReadyH.cons (i := 13) rfl (fun KK hK => ?_) AllReadyH.nil)
        rw [if_pos (by kernel_rfl)]
        have hS1 := hide (below_via hS (below1 V9 (.cells #[.int .i64 0, .int .i64 0, .slice none 0 0] 32)))
        have HY := hide (Blk.new V9 #[.int .i64 0, .int .i64 0, .slice none 0 0] 32)
        have hcb := hide hS.size
        have HN := hide ((show GrowG _ _ _ _ _ _ from unhide HG).late (Nat.le_refl _))
        replace HG := hide ((show GrowG _ _ _ _ _ _ from unhide HG).alloc (.cells #[.int .i64 0, .int .i64 0, .slice none 0 0] 32))
        clear hS
        go_wp2_with fail
        refine hK.out _ _ (unhide hS1) (fun hS => ?_)
        clear hK hS1
        try simp only [Act.put, List.setIfInBounds_toArray, List.set_cons_zero, List.set_cons_succ]
        generalize V9.alloc (.cells #[.int .i64 0, .int .i64 0, .slice none 0 0] 32) = VA at *
        generalize V9.heap.size = cb at *
        refine wpAnyH_all (rs := [14]) (by kernel_rfl) (by simp) (AllReadyH.cons (i := 14) rfl (fun KK hK => ?_) AllReadyH.nil)
        rw [if_pos (by kernel_rfl)]
        refine storeO_blk 32 _ _ rfl (show Blk _ _ _ _ from unhide HY) rfl rfl size32 rfl rfl rfl ?_
        intro V2 k2 kp
        have hS1 := hide (show Below V.heap.size V V2 from kp.bel (unhide hcb) hS)
        replace HG := hide (growG_past (show GrowG _ _ _ _ _ _ from unhide HG) kp (unhide HN) (unhide hS1))
        clear kp hS HY HN
        refine hK.out _ _ (unhide hS1) (fun hS => ?_)
        clear hK hS1 hS
        refine wpAnyH_done (by kernel_rfl) ?_ _
        exact unhide H _ _ _ _ _ _ (unhide hcb) k2 (unhide HG)
      · rw [if_pos (by kernel_rfl)]
        have hS1 := hide (below_via hS (below1 V0 (.cells #[.int .i64 0, .int .i64 0, .slice none 0 0] 32)))
        have HY := hide (Blk.new V0 #[.int .i64 0, .int .i64 0, .slice none 0 0] 32)
        have hcb := hide hS.size
        clear hS
        go_wp2_with fail
        refine hK.out _ _ (unhide hS1) (fun hS => ?_)
        clear hK hS1
        try simp only [Act.put, List.setIfInBounds_toArray, List.set_cons_zero, List.set_cons_succ]
        generalize V0.alloc (.cells #[.int .i64 0, .int .i64 0, .slice none 0 0] 32) = VA at *
        generalize V0.heap.size = cb at *
        refine wpAnyH_all (rs := [11]) (by kernel_rfl) (by simp) (AllReadyH.cons (i := 11) rfl (fun KK hK => ?_) AllReadyH.nil)
        rw [if_pos (by kernel_rfl)]
        have hQ := hide (unhide H3 VA hS)
        have hS0 := hide hS
        clear hS
        go_wp2_with fail
        refine (unhide hQ).mono ?_
        rintro r V9 ⟨u, rfl, hg⟩
        have hS1 := hide (below_via (unhide hS0) hg.below)
        have HG := hide (hg.from (unhide hS0))
        have HN := hide (hg.own (show Blk _ _ _ _ from unhide HY).lt)
        replace HY := hide ((show Blk _ _ _ _ from unhide HY).keep hg.below)
        obtain ⟨xu, nu, cu, rfl⟩ : ∃ xu nu cu, u = .slice xu nu cu := by
          obtain ⟨xu, cu, e1⟩ := rowG_slice hg.row
          exact ⟨xu, _, cu, e1⟩
        clear hg
        clear hQ hS0
        go_wp2_with fail
        refine hK.out _ _ (unhide hS1) (fun hS => ?_)
        clear hK hS1
        try simp only [Act.put, List.setIfInBounds_toArray, List.set_cons_zero, List.set_cons_succ]
        refine anyH_at (i := 12) (v := .agg #[.int .i64 a, .int .i64 b, .slice xu nu cu]) 24 rfl (by kernel_rfl) (by kernel_rfl) (by kernel_rfl) (by kernel_rfl) (fun _ _ _ h => h) (Or.inl ⟨by kernel_rfl, fun W hS => by have f1 := bd32 a b xu nu cu W; go_simp⟩) hS ?_
        try simp only [Act.put, List.setIfInBounds_toArray, List.set_cons_zero, List.set_cons_succ]
        refine wpAnyH_all (rs := [14]) (by kernel_rfl) (by simp) (AllReadyH.cons (i := 14) rfl (fun KK hK => ?_) AllReadyH.nil)
        rw [if_pos (by kernel_rfl)]
        refine storeO_blk 32 _ _ rfl (show Blk _ _ _ _ from unhide HY) rfl rfl size32 rfl rfl rfl ?_
        intro V2 k2 kp
        have hS1 := hide (show Below V.heap.size V V2 from kp.bel (unhide hcb) hS)
        replace HG := hide (growG_past (show GrowG _ _ _ _ _ _ from unhide HG) kp (unhide HN) (unhide hS1))
        clear kp hS HY HN
        refine hK.out _ _ (unhide hS1) (fun hS => ?_)
        clear hK hS1 hS
        refine wpAnyH_done (by kernel_rfl) ?_ _
        exact unhide H _ _ _ _ _ _ (unhide hcb) k2 (unhide HG)
    · rw [if_pos (by kernel_rfl)]
      have hS1 := hide (below_via hS (below1 V0 (.cells #[.int .i64 0, .int .i64 0, .slice none 0 0] 32)))
      have HY := hide (Blk.new V0 #[.int .i64 0, .int .i64 0, .slice none 0 0] 32)
      have hcb := hide hS.size
      clear hS
      go_wp2_with fail
      refine hK.out _ _ (unhide hS1) (fun hS => ?_)
      clear hK hS1
      try simp only [Act.put, List.setIfInBounds_toArray, List.set_cons_zero, List.set_cons_succ]
      generalize V0.alloc (.cells #[.int .i64 0, .int .i64 0, .slice none 0 0] 32) = VA at *
      generalize V0.heap.size = cb at *
      refine wpAnyH_all (rs := [5]) (by kernel_rfl) (by simp) (AllReadyH.cons (i := 5) rfl (fun KK hK => ?_) AllReadyH.nil)
      rw [if_pos (by kernel_rfl)]
      have hQ := hide (unhide H2 VA hS)
      have hS0 := hide hS
      clear hS
      go_wp2_with fail
      refine (unhide hQ).mono ?_
      rintro r VV ⟨rfl, hVV⟩
      replace hVV := hVV.symm
      subst hVV
      have hS1 := hS0
      clear hQ hS0
      go_wp2_with fail
      refine hK.out _ _ (unhide hS1) (fun hS => ?_)
      clear hK hS1
      try simp only [Act.put, List.setIfInBounds_toArray, List.set_cons_zero, List.set_cons_succ]
      refine wpAnyH_all (rs := [11]) (by kernel_rfl) (by simp) (AllReadyH.cons (i := 11) rfl (fun KK hK => ?_) AllReadyH.nil)
      rw [if_pos (by kernel_rfl)]
      have hQ := hide (unhide H3 VA hS)
      have hS0 := hide hS
      clear hS
      go_wp2_with fail
      refine (unhide hQ).mono ?_
      rintro r V9 ⟨u, rfl, hg⟩
      have hS1 := hide (below_via (unhide hS0) hg.below)
      have HG := hide (hg.from (unhide hS0))
      have HN := hide (hg.own (show Blk _ _ _ _ from unhide HY).lt)
      replace HY := hide ((show Blk _ _ _ _ from unhide HY).keep hg.below)
      obtain ⟨xu, nu, cu, rfl⟩ : ∃ xu nu cu, u = .slice xu nu cu := by
        obtain ⟨xu, cu, e1⟩ := rowG_slice hg.row
        exact ⟨xu, _, cu, e1⟩
      clear hg
      clear hQ hS0
      go_wp2_with fail
      refine hK.out _ _ (unhide hS1) (fun hS => ?_)
      clear hK hS1
      try simp only [Act.put, List.setIfInBounds_toArray, List.set_cons_zero, List.set_cons_succ]
      refine anyH_at (i := 12) (v := .agg #[.int .i64 a, .int .i64 b, .slice xu nu cu]) 24 rfl (by kernel_rfl) (by kernel_rfl) (by kernel_rfl) (by kernel_rfl) (fun _ _ _ h => h) (Or.inl ⟨by kernel_rfl, fun W hS => by have f1 := bd32 a b xu nu cu W; go_simp⟩) hS ?_
      try simp only [Act.put, List.setIfInBounds_toArray, List.set_cons_zero, List.set_cons_succ]
      refine wpAnyH_all (rs := [14]) (by kernel_rfl) (by simp) (AllReadyH.cons (i := 14) rfl (fun KK hK => ?_) AllReadyH.nil)
      rw [if_pos (by kernel_rfl)]
      refine storeO_blk 32 _ _ rfl (show Blk _ _ _ _ from unhide HY) rfl rfl size32 rfl rfl rfl ?_
      intro V2 k2 kp
      have hS1 := hide (show Below V.heap.size V V2 from kp.bel (unhide hcb) hS)
      replace HG := hide (growG_past (show GrowG _ _ _ _ _ _ from unhide HG) kp (unhide HN) (unhide hS1))
      clear kp hS HY HN
      refine hK.out _ _ (unhide hS1) (fun hS => ?_)
      clear hK hS1 hS
      refine wpAnyH_done (by kernel_rfl) ?_ _
      exact unhide H _ _ _ _ _ _ (unhide hcb) k2 (unhide HG)
  · rw [if_pos (by kernel_rfl)]
    have hS1 := hide (below_via hS (below1 V0 (.cells #[.int .i64 0, .int .i64 0, .slice none 0 0] 32)))
    have HY := hide (Blk.new V0 #[.int .i64 0, .int .i64 0, .slice none 0 0] 32)
    have hcb := hide hS.size
    clear hS
    go_wp2_with fail
    refine hK.out _ _ (unhide hS1) (fun hS => ?_)
    clear hK hS1
    try simp only [Act.put, List.setIfInBounds_toArray, List.set_cons_zero, List.set_cons_succ]
    generalize V0.alloc (.cells #[.int .i64 0, .int .i64 0, .slice none 0 0] 32) = VA at *
    generalize V0.heap.size = cb at *
    refine wpAnyH_all (rs := [2]) (by kernel_rfl) (by simp) (AllReadyH.cons (i := 2) rfl (fun KK hK => ?_) AllReadyH.nil)
    rw [if_pos (by kernel_rfl)]
    have hQ := hide (unhide H1 VA hS)
    have hS0 := hide hS
    clear hS
    go_wp2_with fail
    refine (unhide hQ).mono ?_
    rintro r VV ⟨rfl, hVV⟩
    replace hVV := hVV.symm
    subst hVV
    have hS1 := hS0
    clear hQ hS0
    go_wp2_with fail
    refine hK.out _ _ (unhide hS1) (fun hS => ?_)
    clear hK hS1
    try simp only [Act.put, List.setIfInBounds_toArray, List.set_cons_zero, List.set_cons_succ]
    refine wpAnyH_all (rs := [5]) (by kernel_rfl) (by simp) (AllReadyH.cons (i := 5) rfl (fun KK hK => ?_) AllReadyH.nil)
    rw [if_pos (by kernel_rfl)]
    have hQ := hide (unhide H2 VA hS)
    have hS0 := hide hS
    clear hS
    go_wp2_with fail
    refine (unhide hQ).mono ?_
    rintro r VV ⟨rfl, hVV⟩
    replace hVV := hVV.symm
    subst hVV
    have hS1 := hS0
    clear hQ hS0
    go_wp2_with fail
    refine hK.out _ _ (unhide hS1) (fun hS => ?_)
    clear hK hS1
    try simp only [Act.put, List.setIfInBounds_toArray, List.set_cons_zero, List.set_cons_succ]
    refine wpAnyH_all (rs := [11]) (by kernel_rfl) (by simp) (AllReadyH.cons (i := 11) rfl (fun KK hK => ?_) AllReadyH.nil)
    rw [if_pos (by kernel_rfl)]
    have hQ := hide (unhide H3 VA hS)
    have hS0 := hide hS
    clear hS
    go_wp2_with fail
    refine (unhide hQ).mono ?_
    rintro r V9 ⟨u, rfl, hg⟩
    have hS1 := hide (below_via (unhide hS0) hg.below)
    have HG := hide (hg.from (unhide hS0))
    have HN := hide (hg.own (show Blk _ _ _ _ from unhide HY).lt)
    replace HY := hide ((show Blk _ _ _ _ from unhide HY).keep hg.below)
    obtain ⟨xu, nu, cu, rfl⟩ : ∃ xu nu cu, u = .slice xu nu cu := by
      obtain ⟨xu, cu, e1⟩ := rowG_slice hg.row
      exact ⟨xu, _, cu, e1⟩
    clear hg
    clear hQ hS0
    go_wp2_with fail
    refine hK.out _ _ (unhide hS1) (fun hS => ?_)
    clear hK hS1
    try simp only [Act.put, List.setIfInBounds_toArray, List.set_cons_zero, List.set_cons_succ]
    refine anyH_at (i := 12) (v := .agg #[.int .i64 a, .int .i64 b, .slice xu nu cu]) 24 rfl (by kernel_rfl) (by kernel_rfl) (by kernel_rfl) (by kernel_rfl) (fun _ _ _ h => h) (Or.inl ⟨by kernel_rfl, fun W hS => by have f1 := bd32 a b xu nu cu W; go_simp⟩) hS ?_
    try simp only [Act.put, List.setIfInBounds_toArray, List.set_cons_zero, List.set_cons_succ]
    refine wpAnyH_all (rs := [14]) (by kernel_rfl) (by simp) (AllReadyH.cons (i := 14) rfl (fun KK hK => ?_) AllReadyH.nil)
    rw [if_pos (by kernel_rfl)]
    refine storeO_blk 32 _ _ rfl (show Blk _ _ _ _ from unhide HY) rfl rfl size32 rfl rfl rfl ?_
    intro V2 k2 kp
    have hS1 := hide (show Below V.heap.size V V2 from kp.bel (unhide hcb) hS)
    replace HG := hide (growG_past (show GrowG _ _ _ _ _ _ from unhide HG) kp (unhide HN) (unhide hS1))
    clear kp hS HY HN
    refine hK.out _ _ (unhide hS1) (fun hS => ?_)
    clear hK hS1 hS
    refine wpAnyH_done (by kernel_rfl) ?_ _
    exact unhide H _ _ _ _ _ _ (unhide hcb) k2 (unhide HG)
end Go.Proofs.Ytfahgphkceilkaa
