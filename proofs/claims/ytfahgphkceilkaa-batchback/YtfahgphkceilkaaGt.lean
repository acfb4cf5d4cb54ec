/- The document's Get: the drawn region of its loop. -/
import Derived.Test.YtfahgphkceilkaaGs
namespace Go.Proofs.Ytfahgphkceilkaa
open Go.RowKit
set_option linter.unusedVariables false
set_option linter.unusedSimpArgs false
theorem bd60 (p q : Int) (w : World) : Sem.run Try.prog (Instr.build 60 #[(0, .int .i64 p), (1, .int .i64 q)]) w = .ok (.agg #[.int .i64 p, .int .i64 q]) w := by kernel_rfl
theorem one_row60 (w : World) (p q : Int) : RowG 2 (w.alloc (.cells #[.int .i64 p, .int .i64 q] 60)) (.slice (some ⟨w.heap.size, 0, none⟩) 1 1) [liL (p, q)] := by
  have h := two_cells (Blk.new w #[.int .i64 p, .int .i64 q] 60)
  refine Or.inr ⟨_, _, _, rfl, by simp, by simp, by simp [maxLen], fun j hj t ht => ?_, fit_li [(p, q)]⟩
  obtain rfl : j = 0 := by simp at hj; omega
  match t, ht with
  | 0, _ => exact h.1
  | 1, _ => exact h.2
set_option maxRecDepth 20000 in
set_option maxHeartbeats 32000000 in
theorem rreg18 {Q : Exit → Act → World → Prop} {x0 x1 x2 x3 x4 x5 x7 x9 x10 x11 x12 x13 x14 x15 x16 x17 x18 x19 x20 x21 x22 x23 x24 x25 x26 x27 x28 x29 x30 x31 x32 x33 x34 x35 x36 x37 x38 x39 x40 x41 x42 x43 x44 x45 x46 x47 x48 x49 x50 x51 x52 x53 x54 x55 x56 x57 x58 x59 x60 x61 x62 x63 x64 x65 x66 x67 x68 x69 x70 x71 x72 x73 x74 x75 x76 x77 x78 x79 x80 x81 x82 x83 x84 x85 x86 x87 x88 x89 x90 x91 x92 x93 x94 x95 x96 : Value} {xo : Option Addr} {no co cb lb lo lc B0 : Nat} {p A : Nat} {q a b : Int} {V w1 : World} {l : List (List Value)} {o : Value}
    (ho : o = .slice xo no co) (hp : V.cell? ⟨lb, lo, none⟩ = some (.int .u8 (p : Int))) (hlb : lb < w1.heap.size) (hw1 : Below w1.heap.size w1 V) (hcb : w1.heap.size ≤ cb) (hB : cb < B0) (hBV : B0 ≤ V.heap.size) (hq : IntKind.i64.wrap (A : Int) = q) (hp8 : IntKind.i64.wrap (p : Int) = (p : Int))
    (hU : Blk V cb #[.int .i64 a, .int .i64 b, o] 24) (hG : OwnG 60 2 B0 V o l) (hl : l.length + 1 ≤ 1000000)
    (h1 : ∀ W, Below w1.heap.size w1 W → Calls Try.prog 34 #[.slice (loA 1 (some ⟨lb, lo, none⟩) 1 lc) 8 (lc - 1)] W fun e w' => e = .returned (.int .u64 (A : Int)) ∧ w' = W)
    (h : ∀ (s1 s2 s3 s4 s5 s6 s7 s8 u : Value) (W : World), Below w1.heap.size w1 W → B0 ≤ W.heap.size → Blk W cb #[.int .i64 a, .int .i64 b, u] 24 → OwnG 60 2 B0 W u (l ++ [liL ((p : Int), q)]) → Q .normal ⟨List.toArray (x0 :: x1 :: x2 :: x3 :: x4 :: x5 :: (.pointer (some ⟨cb, 0, none⟩) : Value) :: x7 :: (.slice (some ⟨lb, lo, none⟩) 9 lc : Value) :: x9 :: x10 :: x11 :: x12 :: x13 :: x14 :: x15 :: x16 :: x17 :: x18 :: x19 :: x20 :: x21 :: x22 :: x23 :: x24 :: x25 :: x26 :: x27 :: x28 :: x29 :: x30 :: x31 :: x32 :: x33 :: x34 :: x35 :: x36 :: x37 :: x38 :: x39 :: x40 :: x41 :: x42 :: x43 :: x44 :: x45 :: x46 :: x47 :: x48 :: x49 :: x50 :: x51 :: x52 :: x53 :: x54 :: x55 :: x56 :: x57 :: x58 :: x59 :: x60 :: x61 :: x62 :: x63 :: x64 :: x65 :: x66 :: x67 :: x68 :: x69 :: x70 :: x71 :: x72 :: x73 :: x74 :: x75 :: x76 :: x77 :: (.pointer (some ⟨cb, 2, none⟩) : Value) :: (o : Value) :: (.slice (some ⟨lb, lo, none⟩) 9 lc : Value) :: (s1 : Value) :: (s2 : Value) :: (s3 : Value) :: (.slice (some ⟨lb, lo, none⟩) 9 lc : Value) :: (s4 : Value) :: (s5 : Value) :: (s6 : Value) :: (s7 : Value) :: (s8 : Value) :: (u : Value) :: (.pointer (some ⟨cb, 2, none⟩) : Value) :: x92 :: x93 :: x94 :: x95 :: x96 :: []), []⟩ W) :
    Code.wp Try.prog ((Try.f19.body.bind (regionAt 18)).getD .skip) Q ⟨List.toArray (x0 :: x1 :: x2 :: x3 :: x4 :: x5 :: (.pointer (some ⟨cb, 0, none⟩) : Value) :: x7 :: (.slice (some ⟨lb, lo, none⟩) 9 lc : Value) :: x9 :: x10 :: x11 :: x12 :: x13 :: x14 :: x15 :: x16 :: x17 :: x18 :: x19 :: x20 :: x21 :: x22 :: x23 :: x24 :: x25 :: x26 :: x27 :: x28 :: x29 :: x30 :: x31 :: x32 :: x33 :: x34 :: x35 :: x36 :: x37 :: x38 :: x39 :: x40 :: x41 :: x42 :: x43 :: x44 :: x45 :: x46 :: x47 :: x48 :: x49 :: x50 :: x51 :: x52 :: x53 :: x54 :: x55 :: x56 :: x57 :: x58 :: x59 :: x60 :: x61 :: x62 :: x63 :: x64 :: x65 :: x66 :: x67 :: x68 :: x69 :: x70 :: x71 :: x72 :: x73 :: x74 :: x75 :: x76 :: x77 :: x78 :: x79 :: x80 :: x81 :: x82 :: x83 :: x84 :: x85 :: x86 :: x87 :: x88 :: x89 :: x90 :: x91 :: x92 :: x93 :: x94 :: x95 :: x96 :: []), []⟩ V := by
  have H := hide h
  clear h
  conv => arg 2; whnf
  refine wp_region_noPanic ?_
  have H1 := hide h1
  have hpw := (hw1.cell (p := ⟨lb, lo, none⟩) hlb).symm.trans hp
  have bd := (Below.refl V.heap.size V).drew
  have HU := hide (hU.keep bd)
  have HG := hide (hG.below bd)
  have hBs := hide (Nat.le_trans hBV bd.size)
  have hl2 := hide hl
  have hcb2 := hide hcb
  have hB2 := hide hB
  have HS0 := below_via hw1 bd
  clear h1 hp hU hG hl hcb hB
  refine wp_region_held_drew (S := fun W => Below w1.heap.size w1 W) (by kernel_rfl) HS0 (fun hS => ?_)
  generalize hV : V.drew = V0 at *
  clear hV bd HS0 hBV
  refine anyH_at (i := 0) (v := .pointer (some ⟨cb, 2, none⟩)) 78 rfl (by kernel_rfl) (by kernel_rfl) (by kernel_rfl) (by kernel_rfl) (fun _ _ _ h => h) (Or.inl ⟨by kernel_rfl, fun W hS => by go_simp⟩) hS ?_
  try simp only [Act.put, List.setIfInBounds_toArray, List.set_cons_zero, List.set_cons_succ]
  refine anyH_at (i := 2) (v := .slice (some ⟨lb, lo, none⟩) 9 lc) 80 rfl (by kernel_rfl) (by kernel_rfl) (by kernel_rfl) (by kernel_rfl) (fun _ _ _ h => h) (Or.inl ⟨by kernel_rfl, fun W hS => by go_simp⟩) hS ?_
  try simp only [Act.put, List.setIfInBounds_toArray, List.set_cons_zero, List.set_cons_succ]
  refine anyH_at (i := 3) (v := .pointer (some ⟨lb, lo, none⟩)) 81 rfl (by kernel_rfl) (by kernel_rfl) (by kernel_rfl) (by kernel_rfl) (fun _ _ _ h => h) (Or.inl ⟨by kernel_rfl, fun W hS => by go_simp⟩) hS ?_
  try simp only [Act.put, List.setIfInBounds_toArray, List.set_cons_zero, List.set_cons_succ]
  refine anyH_at (i := 4) (v := .int .u8 (p : Int)) 82 rfl (by kernel_rfl) (by kernel_rfl) (by kernel_rfl) (by kernel_rfl) (fun _ _ _ h => h) (Or.inl ⟨by kernel_rfl, fun W hS => by have f1 := (hS.cell (p := ⟨lb, lo, none⟩) hlb).trans hpw; go_simp⟩) hS ?_
  try simp only [Act.put, List.setIfInBounds_toArray, List.set_cons_zero, List.set_cons_succ]
  refine anyH_at (i := 5) (v := .int .i64 (p : Int)) 83 rfl (by kernel_rfl) (by kernel_rfl) (by kernel_rfl) (by kernel_rfl) (fun _ _ _ h => h) (Or.inl ⟨by kernel_rfl, fun W hS => by have f1 := hp8; go_simp⟩) hS ?_
  try simp only [Act.put, List.setIfInBounds_toArray, List.set_cons_zero, List.set_cons_succ]
  refine anyH_at (i := 6) (v := .slice (some ⟨lb, lo, none⟩) 9 lc) 84 rfl (by kernel_rfl) (by kernel_rfl) (by kernel_rfl) (by kernel_rfl) (fun _ _ _ h => h) (Or.inl ⟨by kernel_rfl, fun W hS => by go_simp⟩) hS ?_
  try simp only [Act.put, List.setIfInBounds_toArray, List.set_cons_zero, List.set_cons_succ]
  refine anyH_at (i := 7) (v := .slice (loA 1 (some ⟨lb, lo, none⟩) 1 lc) 8 (lc - 1)) 85 rfl (by kernel_rfl) (by kernel_rfl) (by kernel_rfl) (by kernel_rfl) (fun _ _ _ h => h) (Or.inl ⟨by kernel_rfl, fun W hS => by (go_simp; try simp [loA, Addr.add])⟩) hS ?_
  try simp only [Act.put, List.setIfInBounds_toArray, List.set_cons_zero, List.set_cons_succ]
  subst ho
  refine wpAnyH_all (rs := [1, 8]) (by kernel_rfl) (by simp) (AllReadyH.cons (i := 1) rfl (fun KK hK => ?_) (AllReadyH.cons (i := 8) rfl (fun KK hK => ?_) AllReadyH.nil))
  · rw [if_pos (by kernel_rfl)]
    have c2 := (show Blk _ _ _ _ from unhide HU).at 2 (.slice xo no co) rfl
    have hS1 := hide hS
    clear hS
    go_wp2_with fail
    clear c2
    refine hK.out _ _ (unhide hS1) (fun hS => ?_)
    clear hK hS1
    try simp only [Act.put, List.setIfInBounds_toArray, List.set_cons_zero, List.set_cons_succ]
    refine wpAnyH_all (rs := [8]) (by kernel_rfl) (by simp) (AllReadyH.cons (i := 8) rfl (fun KK hK => ?_) AllReadyH.nil)
    rw [if_pos (by kernel_rfl)]
    have hQ := hide (unhide H1 V0 hS)
    have hS1 := hide hS
    clear hS
    go_wp2_with fail
    refine (unhide hQ).mono ?_
    rintro r VV ⟨rfl, hVV⟩
    replace hVV := hVV.symm
    subst hVV
    clear hQ
    go_wp2_with fail
    refine hK.out _ _ (unhide hS1) (fun hS => ?_)
    clear hK hS1
    try simp only [Act.put, List.setIfInBounds_toArray, List.set_cons_zero, List.set_cons_succ]
    refine anyH_at (i := 9) (v := .int .i64 q) 87 rfl (by kernel_rfl) (by kernel_rfl) (by kernel_rfl) (by kernel_rfl) (fun _ _ _ h => h) (Or.inl ⟨by kernel_rfl, fun W hS => by have f1 := hq; go_simp⟩) hS ?_
    try simp only [Act.put, List.setIfInBounds_toArray, List.set_cons_zero, List.set_cons_succ]
    refine anyH_at (i := 10) (v := .agg #[.int .i64 (p : Int), .int .i64 q]) 88 rfl (by kernel_rfl) (by kernel_rfl) (by kernel_rfl) (by kernel_rfl) (fun _ _ _ h => h) (Or.inl ⟨by kernel_rfl, fun W hS => by have f1 := bd60 (p : Int) q W; go_simp⟩) hS ?_
    try simp only [Act.put, List.setIfInBounds_toArray, List.set_cons_zero, List.set_cons_succ]
    refine wpAnyH_all (rs := [11]) (by kernel_rfl) (by simp) (AllReadyH.cons (i := 11) rfl (fun KK hK => ?_) AllReadyH.nil)
    rw [if_pos (by kernel_rfl)]
    have hS1 := hide (below_via hS (below1 V0 (.cells #[.int .i64 (p : Int), .int .i64 q] 60)))
    have HRr := hide (one_row60 V0 (p : Int) q)
    replace HG := hide ((show OwnG _ _ _ _ _ _ from unhide HG).alloc (.cells #[.int .i64 (p : Int), .int .i64 q] 60))
    replace HU := hide ((show Blk _ _ _ _ from unhide HU).alloc (.cells #[.int .i64 (p : Int), .int .i64 q] 60))
    replace hBs := hide (Nat.le_trans (unhide hBs) (below1 V0 (.cells #[.int .i64 (p : Int), .int .i64 q] 60)).size)
    clear hS
    go_wp2_with fail
    refine hK.out _ _ (unhide hS1) (fun hS => ?_)
    clear hK hS1
    try simp only [Act.put, List.setIfInBounds_toArray, List.set_cons_zero, List.set_cons_succ]
    generalize V0.alloc (.cells #[.int .i64 (p : Int), .int .i64 q] 60) = VA at *
    generalize V0.heap.size = rb at *
    refine wpAnyH_all (rs := [12]) (by kernel_rfl) (by simp) (AllReadyH.cons (i := 12) rfl (fun KK hK => ?_) AllReadyH.nil)
    rw [if_pos (by kernel_rfl)]
    have hlen := hide (show l.length + [liL ((p : Int), q)].length ≤ 1000000 from unhide hl2)
    refine wp_pushO 60 22 2 16 (.agg #[.int .i64 0, .int .i64 0]) (by decide) (by decide) rfl Try.underlying22 info60 _ _ rfl B0 VA (.slice xo no co) (.slice (some ⟨rb, 0, none⟩) 1 1) l [liL ((p : Int), q)] (unhide HG) (unhide hBs) rfl rfl (unhide HRr) (by simp) (unhide hlen) ?_
    intro u3 V3 hg hgr hown
    obtain ⟨xu, nu, cu, rfl⟩ := hg.form
    have hS1 := hide (hS.grown hgr hS.size (fun g hg' => by have := hown g hg'; have := unhide hcb2; have := unhide hB2; omega))
    replace HU := hide (show Blk V3 cb #[.int .i64 a, .int .i64 b, .slice xo no co] 24 from (hgr.block cb (unhide HU).lt (fun e => by have := hown cb e.symm; have := unhide hB2; omega)).trans (unhide HU))
    replace hBs := hide (Nat.le_trans (unhide hBs) hgr.size)
    replace HG := hide hg
    clear hg hgr hown hS HRr hlen hl2
    refine hK.out _ _ (unhide hS1) (fun hS => ?_)
    clear hK hS1
    try simp only [Act.put, List.setIfInBounds_toArray, List.set_cons_zero, List.set_cons_succ]
    refine anyH_at (i := 13) (v := .pointer (some ⟨cb, 2, none⟩)) 91 rfl (by kernel_rfl) (by kernel_rfl) (by kernel_rfl) (by kernel_rfl) (fun _ _ _ h => h) (Or.inl ⟨by kernel_rfl, fun W hS => by go_simp⟩) hS ?_
    try simp only [Act.put, List.setIfInBounds_toArray, List.set_cons_zero, List.set_cons_succ]
    refine wpAnyH_all (rs := [14]) (by kernel_rfl) (by simp) (AllReadyH.cons (i := 14) rfl (fun KK hK => ?_) AllReadyH.nil)
    rw [if_pos (by kernel_rfl)]
    have c2 := (show Blk _ _ _ _ from unhide HU).at 2 (.slice xo no co) rfl
    have f2 := (show Blk _ _ _ _ from unhide HU).fz 2
    have hS1 := hide (hS.setCell (p := ⟨cb, 2, none⟩) (unhide hcb2) (.slice xu nu cu))
    have HU2 := hide (show Blk (V3.setCell ⟨cb, 2, none⟩ (.slice xu nu cu)) cb #[.int .i64 a, .int .i64 b, .slice xu nu cu] 24 from (unhide HU).set 2 (.slice xu nu cu))
    replace HG := hide ((show OwnG _ _ _ _ _ _ from unhide HG).set (j := 2) (u := .slice xu nu cu) (unhide hB2))
    replace hBs := hide (show B0 ≤ (V3.setCell ⟨cb, 2, none⟩ (.slice xu nu cu)).heap.size by have := unhide hBs; simpa using this)
    clear hS HU
    go_wp2_with fail
    clear c2 f2
    refine hK.out _ _ (unhide hS1) (fun hS => ?_)
    clear hK hS1
    try simp only [Act.put, List.setIfInBounds_toArray, List.set_cons_zero, List.set_cons_succ]
    refine wpAnyH_done (by kernel_rfl) ?_ _
    exact unhide H _ _ _ _ _ _ _ _ _ _ hS (unhide hBs) (unhide HU2) (unhide HG)
  · rw [if_pos (by kernel_rfl)]
    have hQ := hide (unhide H1 V0 hS)
    have hS1 := hide hS
    clear hS
    go_wp2_with fail
    refine (unhide hQ).mono ?_
    rintro r VV ⟨rfl, hVV⟩
    replace hVV := hVV.symm
    subst hVV
    clear hQ
    go_wp2_with fail
    refine hK.out _ _ (unhide hS1) (fun hS => ?_)
    clear hK hS1
    try simp only [Act.put, List.setIfInBounds_toArray, List.set_cons_zero, List.set_cons_succ]
    refine anyH_at (i := 9) (v := .int .i64 q) 87 rfl (by kernel_rfl) (by kernel_rfl) (by kernel_rfl) (by kernel_rfl) (fun _ _ _ h => h) (Or.inl ⟨by kernel_rfl, fun W hS => by have f1 := hq; go_simp⟩) hS ?_
    try simp only [Act.put, List.setIfInBounds_toArray, List.set_cons_zero, List.set_cons_succ]
    refine anyH_at (i := 10) (v := .agg #[.int .i64 (p : Int), .int .i64 q]) 88 rfl (by kernel_rfl) (by kernel_rfl) (by kernel_rfl) (by kernel_rfl) (fun _ _ _ h => h) (Or.inl ⟨by kernel_rfl, fun W hS => by have f1 := bd60 (p : Int) q W; go_simp⟩) hS ?_
    try simp only [Act.put, List.setIfInBounds_toArray, List.set_cons_zero, List.set_cons_succ]
    refine wpAnyH_all (rs := [1, 11]) (by kernel_rfl) (by simp) (AllReadyH.cons (i := 1) rfl (fun KK hK => ?_) (AllReadyH.cons (i := 11) rfl (fun KK hK => ?_) AllReadyH.nil))
    · rw [if_pos (by kernel_rfl)]
      have c2 := (show Blk _ _ _ _ from unhide HU).at 2 (.slice xo no co) rfl
      have hS1 := hide hS
      clear hS
      go_wp2_with fail
      clear c2
      refine hK.out _ _ (unhide hS1) (fun hS => ?_)
      clear hK hS1
      try simp only [Act.put, List.setIfInBounds_toArray, List.set_cons_zero, List.set_cons_succ]
      refine wpAnyH_all (rs := [11]) (by kernel_rfl) (by simp) (AllReadyH.cons (i := 11) rfl (fun KK hK => ?_) AllReadyH.nil)
      rw [if_pos (by kernel_rfl)]
      have hS1 := hide (below_via hS (below1 V0 (.cells #[.int .i64 (p : Int), .int .i64 q] 60)))
      have HRr := hide (one_row60 V0 (p : Int) q)
      replace HG := hide ((show OwnG _ _ _ _ _ _ from unhide HG).alloc (.cells #[.int .i64 (p : Int), .int .i64 q] 60))
      replace HU := hide ((show Blk _ _ _ _ from unhide HU).alloc (.cells #[.int .i64 (p : Int), .int .i64 q] 60))
      replace hBs := hide (Nat.le_trans (unhide hBs) (below1 V0 (.cells #[.int .i64 (p : Int), .int .i64 q] 60)).size)
      clear hS
      go_wp2_with fail
      refine hK.out _ _ (unhide hS1) (fun hS => ?_)
      clear hK hS1
      try simp only [Act.put, List.setIfInBounds_toArray, List.set_cons_zero, List.set_cons_succ]
      generalize V0.alloc (.cells #[.int .i64 (p : Int), .int .i64 q] 60) = VA at *
      generalize V0.heap.size = rb at *
      refine wpAnyH_all (rs := [12]) (by kernel_rfl) (by simp) (AllReadyH.cons (i := 12) rfl (fun KK hK => ?_) AllReadyH.nil)
      rw [if_pos (by kernel_rfl)]
      have hlen := hide (show l.length + [liL ((p : Int), q)].length ≤ 1000000 from unhide hl2)
      refine wp_pushO 60 22 2 16 (.agg #[.int .i64 0, .int .i64 0]) (by decide) (by decide) rfl Try.underlying22 info60 _ _ rfl B0 VA (.slice xo no co) (.slice (some ⟨rb, 0, none⟩) 1 1) l [liL ((p : Int), q)] (unhide HG) (unhide hBs) rfl rfl (unhide HRr) (by simp) (unhide hlen) ?_
      intro u3 V3 hg hgr hown
      obtain ⟨xu, nu, cu, rfl⟩ := hg.form
      have hS1 := hide (hS.grown hgr hS.size (fun g hg' => by have := hown g hg'; have := unhide hcb2; have := unhide hB2; omega))
      replace HU := hide (show Blk V3 cb #[.int .i64 a, .int .i64 b, .slice xo no co] 24 from (hgr.block cb (unhide HU).lt (fun e => by have := hown cb e.symm; have := unhide hB2; omega)).trans (unhide HU))
      replace hBs := hide (Nat.le_trans (unhide hBs) hgr.size)
      replace HG := hide hg
      clear hg hgr hown hS HRr hlen hl2
      refine hK.out _ _ (unhide hS1) (fun hS => ?_)
      clear hK hS1
      try simp only [Act.put, List.setIfInBounds_toArray, List.set_cons_zero, List.set_cons_succ]
      refine anyH_at (i := 13) (v := .pointer (some ⟨cb, 2, none⟩)) 91 rfl (by kernel_rfl) (by kernel_rfl) (by kernel_rfl) (by kernel_rfl) (fun _ _ _ h => h) (Or.inl ⟨by kernel_rfl, fun W hS => by go_simp⟩) hS ?_
      try simp only [Act.put, List.setIfInBounds_toArray, List.set_cons_zero, List.set_cons_succ]
      refine wpAnyH_all (rs := [14]) (by kernel_rfl) (by simp) (AllReadyH.cons (i := 14) rfl (fun KK hK => ?_) AllReadyH.nil)
      rw [if_pos (by kernel_rfl)]
      have c2 := (show Blk _ _ _ _ from unhide HU).at 2 (.slice xo no co) rfl
      have f2 := (show Blk _ _ _ _ from unhide HU).fz 2
      have hS1 := hide (hS.setCell (p := ⟨cb, 2, none⟩) (unhide hcb2) (.slice xu nu cu))
      have HU2 := hide (show Blk (V3.setCell ⟨cb, 2, none⟩ (.slice xu nu cu)) cb #[.int .i64 a, .int .i64 b, .slice xu nu cu] 24 from (unhide HU).set 2 (.slice xu nu cu))
      replace HG := hide ((show OwnG _ _ _ _ _ _ from unhide HG).set (j := 2) (u := .slice xu nu cu) (unhide hB2))
      replace hBs := hide (show B0 ≤ (V3.setCell ⟨cb, 2, none⟩ (.slice xu nu cu)).heap.size by have := unhide hBs; simpa using this)
      clear hS HU
      go_wp2_with fail
      clear c2 f2
      refine hK.out _ _ (unhide hS1) (fun hS => ?_)
      clear hK hS1
      try simp only [Act.put, List.setIfInBounds_toArray, List.set_cons_zero, List.set_cons_succ]
      refine wpAnyH_done (by kernel_rfl) ?_ _
      exact unhide H _ _ _ _ _ _ _ _ _ _ hS (unhide hBs) (unhide HU2) (unhide HG)
    · rw [if_pos (by kernel_rfl)]
      have hS1 := hide (below_via hS (below1 V0 (.cells #[.int .i64 (p : Int), .int .i64 q] 60)))
      have HRr := hide (one_row60 V0 (p : Int) q)
      replace HG := hide ((show OwnG _ _ _ _ _ _ from unhide HG).alloc (.cells #[.int .i64 (p : Int), .int .i64 q] 60))
      replace HU := hide ((show Blk _ _ _ _ from unhide HU).alloc (.cells #[.int .i64 (p : Int), .int .i64 q] 60))
      replace hBs := hide (Nat.le_trans (unhide hBs) (below1 V0 (.cells #[.int .i64 (p : Int), .int .i64 q] 60)).size)
      clear hS
      go_wp2_with fail
      refine hK.out _ _ (unhide hS1) (fun hS => ?_)
      clear hK hS1
      try simp only [Act.put, List.setIfInBounds_toArray, List.set_cons_zero, List.set_cons_succ]
      generalize V0.alloc (.cells #[.int .i64 (p : Int), .int .i64 q] 60) = VA at *
      generalize V0.heap.size = rb at *
      refine wpAnyH_all (rs := [1]) (by kernel_rfl) (by simp) (AllReadyH.cons (i := 1) rfl (fun KK hK => ?_) AllReadyH.nil)
      rw [if_pos (by kernel_rfl)]
      have c2 := (show Blk _ _ _ _ from unhide HU).at 2 (.slice xo no co) rfl
      have hS1 := hide hS
      clear hS
      go_wp2_with fail
      clear c2
      refine hK.out _ _ (unhide hS1) (fun hS => ?_)
      clear hK hS1
      try simp only [Act.put, List.setIfInBounds_toArray, List.set_cons_zero, List.set_cons_succ]
      refine wpAnyH_all (rs := [12]) (by kernel_rfl) (by simp) (AllReadyH.cons (i := 12) rfl (fun KK hK => ?_) AllReadyH.nil)
      rw [if_pos (by kernel_rfl)]
      have hlen := hide (show l.length + [liL ((p : Int), q)].length ≤ 1000000 from unhide hl2)
      refine wp_pushO 60 22 2 16 (.agg #[.int .i64 0, .int .i64 0]) (by decide) (by decide) rfl Try.underlying22 info60 _ _ rfl B0 VA (.slice xo no co) (.slice (some ⟨rb, 0, none⟩) 1 1) l [liL ((p : Int), q)] (unhide HG) (unhide hBs) rfl rfl (unhide HRr) (by simp) (unhide hlen) ?_
      intro u3 V3 hg hgr hown
      obtain ⟨xu, nu, cu, rfl⟩ := hg.form
      have hS1 := hide (hS.grown hgr hS.size (fun g hg' => by have := hown g hg'; have := unhide hcb2; have := unhide hB2; omega))
      replace HU := hide (show Blk V3 cb #[.int .i64 a, .int .i64 b, .slice xo no co] 24 from (hgr.block cb (unhide HU).lt (fun e => by have := hown cb e.symm; have := unhide hB2; omega)).trans (unhide HU))
      replace hBs := hide (Nat.le_trans (unhide hBs) hgr.size)
      replace HG := hide hg
      clear hg hgr hown hS HRr hlen hl2
      refine hK.out _ _ (unhide hS1) (fun hS => ?_)
      clear hK hS1
      try simp only [Act.put, List.setIfInBounds_toArray, List.set_cons_zero, List.set_cons_succ]
      refine anyH_at (i := 13) (v := .pointer (some ⟨cb, 2, none⟩)) 91 rfl (by kernel_rfl) (by kernel_rfl) (by kernel_rfl) (by kernel_rfl) (fun _ _ _ h => h) (Or.inl ⟨by kernel_rfl, fun W hS => by go_simp⟩) hS ?_
      try simp only [Act.put, List.setIfInBounds_toArray, List.set_cons_zero, List.set_cons_succ]
      refine wpAnyH_all (rs := [14]) (by kernel_rfl) (by simp) (AllReadyH.cons (i := 14) rfl (fun KK hK => ?_) AllReadyH.nil)
      rw [if_pos (by kernel_rfl)]
      have c2 := (show Blk _ _ _ _ from unhide HU).at 2 (.slice xo no co) rfl
      have f2 := (show Blk _ _ _ _ from unhide HU).fz 2
      have hS1 := hide (hS.setCell (p := ⟨cb, 2, none⟩) (unhide hcb2) (.slice xu nu cu))
      have HU2 := hide (show Blk (V3.setCell ⟨cb, 2, none⟩ (.slice xu nu cu)) cb #[.int .i64 a, .int .i64 b, .slice xu nu cu] 24 from (unhide HU).set 2 (.slice xu nu cu))
      replace HG := hide ((show OwnG _ _ _ _ _ _ from unhide HG).set (j := 2) (u := .slice xu nu cu) (unhide hB2))
      replace hBs := hide (show B0 ≤ (V3.setCell ⟨cb, 2, none⟩ (.slice xu nu cu)).heap.size by have := unhide hBs; simpa using this)
      clear hS HU
      go_wp2_with fail
      clear c2 f2
      refine hK.out _ _ (unhide hS1) (fun hS => ?_)
      clear hK hS1
      try simp only [Act.put, List.setIfInBounds_toArray, List.set_cons_zero, List.set_cons_succ]
      refine wpAnyH_done (by kernel_rfl) ?_ _
      exact unhide H _ _ _ _ _ _ _ _ _ _ hS (unhide hBs) (unhide HU2) (unhide HG)
end Go.Proofs.Ytfahgphkceilkaa
