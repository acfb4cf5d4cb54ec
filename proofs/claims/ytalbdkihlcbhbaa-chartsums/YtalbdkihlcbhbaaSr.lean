/- The drawn region of ChartSums, by itself. -/
import Derived.Test.YtalbdkihlcbhbaaLo
import Derived.Test.YtalbdkihlcbhbaaSp
import Derived.BigRegion
import Derived.Handy
import Derived.Deep.RegionHeld
import Derived.Deep.RegionHeld3
namespace Go.Proofs.Ytalbdkihlcbhbaa
open Go.RowKit
set_option linter.unusedVariables false
set_option linter.unusedSimpArgs false
theorem anyH_at {P : Program} {md : Region.Mode} {ops : Array Oper} {Q : Exit → Act → World → Prop} {S : World → Prop} {i : Nat} {oi : Oper} {v : Value} {fuel : Nat} {listed : Array Bool} {a : Act} {w : World} (d : Nat) (hi : ops[i]? = some oi) (hd : oi.dst = some d)
    (hs : Region.noSelect ops = true) (hf : Region.free md ops listed i = true) (hr : (Region.ready md ops listed).contains i = true)
    (hQ : ∀ c a w, Q (.panic c) (a.put (some d) v) w → Q (.panic c) a w) (hy : YieldsIf P ops S oi v a) (hS : S w)
    (h : wpAnyH P md ops Q S fuel (listed.setIfInBounds i true) (a.put (some d) v) w) : wpAnyH P md ops Q S (fuel + 1) listed a w := by
  rw [← hd] at h
  exact wpAnyH_take hi hs hf hr (by rw [hd]; exact hQ) hy hS h
/-- The region of that number. -/
def regionAt (n : Nat) : Code → Option Code
  | .region k o m => if k = n then some (.region k o m) else none
  | .seq a b => match regionAt n a with
    | some c => some c
    | none => regionAt n b
  | .cond _ a b => match regionAt n a with
    | some c => some c
    | none => regionAt n b
  | .block _ c => regionAt n c
  | .loop c => regionAt n c
  | .scope c => regionAt n c
  | _ => none
set_option maxRecDepth 20000 in
set_option maxHeartbeats 32000000 in
theorem sreg7 {Q : Exit → Act → World → Prop} {x1 x2 x3 x4 x6 x7 x8 x9 x10 x11 x12 x13 x14 x15 x16 x17 x18 x19 x20 x21 x22 x23 x24 x25 x26 x27 x28 x29 x30 x31 x32 x33 x34 x35 x36 x37 x38 x39 x40 x41 x42 x43 x44 x45 x46 x47 x48 x49 x50 x51 x52 x53 x54 x55 x56 x57 x58 x59 x60 x61 x62 x63 x64 x65 x66 x67 x68 x69 x70 x71 x72 x73 x74 x75 x76 x77 x78 x79 x80 x81 x82 x83 x84 x85 x86 x87 x88 x89 x90 x91 x92 x93 x94 x95 x96 x97 x98 x99 x100 x101 x102 x103 x104 x105 x106 x107 x108 x109 x110 x111 x112 x113 x114 x115 x116 x117 x118 x119 x120 x121 x122 x123 x124 x125 x126 x127 x128 x129 x130 x131 x132 x133 x134 x135 x136 x137 : Value} {V : World} {x : Option Addr} {n cap k : Nat} {l : List Li} (kn : (k : Int) ≤ (n : Int)) (kc : (k : Int) ≤ (cap : Int)) (hLo : Hid (RowG 2 V (.slice (loA x k cap) (n - k) (cap - k)) ((l.drop k).map liL))) (hHi : Hid (RowG 2 V (.slice x k cap) ((l.take k).map liL))) (hl1 : Hid ((l.drop k).length ≤ 10000)) (hl2 : Hid ((l.take k).length ≤ 10000)) (hle2 : Hid (((l.drop k).map liL).length + ((l.take k).map liL).length ≤ 1000000)) (hle3 : Hid ((l.drop k ++ l.take k).length ≤ 1000)) (hin : Hid (AllIn (l.drop k ++ l.take k)))
    (h : ∀ (ulo uhi ub t : Value) (W : World), RowG 2 W t ((netL (l.drop k ++ l.take k)).map liL) → Below V.heap.size V W → Q .normal ⟨List.toArray ((.slice x n cap : Value) :: x1 :: x2 :: x3 :: x4 :: (.int .i64 (k : Int) : Value) :: x6 :: x7 :: t :: (.int .i64 (netE (l.drop k ++ l.take k)) : Value) :: x10 :: x11 :: x12 :: x13 :: x14 :: x15 :: x16 :: x17 :: x18 :: x19 :: x20 :: x21 :: x22 :: x23 :: x24 :: x25 :: x26 :: x27 :: x28 :: x29 :: x30 :: x31 :: x32 :: x33 :: x34 :: x35 :: x36 :: x37 :: (.tuple #[t, .int .i64 (netE (l.drop k ++ l.take k))] : Value) :: (.slice x n cap : Value) :: (.int .i64 (k : Int) : Value) :: (.slice (loA x k cap) (n - k) (cap - k) : Value) :: ulo :: (.slice x n cap : Value) :: (.int .i64 (k : Int) : Value) :: (.slice x k cap : Value) :: uhi :: ub :: (.tuple #[t, .int .i64 (netE (l.drop k ++ l.take k))] : Value) :: t :: (.int .i64 (netE (l.drop k ++ l.take k)) : Value) :: x51 :: x52 :: x53 :: x54 :: x55 :: x56 :: x57 :: x58 :: x59 :: x60 :: x61 :: x62 :: x63 :: x64 :: x65 :: x66 :: x67 :: x68 :: x69 :: x70 :: x71 :: x72 :: x73 :: x74 :: x75 :: x76 :: x77 :: x78 :: x79 :: x80 :: x81 :: x82 :: x83 :: x84 :: x85 :: x86 :: x87 :: x88 :: x89 :: x90 :: x91 :: x92 :: x93 :: x94 :: x95 :: x96 :: x97 :: x98 :: x99 :: x100 :: x101 :: x102 :: x103 :: x104 :: x105 :: x106 :: x107 :: x108 :: x109 :: x110 :: x111 :: x112 :: x113 :: x114 :: x115 :: x116 :: x117 :: x118 :: x119 :: x120 :: x121 :: x122 :: x123 :: x124 :: x125 :: x126 :: x127 :: x128 :: x129 :: x130 :: x131 :: x132 :: x133 :: x134 :: x135 :: x136 :: x137 :: []), []⟩ W) :
    Code.wp Try.prog ((Try.f6.body.bind (regionAt 7)).getD .skip) Q ⟨List.toArray ((.slice x n cap : Value) :: x1 :: x2 :: x3 :: x4 :: (.int .i64 (k : Int) : Value) :: x6 :: x7 :: x8 :: x9 :: x10 :: x11 :: x12 :: x13 :: x14 :: x15 :: x16 :: x17 :: x18 :: x19 :: x20 :: x21 :: x22 :: x23 :: x24 :: x25 :: x26 :: x27 :: x28 :: x29 :: x30 :: x31 :: x32 :: x33 :: x34 :: x35 :: x36 :: x37 :: x38 :: x39 :: x40 :: x41 :: x42 :: x43 :: x44 :: x45 :: x46 :: x47 :: x48 :: x49 :: x50 :: x51 :: x52 :: x53 :: x54 :: x55 :: x56 :: x57 :: x58 :: x59 :: x60 :: x61 :: x62 :: x63 :: x64 :: x65 :: x66 :: x67 :: x68 :: x69 :: x70 :: x71 :: x72 :: x73 :: x74 :: x75 :: x76 :: x77 :: x78 :: x79 :: x80 :: x81 :: x82 :: x83 :: x84 :: x85 :: x86 :: x87 :: x88 :: x89 :: x90 :: x91 :: x92 :: x93 :: x94 :: x95 :: x96 :: x97 :: x98 :: x99 :: x100 :: x101 :: x102 :: x103 :: x104 :: x105 :: x106 :: x107 :: x108 :: x109 :: x110 :: x111 :: x112 :: x113 :: x114 :: x115 :: x116 :: x117 :: x118 :: x119 :: x120 :: x121 :: x122 :: x123 :: x124 :: x125 :: x126 :: x127 :: x128 :: x129 :: x130 :: x131 :: x132 :: x133 :: x134 :: x135 :: x136 :: x137 :: []), []⟩ V := by
  have H := hide h
  clear h
  conv => arg 2; whnf
  refine wp_region_noPanic ?_
  refine wp_region_held_drew (S := fun W => Below V.heap.size V W) (by kernel_rfl) (Below.refl _ _).drew (fun hS => ?_)
  generalize hV : V.drew = V0 at *
  clear hV
  refine anyH_at (i := 0) (v := .slice x n cap) 39 rfl (by kernel_rfl) (by kernel_rfl) (by kernel_rfl) (by kernel_rfl) (fun _ _ _ h => h) (Or.inl ⟨by kernel_rfl, fun W hS => by go_simp⟩) hS ?_
  try simp only [Act.put, List.setIfInBounds_toArray, List.set_cons_zero, List.set_cons_succ]
  refine anyH_at (i := 1) (v := .int .i64 (k : Int)) 40 rfl (by kernel_rfl) (by kernel_rfl) (by kernel_rfl) (by kernel_rfl) (fun _ _ _ h => h) (Or.inl ⟨by kernel_rfl, fun W hS => by go_simp⟩) hS ?_
  try simp only [Act.put, List.setIfInBounds_toArray, List.set_cons_zero, List.set_cons_succ]
  refine anyH_at (i := 2) (v := .slice (loA x k cap) (n - k) (cap - k)) 41 rfl (by kernel_rfl) (by kernel_rfl) (by kernel_rfl) (by kernel_rfl) (fun _ _ _ h => h) (Or.inl ⟨by kernel_rfl, fun W hS => by have f1 := sl_lo x n cap k kn W; go_simp⟩) hS ?_
  try simp only [Act.put, List.setIfInBounds_toArray, List.set_cons_zero, List.set_cons_succ]
  refine anyH_at (i := 4) (v := .slice x n cap) 43 rfl (by kernel_rfl) (by kernel_rfl) (by kernel_rfl) (by kernel_rfl) (fun _ _ _ h => h) (Or.inl ⟨by kernel_rfl, fun W hS => by go_simp⟩) hS ?_
  try simp only [Act.put, List.setIfInBounds_toArray, List.set_cons_zero, List.set_cons_succ]
  refine anyH_at (i := 5) (v := .int .i64 (k : Int)) 44 rfl (by kernel_rfl) (by kernel_rfl) (by kernel_rfl) (by kernel_rfl) (fun _ _ _ h => h) (Or.inl ⟨by kernel_rfl, fun W hS => by go_simp⟩) hS ?_
  try simp only [Act.put, List.setIfInBounds_toArray, List.set_cons_zero, List.set_cons_succ]
  refine anyH_at (i := 6) (v := .slice x k cap) 45 rfl (by kernel_rfl) (by kernel_rfl) (by kernel_rfl) (by kernel_rfl) (fun _ _ _ h => h) (Or.inl ⟨by kernel_rfl, fun W hS => by have f1 := sl_hi x n cap k kc W; go_simp⟩) hS ?_
  try simp only [Act.put, List.setIfInBounds_toArray, List.set_cons_zero, List.set_cons_succ]
  refine wpAnyH_all (rs := [3]) (by kernel_rfl) (by simp) (AllReadyH.cons (i := 3) rfl (fun KK hK => ?_) AllReadyH.nil)
  rw [if_pos (by kernel_rfl)]
  have HQ := hide (to_any _ _ V0 ((show RowG _ _ _ _ from unhide hLo).keep hS) (unhide hl1))
  have hzGlo := hide hS.size
  have hS1 := hide hS
  clear hS
  go_wp2_with fail
  refine (unhide HQ).mono ?_
  rintro e Z1 ⟨uGlo, rfl, hg⟩
  have hb := hg.below
  have Glo := hide hg
  clear hg HQ
  have hS2 := hide (below_via (unhide hS1) hb)
  clear hS1 hb
  go_wp2_with fail
  refine hK.out _ _ (unhide hS2) (fun hS => ?_)
  clear hK hS2
  try simp only [Act.put, List.setIfInBounds_toArray, List.set_cons_zero, List.set_cons_succ]
  refine wpAnyH_all (rs := [7]) (by kernel_rfl) (by simp) (AllReadyH.cons (i := 7) rfl (fun KK hK => ?_) AllReadyH.nil)
  rw [if_pos (by kernel_rfl)]
  have HQ := hide (to_any _ _ Z1 ((show RowG _ _ _ _ from unhide hHi).keep hS) (unhide hl2))
  have hzGhi := hide hS.size
  have hS1 := hide hS
  clear hS
  go_wp2_with fail
  refine (unhide HQ).mono ?_
  rintro e Z2 ⟨uGhi, rfl, hg⟩
  have hb := hg.below
  have Ghi := hide hg
  clear hg HQ
  replace Glo := hide ((show GrowG _ _ _ _ _ _ from unhide Glo).keep hb)
  have hS2 := hide (below_via (unhide hS1) hb)
  clear hS1 hb
  go_wp2_with fail
  refine hK.out _ _ (unhide hS2) (fun hS => ?_)
  clear hK hS2
  try simp only [Act.put, List.setIfInBounds_toArray, List.set_cons_zero, List.set_cons_succ]
  refine wpAnyH_all (rs := [8]) (by kernel_rfl) (by simp) (AllReadyH.cons (i := 8) rfl (fun KK hK => ?_) AllReadyH.nil)
  rw [if_pos (by kernel_rfl)]
  have hS1 := hide hS
  clear hS
  have HR2 := hide (show GrowG _ _ _ _ _ _ from unhide Ghi).row
  refine wp_pushA 44 25 2 16 (.agg #[.int .i64 0, .int .i64 0]) (by decide) (by decide) rfl Try.underlying25 info44 _ _ rfl _ Z2 uGlo uGhi ((l.drop k).map liL) ((l.take k).map liL) (show GrowG _ _ _ _ _ _ from unhide Glo) rfl rfl (show RowG _ _ _ _ from unhide HR2) (unhide hle2) ?_
  intro ub Y1 hg hgr
  have GB := hide (show RowG 2 Y1 ub ((l.drop k ++ l.take k).map liL) by rw [List.map_append]; exact hg.row)
  have hS2 := hide ((unhide hS1).grown hgr (unhide hS1).size (fun j hj => Nat.le_trans (unhide hzGlo) ((show GrowG _ _ _ _ _ _ from unhide Glo).owns.lt j hj).1))
  clear hS1 hgr hg HR2
  refine hK.out _ _ (unhide hS2) (fun hS => ?_)
  clear hK hS2
  try simp only [Act.put, List.setIfInBounds_toArray, List.set_cons_zero, List.set_cons_succ]
  refine wpAnyH_all (rs := [9]) (by kernel_rfl) (by simp) (AllReadyH.cons (i := 9) rfl (fun KK hK => ?_) AllReadyH.nil)
  rw [if_pos (by kernel_rfl)]
  have HQ := hide (net_any _ _ Y1 (unhide GB) (unhide hle3) (unhide hin))
  have hS1 := hide hS
  clear hS
  go_wp2_with fail
  refine (unhide HQ).mono ?_
  rintro e Y2 ⟨t, rfl, hg⟩
  have GT := hide hg.row
  have hS2 := hide (below_via (unhide hS1) hg.below)
  clear hg HQ hS1
  go_wp2_with fail
  refine hK.out _ _ (unhide hS2) (fun hS => ?_)
  clear hK hS2
  try simp only [Act.put, List.setIfInBounds_toArray, List.set_cons_zero, List.set_cons_succ]
  refine anyH_at (i := 10) (v := .tuple #[t, .int .i64 (netE (l.drop k ++ l.take k))]) 38 rfl (by kernel_rfl) (by kernel_rfl) (by kernel_rfl) (by kernel_rfl) (fun _ _ _ h => h) (Or.inl ⟨by kernel_rfl, fun W hS => by go_simp⟩) hS ?_
  try simp only [Act.put, List.setIfInBounds_toArray, List.set_cons_zero, List.set_cons_succ]
  refine anyH_at (i := 11) (v := t) 49 rfl (by kernel_rfl) (by kernel_rfl) (by kernel_rfl) (by kernel_rfl) (fun _ _ _ h => h) (Or.inl ⟨by kernel_rfl, fun W hS => by go_simp⟩) hS ?_
  try simp only [Act.put, List.setIfInBounds_toArray, List.set_cons_zero, List.set_cons_succ]
  refine anyH_at (i := 12) (v := .int .i64 (netE (l.drop k ++ l.take k))) 50 rfl (by kernel_rfl) (by kernel_rfl) (by kernel_rfl) (by kernel_rfl) (fun _ _ _ h => h) (Or.inl ⟨by kernel_rfl, fun W hS => by go_simp⟩) hS ?_
  try simp only [Act.put, List.setIfInBounds_toArray, List.set_cons_zero, List.set_cons_succ]
  refine wpAnyH_all (rs := [13]) (by kernel_rfl) (by simp) (AllReadyH.cons (i := 13) rfl (fun KK hK => ?_) AllReadyH.nil)
  rw [if_pos (by kernel_rfl)]
  have hS1 := hide hS
  clear hS
  go_wp2_with fail
  refine hK.out _ _ (unhide hS1) (fun hS => ?_)
  clear hK hS1
  try simp only [Act.put, List.setIfInBounds_toArray, List.set_cons_zero, List.set_cons_succ]
  refine wpAnyH_all (rs := [14]) (by kernel_rfl) (by simp) (AllReadyH.cons (i := 14) rfl (fun KK hK => ?_) AllReadyH.nil)
  rw [if_pos (by kernel_rfl)]
  have hS1 := hide hS
  clear hS
  go_wp2_with fail
  refine hK.out _ _ (unhide hS1) (fun hS => ?_)
  clear hK hS1
  try simp only [Act.put, List.setIfInBounds_toArray, List.set_cons_zero, List.set_cons_succ]
  refine wpAnyH_done (by kernel_rfl) ?_ _
  exact NoPanic.normal (unhide H uGlo uGhi ub t _ (unhide GT) hS)
end Go.Proofs.Ytalbdkihlcbhbaa
