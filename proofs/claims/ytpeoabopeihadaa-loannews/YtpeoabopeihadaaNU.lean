/- The drawn region of LoanNews, by itself. -/
import Derived.Test.YtpeoabopeihadaaND
import Derived.Test.YtpeoabopeihadaaNS
import Derived.Test.YtpeoabopeihadaaNL
import Derived.BigRegion
import Derived.Handy
import Derived.Deep.RegionHeld
import Derived.Deep.RegionHeld3
import Derived.Test.YtpeoabopeihadaaNT
set_option linter.unusedVariables false
set_option linter.unusedSimpArgs false
set_option linter.unusedSectionVars false
set_option maxHeartbeats 16000000
namespace Go.Proofs.Ytpeoabopeihadaa.Mn
open Go.RowKit
attribute [local simp] Tri.typeInfo Tri.sizeOf Tri.underlying Tri.runUnderlying Tri.isAgg Tri.zeroValue Tri.depth Tri.stoodInHeld Tri.eqGuardType Tri.call15 Tri.call16 Tri.call26 Tri.call27 Tri.call28 Tri.call29 Tri.call30 Tri.call31 Tri.call46 Tri.call49 Tri.call50 Tri.call51 Tri.call52 Tri.call53 Tri.call54 Tri.call65 Tri.call66 Tri.call68 Tri.call69 Tri.call70 Tri.call71 Tri.call72 Tri.call73 Tri.call74 Tri.call75 Tri.call82 Tri.call84 Tri.call85 Tri.call86 Tri.call95 Tri.call101 Tri.call106 Tri.call107 Tri.call116 Tri.call117 Tri.call118 Tri.call119 Tri.call120 Tri.call122 Tri.call123 Tri.call124 Tri.call125 Tri.call126 Tri.call135 Tri.call137 Tri.call143 Tri.call144 Tri.call145 Tri.call146 Tri.call147 Tri.call149 Tri.call150 Tri.call151 Tri.call152 Tri.call156 Tri.call157 Tri.call159 Tri.call160 Tri.call161 Tri.call162 Tri.call163 Tri.call164 Tri.call165 Tri.call166 Tri.call167 Tri.call175 Tri.call176 Tri.call178 Tri.call179 Tri.call180 Tri.call181 Tri.call182 Tri.call183 Tri.call186 Tri.call187 Tri.call188 Tri.call205
theorem anyH_atT {P : Program} {md : Region.Mode} {ops : Array Oper} {Q : Exit → Act → World → Prop} {S : World → Prop} {i : Nat} {oi : Oper} {v : Value} {fuel : Nat} {listed : Array Bool} {a : Act} {w : World} (d : Nat) (hi : ops[i]? = some oi) (hd : oi.dst = some d)
  (hs : Region.noSelect ops = true) (hf : Region.free md ops listed i = true) (hr : (Region.ready md ops listed).contains i = true)
  (hQ : ∀ c a w, Q (.panic c) (a.put (some d) v) w → Q (.panic c) a w) (hy : YieldsIf P ops S oi v a) (hS : S w)
  (h : wpAnyH P md ops Q S fuel (listed.setIfInBounds i true) (a.put (some d) v) w) : wpAnyH P md ops Q S (fuel + 1) listed a w := by
 rw [← hd] at h
 exact wpAnyH_take hi hs hf hr (by rw [hd]; exact hQ) hy hS h
theorem yl_blkT {ops : Array Oper} {S : World → Prop} {op : Oper} {a : Act} (hw : Region.wanted op (yielded ops a.tmps) = true) (ty : TypeId) (x : Operand) (ho : op.op = .load ty x) {b : Nat} {cs : Array Value} {T : TypeId} (hx : a.eval x = .pointer (some ⟨b, 0, none⟩)) (hS : ∀ W, S W → Blk W b cs T) (hr : isRowB (Tri Try.prog) ty = true) {n : Nat} (hi : ((Tri Try.prog).info? ty).map (·.size) = some n) (hn : cs.size = n) : YieldsIf (Tri Try.prog) ops S op (.agg cs) a := by
 unfold isRowB at hr
 split at hr
 ·next d hu => exact yieldsIf_load_mid hw ty x ho b 0 hx cs.toList d (fun W h => (hS W h).range) hu hr (by rw [hi, ← hn]; simp)
 ·cases hr
def regionAtT (n : Nat) : Code → Option Code
 | .region k o m => if k = n then some (.region k o m) else none
 | .seq a b => match regionAtT n a with
  | some c => some c
  | none => regionAtT n b
 | .cond _ a b => match regionAtT n a with
  | some c => some c
  | none => regionAtT n b
 | .block _ c => regionAtT n c
 | .loop c => regionAtT n c
 | .scope c => regionAtT n c
 | _ => none
set_option maxRecDepth 20000 in
theorem lnreg {Q : Exit → Act → World → Prop} {x0 x1 x2 x3 x4 x5 x6 x7 x12 x13 x14 x15 x16 x17 x18 x19 x20 x21 x22 x23 x24 x25 x26 x27 x28 x29 x30 x31 x32 x33 x34 x35 x36 x37 x38 x39 x40 x41 x42 x43 x44 x45 x46 x47 x48 x49 x50 x51 x52 x53 x54 x55 x56 x57 x58 x59 : Value} {V : World} {lb mb n' c' c'' : Nat} {a' a'' : Option Addr} {K : Ln} {l : List Int} {E : Int} {B : Bool} (hE : (E == E) = true) (hB : (E == 0) = B) (hBB : (B == B) = true) (HK : Hid (Blk V lb (lnA K (.slice a' n' c')) 53)) (HM : Hid (Blk V mb (lnA K (.slice a'' n' c'')) 56)) (H1 : Hid (Row V (.slice a' n' c') l)) (H2 : Hid (Row V (.slice a'' n' c'') l)) (hl : Hid (l.length ≤ 1000000)) (hR : Hid (rightB K l = B))
  (h : ∀ (W : World), Below V.heap.size V W → Q .normal ⟨List.toArray (x0 :: x1 :: x2 :: x3 :: x4 :: x5 :: (.bool true : Value) :: x7 :: (.pointer (some ⟨lb, 0, none⟩) : Value) :: (.int .i64 E : Value) :: (.pointer (some ⟨mb, 0, none⟩) : Value) :: (.int .i64 E : Value) :: x12 :: x13 :: x14 :: x15 :: x16 :: x17 :: x18 :: x19 :: x20 :: x21 :: x22 :: x23 :: x24 :: x25 :: x26 :: x27 :: x28 :: x29 :: x30 :: x31 :: x32 :: x33 :: x34 :: x35 :: x36 :: x37 :: x38 :: x39 :: x40 :: x41 :: x42 :: x43 :: (.agg (lnA K (.slice a' n' c')) : Value) :: (.agg (lnA K (.slice a' n' c')) : Value) :: (.agg (lnA K (.slice a'' n' c'')) : Value) :: (.bool true : Value) :: (.bool true : Value) :: (.int .i64 E : Value) :: (.int .i64 E : Value) :: (.bool true : Value) :: (.bool true : Value) :: (.bool true : Value) :: (.agg (lnA K (.slice a' n' c')) : Value) :: (.bool B : Value) :: (.int .i64 E : Value) :: (.bool B : Value) :: (.bool true : Value) :: (.bool true : Value) :: []), []⟩ W) :
  Code.wp (Tri Try.prog) ((Try.f6.body.bind (regionAtT 13)).getD .skip) Q ⟨List.toArray (x0 :: x1 :: x2 :: x3 :: x4 :: x5 :: x6 :: x7 :: (.pointer (some ⟨lb, 0, none⟩) : Value) :: (.int .i64 E : Value) :: (.pointer (some ⟨mb, 0, none⟩) : Value) :: (.int .i64 E : Value) :: x12 :: x13 :: x14 :: x15 :: x16 :: x17 :: x18 :: x19 :: x20 :: x21 :: x22 :: x23 :: x24 :: x25 :: x26 :: x27 :: x28 :: x29 :: x30 :: x31 :: x32 :: x33 :: x34 :: x35 :: x36 :: x37 :: x38 :: x39 :: x40 :: x41 :: x42 :: x43 :: x44 :: x45 :: x46 :: x47 :: x48 :: x49 :: x50 :: x51 :: x52 :: x53 :: x54 :: x55 :: x56 :: x57 :: x58 :: x59 :: []), []⟩ V := by
 have H := hide h
 clear h
 conv => arg 2; whnf
 refine wp_region_noPanic ?_
 refine wp_region_held_drew (S := fun W => Below V.heap.size V W) (by kernel_rfl) (Below.refl _ _).drew (fun hS => ?_)
 generalize hV : V.drew = V0 at *
 clear hV
 refine anyH_atT (i := 0) (v := .agg (lnA K (.slice a' n' c'))) 44 rfl (by kernel_rfl) (by kernel_rfl) (by kernel_rfl) (by kernel_rfl) (fun _ _ _ h => h) (yl_blkT (by kernel_rfl) 53 _ rfl rfl (fun W hS => (show Blk _ _ _ _ from uh HK).keep hS) row53 size53 rfl) hS ?_
 try simp only [Act.put, List.setIfInBounds_toArray, List.set_cons_zero, List.set_cons_succ]
 refine anyH_atT (i := 2) (v := .agg (lnA K (.slice a'' n' c''))) 46 rfl (by kernel_rfl) (by kernel_rfl) (by kernel_rfl) (by kernel_rfl) (fun _ _ _ h => h) (yl_blkT (by kernel_rfl) 56 _ rfl rfl (fun W hS => (show Blk _ _ _ _ from uh HM).keep hS) row56n size56n rfl) hS ?_
 try simp only [Act.put, List.setIfInBounds_toArray, List.set_cons_zero, List.set_cons_succ]
 refine wpAnyH_all (rs := [1]) (by kernel_rfl) (by simp) (AllReadyH.cons (i := 1) rfl (fun KK hK => ?_) AllReadyH.nil)
 rw [if_pos (by kernel_rfl)]
 have HQ := hide (from_any K a' n' c' V0)
 have hS1 := hide hS
 clear hS
 go_wp2_with fail
 refine (uh HQ).mono ?_
 rintro e w' ⟨rfl, hb⟩
 have hS2 := hide (below_via (uh hS1) hb)
 clear hb hS1 HQ
 go_wp2_with fail
 refine hK.out _ _ (uh hS2) (fun hS => ?_)
 clear hK hS2
 try simp only [Act.put, List.setIfInBounds_toArray, List.set_cons_zero, List.set_cons_succ]
 refine wpAnyH_all (rs := [3]) (by kernel_rfl) (by simp) (AllReadyH.cons (i := 3) rfl (fun KK hK => ?_) AllReadyH.nil)
 rw [if_pos (by kernel_rfl)]
 have HQ := hide (same2_any (L := K) (uh hl) ((uh H1).below hS (Nat.le_refl _)) ((uh H2).below hS (Nat.le_refl _)))
 have hS1 := hide hS
 clear hS
 go_wp2_with fail
 refine (uh HQ).mono ?_
 rintro e w2 ⟨rfl, hb⟩
 have hS2 := hide (below_via (uh hS1) hb)
 clear hb hS1 HQ
 go_wp2_with fail
 refine hK.out _ _ (uh hS2) (fun hS => ?_)
 clear hK hS2
 try simp only [Act.put, List.setIfInBounds_toArray, List.set_cons_zero, List.set_cons_succ]
 refine anyH_atT (i := 4) (v := .bool true) 48 rfl (by kernel_rfl) (by kernel_rfl) (by kernel_rfl) (by kernel_rfl) (fun _ _ _ h => h) (Or.inl ⟨by kernel_rfl, fun W hS => by go_simp⟩) hS ?_
 try simp only [Act.put, List.setIfInBounds_toArray, List.set_cons_zero, List.set_cons_succ]
 refine anyH_atT (i := 5) (v := .int .i64 E) 49 rfl (by kernel_rfl) (by kernel_rfl) (by kernel_rfl) (by kernel_rfl) (fun _ _ _ h => h) (Or.inl ⟨by kernel_rfl, fun W hS => by go_simp⟩) hS ?_
 try simp only [Act.put, List.setIfInBounds_toArray, List.set_cons_zero, List.set_cons_succ]
 refine anyH_atT (i := 6) (v := .int .i64 E) 50 rfl (by kernel_rfl) (by kernel_rfl) (by kernel_rfl) (by kernel_rfl) (fun _ _ _ h => h) (Or.inl ⟨by kernel_rfl, fun W hS => by go_simp⟩) hS ?_
 try simp only [Act.put, List.setIfInBounds_toArray, List.set_cons_zero, List.set_cons_succ]
 refine anyH_atT (i := 7) (v := .bool true) 51 rfl (by kernel_rfl) (by kernel_rfl) (by kernel_rfl) (by kernel_rfl) (fun _ _ _ h => h) (Or.inl ⟨by kernel_rfl, fun W hS => by have f1 := hE; go_simp⟩) hS ?_
 try simp only [Act.put, List.setIfInBounds_toArray, List.set_cons_zero, List.set_cons_succ]
 refine anyH_atT (i := 8) (v := .bool true) 52 rfl (by kernel_rfl) (by kernel_rfl) (by kernel_rfl) (by kernel_rfl) (fun _ _ _ h => h) (Or.inl ⟨by kernel_rfl, fun W hS => by go_simp⟩) hS ?_
 try simp only [Act.put, List.setIfInBounds_toArray, List.set_cons_zero, List.set_cons_succ]
 refine anyH_atT (i := 9) (v := .bool true) 53 rfl (by kernel_rfl) (by kernel_rfl) (by kernel_rfl) (by kernel_rfl) (fun _ _ _ h => h) (Or.inl ⟨by kernel_rfl, fun W hS => by go_simp⟩) hS ?_
 try simp only [Act.put, List.setIfInBounds_toArray, List.set_cons_zero, List.set_cons_succ]
 refine anyH_atT (i := 10) (v := .agg (lnA K (.slice a' n' c'))) 54 rfl (by kernel_rfl) (by kernel_rfl) (by kernel_rfl) (by kernel_rfl) (fun _ _ _ h => h) (yl_blkT (by kernel_rfl) 53 _ rfl rfl (fun W hS => (show Blk _ _ _ _ from uh HK).keep hS) row53 size53 rfl) hS ?_
 try simp only [Act.put, List.setIfInBounds_toArray, List.set_cons_zero, List.set_cons_succ]
 refine anyH_atT (i := 12) (v := .int .i64 E) 56 rfl (by kernel_rfl) (by kernel_rfl) (by kernel_rfl) (by kernel_rfl) (fun _ _ _ h => h) (Or.inl ⟨by kernel_rfl, fun W hS => by go_simp⟩) hS ?_
 try simp only [Act.put, List.setIfInBounds_toArray, List.set_cons_zero, List.set_cons_succ]
 refine anyH_atT (i := 13) (v := .bool B) 57 rfl (by kernel_rfl) (by kernel_rfl) (by kernel_rfl) (by kernel_rfl) (fun _ _ _ h => h) (Or.inl ⟨by kernel_rfl, fun W hS => by have f1 := hB; go_simp⟩) hS ?_
 try simp only [Act.put, List.setIfInBounds_toArray, List.set_cons_zero, List.set_cons_succ]
 refine wpAnyH_all (rs := [11]) (by kernel_rfl) (by simp) (AllReadyH.cons (i := 11) rfl (fun KK hK => ?_) AllReadyH.nil)
 rw [if_pos (by kernel_rfl)]
 have HQ := hide (right_any K a' n' c' l _ ((uh H1).below hS (Nat.le_refl _)))
 unfold Tells at HQ
 rw [uh hR] at HQ
 have hS1 := hide hS
 clear hS
 go_wp2_with fail
 refine (uh HQ).mono ?_
 rintro e w3 ⟨rfl, hb⟩
 have hS2 := hide (below_via (uh hS1) hb)
 clear hb hS1 HQ
 go_wp2_with fail
 refine hK.out _ _ (uh hS2) (fun hS => ?_)
 clear hK hS2
 try simp only [Act.put, List.setIfInBounds_toArray, List.set_cons_zero, List.set_cons_succ]
 refine anyH_atT (i := 14) (v := .bool true) 58 rfl (by kernel_rfl) (by kernel_rfl) (by kernel_rfl) (by kernel_rfl) (fun _ _ _ h => h) (Or.inl ⟨by kernel_rfl, fun W hS => by have f1 := hBB; go_simp⟩) hS ?_
 try simp only [Act.put, List.setIfInBounds_toArray, List.set_cons_zero, List.set_cons_succ]
 refine anyH_atT (i := 15) (v := .bool true) 59 rfl (by kernel_rfl) (by kernel_rfl) (by kernel_rfl) (by kernel_rfl) (fun _ _ _ h => h) (Or.inl ⟨by kernel_rfl, fun W hS => by go_simp⟩) hS ?_
 try simp only [Act.put, List.setIfInBounds_toArray, List.set_cons_zero, List.set_cons_succ]
 refine wpAnyH_all (rs := [16]) (by kernel_rfl) (by simp) (AllReadyH.cons (i := 16) rfl (fun KK hK => ?_) AllReadyH.nil)
 rw [if_pos (by kernel_rfl)]
 have hS1 := hide hS
 clear hS
 go_wp2_with fail
 refine hK.out _ _ (uh hS1) (fun hS => ?_)
 clear hK hS1
 try simp only [Act.put, List.setIfInBounds_toArray, List.set_cons_zero, List.set_cons_succ]
 refine wpAnyH_done (by kernel_rfl) ?_ _
 exact NoPanic.normal (uh H _ hS)
def NewsL (w : World) (id out : Int) (v : Value) : Prop := Calls (Tri Try.prog) 6 #[.int .i64 id, .int .i64 out, v] w fun z w' => z = .returned (.bool true) ∧ Below w.heap.size w w'
def ln0 : Ln := ⟨0, 0, 0, 0, 0, 0, 0, 0, 0, 0, 0, 0⟩
theorem right0 : rightB ln0 [] = false := by decide
theorem row0 (w : World) : Row w (.slice none 0 0) [] := .inl ⟨none, 0, rfl, rfl⟩
theorem ln_long (id out : Int) (a : Option Addr) (n c : Nat) (w : World) (t0 : decide ((60 : Int) < (n : Int)) = true) : NewsL w id out (.slice a n c) := by
 unfold NewsL
 have HA := hide aliveL
 unfold AliveL at HA
 go_enter (Tri.at (by decide) Try.func6), Try.ntmps6
 go_wp2_with fail
 refine (uh HA _).mono ?_
 rintro z w1 ⟨rfl, hb⟩
 have HB := hide hb
 clear HA hb
 go_wp2_with fail
 go_ret
 exact ⟨rfl, uh HB⟩
structure Same2 (w0 W : World) (g0 : Nat) (lb mb n' c' c'' : Nat) (a' a'' : Option Addr) (K : Ln) (l : List Int) : Prop where
 kb : Blk W lb (lnA K (.slice a' n' c')) 53
 mbk : Blk W mb (lnA K (.slice a'' n' c'')) 56
 r1 : Row W (.slice a' n' c') l
 r2 : Row W (.slice a'' n' c'') l
 g1 : g0 ≤ lb
 g2 : g0 ≤ mb
 f1 : ∀ x, a' = some x → g0 ≤ x.block
 f2 : ∀ x, a'' = some x → g0 ≤ x.block
 bel : Below w0.heap.size w0 W
theorem Same2.put {w0 W : World} {g0 lb mb n' c' c'' : Nat} {a' a'' : Option Addr} {K : Ln} {l : List Int} (h : Same2 w0 W g0 lb mb n' c' c'' a' a'' K l) {g k : Nat} (v : Value) (h1 : g < g0) (h2 : w0.heap.size ≤ g) : Same2 w0 (W.setCell ⟨g, k, none⟩ v) g0 lb mb n' c' c'' a' a'' K l := by
 have P := past_setCells [v] k W (b := g)
 have g1 := h.g1
 have g2 := h.g2
 exact ⟨P.blk (by omega) h.kb, P.blk (by omega) h.mbk, P.row (fun x hx => by have := h.f1 x hx; omega) h.r1, P.row (fun x hx => by have := h.f2 x hx; omega) h.r2, g1, g2, h.f1, h.f2, P.bel h2 h.bel⟩
def InB (w0 W : World) (g0 : Nat) (a : Option Addr) (n : Nat) : Prop := 0 < n → ∃ g cs, a = some ⟨g, 0, none⟩ ∧ Blk W g cs 2 ∧ n ≤ cs.size ∧ g < g0 ∧ w0.heap.size ≤ g
theorem InB.keep {w0 W W' : World} {g0 n : Nat} {a : Option Addr} (h : InB w0 W g0 a n) (hb : Below W.heap.size W W') : InB w0 W' g0 a n := fun h0 => by
 obtain ⟨g, cs, h1, h2, h3, h4, h5⟩ := h h0
 exact ⟨g, cs, h1, h2.keep hb, h3, h4, h5⟩
theorem inR_of {w0 W1 W : World} {v : Value} {l : List Int} (h : Grow 2 W1 W v l) (h0 : w0.heap.size ≤ W1.heap.size) {a : Option Addr} {c : Nat} (e : v = .slice a l.length c) : InB w0 W W.heap.size a l.length := fun hl => by
 subst e
 obtain ⟨h1, h2⟩ := h.owns
 rcases h2 with ⟨e, h3⟩ | ⟨g, cap, cur, e, h3, h4, h5, _, h6, _⟩
 ·omega
 ·injection e with e1 e2 e3
  exact ⟨g, cur, e1, h4, by rw [h6]; omega, (Array.getElem?_eq_some_iff.1 h4).1, by omega⟩
def pickK (id out r e : Int) : Ln := if e = 0 then newK id out r else ln0
def pickL (l : List Int) (e : Int) : List Int := if e = 0 then l else []
theorem one_new {id out r e : Int} {l : List Int} {z : Ending} {W : World} {g : Nat} (h : (e ≠ 0 ∧ z = .returned (.tuple #[.agg lnZ, .int .i64 e])) ∨ (e = 0 ∧ ∃ a' c', z = .returned (.tuple #[.agg (lnA (newK id out r) (.slice a' l.length c')), .int .i64 0]) ∧ Row W (.slice a' l.length c') l ∧ Sl a' l.length c' ∧ (∀ x, a' = some x → g ≤ x.block))) :
  ∃ (K : Ln) (l' : List Int) (a' : Option Addr) (c' : Nat), z = .returned (.tuple #[.agg (lnA K (.slice a' l'.length c')), .int .i64 e]) ∧ Row W (.slice a' l'.length c') l' ∧ (∀ x, a' = some x → g ≤ x.block) ∧ K = pickK id out r e ∧ l' = pickL l e := by
 rcases h with ⟨he, rfl⟩ | ⟨rfl, a', c', rfl, hr, _, hf⟩
 ·exact ⟨ln0, [], none, 0, rfl, row0 W, (fun x hx => by cases hx), (if_neg he).symm, (if_neg he).symm⟩
 ·exact ⟨newK id out r, l, a', c', rfl, hr, hf, rfl, rfl⟩
theorem two_new {id out r e : Int} {l l' : List Int} {z : Ending} {W : World} {g : Nat} {K : Ln} (h : (e ≠ 0 ∧ z = .returned (.tuple #[.agg lnZ, .int .i64 e])) ∨ (e = 0 ∧ ∃ a' c', z = .returned (.tuple #[.agg (lnA (newK id out r) (.slice a' l.length c')), .int .i64 0]) ∧ Row W (.slice a' l.length c') l ∧ (∀ x, a' = some x → g ≤ x.block))) (hK : K = pickK id out r e ∧ l' = pickL l e) :
  ∃ (a' : Option Addr) (c' : Nat), z = .returned (.tuple #[.agg (lnA K (.slice a' l'.length c')), .int .i64 e]) ∧ Row W (.slice a' l'.length c') l' ∧ (∀ x, a' = some x → g ≤ x.block) := by
 obtain ⟨rfl, rfl⟩ := hK
 rcases h with ⟨he, rfl⟩ | ⟨rfl, a', c', rfl, hr, hf⟩
 ·rw [show pickK id out r e = ln0 from if_neg he, show pickL l e = [] from if_neg he]
  exact ⟨none, 0, rfl, row0 W, fun x hx => by cases hx⟩
 ·exact ⟨a', c', rfl, hr, hf⟩
theorem new_right {id out r e : Int} {l l' : List Int} {K : Ln} (h : NewE id out l r e) (hK : K = pickK id out r e ∧ l' = pickL l e) : rightB K l' = (e == 0) ∧ l'.length ≤ 1000000 := by
 obtain ⟨rfl, rfl⟩ := hK
 by_cases he : e = 0
 ·subst he
  have q := (new_rt h).1
  exact ⟨of_rt q, Nat.le_trans q.len (by decide)⟩
 ·rw [show pickK id out r e = ln0 from if_neg he, show pickL l e = [] from if_neg he]
  exact ⟨right0.trans (by simp [he]), by simp⟩
theorem ln_ok (id out : Int) (a : Option Addr) (n c : Nat) (w : World) (l : List Int) (ho : In64 out) (hR : Row w (.slice a n c) l) (hS : Sl a n c) (hn : n ≤ 60) (hl : l.length = n) (t0 : decide ((60 : Int) < (n : Int)) = false) : NewsL w id out (.slice a n c) := by
 unfold NewsL
 have HA := hide aliveL
 unfold AliveL at HA
 have HR := hide hR
 have HS := hide hS
 have HL : Hid (l.length ≤ 60) := hide (by omega)
 have hln := hide hl
 clear hR hS hl
 go_enter (Tri.at (by decide) Try.func6), Try.ntmps6
 go_wp2_with fail
 refine (uh HA _).mono ?_
 rintro z w1 ⟨rfl, hb⟩
 have HB := hide hb
 replace HR := hide ((uh HR).below hb (Nat.le_refl _))
 have HG := hide (Grow.empty w1 w1 (Below.refl _ _))
 have HF := hide (from_row ((uh HR).alloc (.cells #[] 2)) (uh HS).2)
 have HI := hide (row_in (uh HR))
 clear HA hb
 go_wp2_with (refine list_from rfl (.tmp 18) (.tmp 19) rfl _ _ _ _ [] l (uh HG) (uh HF) rfl rfl (by have := uh HL; simp; omega) (uh HI) ?_)
 intro v w2 hG
 have HBi := hide hG.below
 have hsz := hide (uh HB).size
 obtain ⟨a1, c1, rfl, h1, h2, h3⟩ := grow_sl hG (by have := uh HL; simp; omega)
 have HIn : Hid (InB w w2 w2.heap.size a1 l.length) := hide (inR_of hG (uh hsz) rfl)
 have hng : Hid (w.heap.size ≤ w2.heap.size) := hide (Nat.le_trans (uh hsz) hG.below.size)
 replace HR := hide ((uh HR).below hG.below (Nat.le_refl _))
 replace HB := hide (below_via (uh HB) hG.below)
 have HRi : Hid (Row w2 (.slice a1 l.length c1) l) := hide h1
 have HSi : Hid (Sl a1 l.length c1) := hide h2
 have HN := hide (new_any (id := id) (out := out) ho (uh HRi) (uh HSi) (by have := uh HL; omega))
 unfold NewA at HN
 clear hG h1 h2 h3 HG HF HI HRi HSi HBi ho
 go_wp2_with fail
 refine (uh HN).mono ?_
 rintro z w3 ⟨r, e, hE, hcase, hb⟩
 obtain ⟨K, l', a', c', rfl, hr, hf, hK⟩ := one_new hcase
 have HNE := hide hE
 have HK := hide hK
 have HRK := hide (new_right hE hK)
 replace HR := hide (((uh HR).below hb (Nat.le_refl _)).alloc (.cells (lnA K (.slice a' l'.length c')) 53))
 have HQ := hide (rnew_any (id := id) (out := out) (uh HR) (uh HS) (by have := uh HL; omega))
 unfold RNewA at HQ
 have HR1 : Hid (Row (w3.alloc (.cells (lnA K (.slice a' l'.length c')) 53)) (.slice a' l'.length c') l') := hide (hr.alloc _)
 have HF1 : Hid (∀ x, a' = some x → w2.heap.size ≤ x.block) := hide hf
 have HKb := hide (Blk.new w3 (lnA K (.slice a' l'.length c')) 53)
 have hg3 := hide hb.size
 replace HIn := hide (((uh HIn).keep hb).keep (below1L w3 (.cells (lnA K (.slice a' l'.length c')) 53)))
 replace HB := hide (below_via (uh HB) (below_via hb (below1L w3 (.cells (lnA K (.slice a' l'.length c')) 53))))
 clear HN hE hcase hb hr hf hK
 generalize w2.heap.size = g0 at *
 go_wp2_with fail
 generalize w3.alloc (.cells (lnA K (.slice a' l'.length c')) 53) = w4 at *
 generalize w3.heap.size = lb at *
 refine (uh HQ).mono ?_
 rintro z w5 ⟨r', e', hE', hcase', hb⟩
 obtain ⟨rfl, rfl⟩ := NewE.only (uh HNE) hE'
 obtain ⟨a'', c'', rfl, hr, hf⟩ := two_new hcase' (uh HK)
 have hw4 := (uh HKb).lt
 have HS2 : Hid (Same2 w (w5.alloc (.cells (lnA K (.slice a'' l'.length c'')) 56)) g0 lb w5.heap.size l'.length c' c'' a' a'' K l') := hide ⟨((uh HKb).keep hb).alloc _, Blk.new w5 _ 56, ((uh HR1).below hb (Nat.le_refl _)).alloc _, hr.alloc _, uh hg3, by have := hb.size; have := uh hg3; omega, uh HF1, fun x hx => by have := hf x hx; have := uh hg3; omega, below_via (uh HB) (below_via hb (below1L w5 _))⟩
 replace HIn := hide (((uh HIn).keep hb).keep (below1L w5 (.cells (lnA K (.slice a'' l'.length c'')) 56)))
 clear HQ hE' hcase' hb hr hf hw4 HKb HR1 HF1 HR HB HNE HK hg3
 generalize hn' : l'.length = n' at *
 replace hn' := hide hn'
 generalize hn1 : l.length = n1 at *
 replace hn1 := hide hn1
 go_wp2_with fail
 generalize w5.alloc (.cells (lnA K (.slice a'' n' c'')) 56) = w6 at *
 generalize w5.heap.size = mb at *
 go_loopw [37] (fun i wr => ∃ k : Nat, k ≤ n1 ∧ i = .int .i64 k ∧ Hid (Same2 w wr g0 lb mb n' c' c'' a' a'' K l') ∧ Hid (InB w wr g0 a1 n1)) (fun i _ => n1 - (intOf i).toNat)
 case atStart => exact ⟨0, by omega, rfl, HS2, HIn⟩
 case round =>
  clear HS2 HIn
  obtain ⟨k, hk, rfl, HS2, HIn⟩ := hrel
  by_cases hlt : k < n1
  ·obtain ⟨g, cs, rfl, hB, hcs, hg1, hg2⟩ := uh HIn (by omega)
   have k1 : (k : Int) < (n1 : Int) := by omega
   have k60 : (k : Int) ≤ 60 := by have := uh HL; omega
   have hc := hB.at k (cs[k]'(by omega)) (Array.getElem?_eq_getElem _)
   have hz := hB.fz k
   replace HS2 := hide ((uh HS2).put (k := k) (.int .i64 (-1)) hg1 hg2)
   have HIn2 : Hid (InB w (wr.setCell ⟨g, k, none⟩ (.int .i64 (-1))) g0 (some ⟨g, 0, none⟩) n1) := hide (fun _ => ⟨g, _, rfl, hB.set k (.int .i64 (-1)), by rw [Array.size_setIfInBounds]; exact hcs, hg1, hg2⟩)
   generalize cs[k]'(by omega) = old at *
   clear HIn hB hcs hg1 hg2
   go_wp2_with fail
   go_roundw
   case rel => exact ⟨k + 1, by omega, by go_num, HS2, HIn2⟩
   case measure => simp [intOf]; omega
  ·obtain rfl : k = n1 := by omega
   have hEE : (e == e) = true := by simp
   have hBB : ∀ x : Bool, (x == x) = true := fun x => by simp
   have hbel := hide (uh HS2).bel
   go_wp2_with fail
   refine lnreg hEE rfl (hBB _) (hide (uh HS2).kb) (hide (uh HS2).mbk) (hide (uh HS2).r1) (hide (uh HS2).r2) (hide (by rw [uh hn']; exact (uh HRK).2)) (hide (uh HRK).1) (fun w7 hb => ?_)
   have HB := hide (below_via (uh hbel) hb)
   clear hb HS2 HIn
   go_wp2_with fail
   go_ret
   exact ⟨rfl, uh HB⟩
theorem lnews_any {id out : Int} {a : Option Addr} {n c : Nat} {w : World} {l : List Int} (ho : In64 out) (hR : Row w (.slice a n c) l) (hS : Sl a n c) : NewsL w id out (.slice a n c) := by
 obtain ⟨x, y, e⟩ := row_slice hR
 injection e with _ e2 _
 by_cases h : 60 < n
 ·exact ln_long id out a n c w (decide_eq_true (by omega))
 ·exact ln_ok id out a n c w l ho hR hS (by omega) e2.symm (decide_eq_false (by omega))
end Go.Proofs.Ytpeoabopeihadaa.Mn
