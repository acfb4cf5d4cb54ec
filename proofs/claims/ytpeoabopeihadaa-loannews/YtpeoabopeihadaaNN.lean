/- What Write and Recover do. -/
import Derived.Test.YtpeoabopeihadaaNM
set_option linter.unusedVariables false
set_option linter.unusedSimpArgs false
set_option linter.unusedSectionVars false
set_option maxHeartbeats 8000000
namespace Go.Proofs.Ytpeoabopeihadaa.Mn
open Go.RowKit
attribute [local simp] Tri.typeInfo Tri.sizeOf Tri.underlying Tri.runUnderlying Tri.isAgg Tri.zeroValue Tri.depth Tri.stoodInHeld Tri.eqGuardType Tri.call15 Tri.call16 Tri.call26 Tri.call27 Tri.call28 Tri.call29 Tri.call30 Tri.call31 Tri.call46 Tri.call49 Tri.call50 Tri.call51 Tri.call52 Tri.call53 Tri.call54 Tri.call65 Tri.call66 Tri.call68 Tri.call69 Tri.call70 Tri.call71 Tri.call72 Tri.call73 Tri.call74 Tri.call75 Tri.call82 Tri.call84 Tri.call85 Tri.call86 Tri.call95 Tri.call101 Tri.call106 Tri.call107 Tri.call116 Tri.call117 Tri.call118 Tri.call119 Tri.call120 Tri.call122 Tri.call123 Tri.call124 Tri.call125 Tri.call126 Tri.call135 Tri.call137 Tri.call143 Tri.call144 Tri.call145 Tri.call146 Tri.call147 Tri.call149 Tri.call150 Tri.call151 Tri.call152 Tri.call156 Tri.call157 Tri.call159 Tri.call160 Tri.call161 Tri.call162 Tri.call163 Tri.call164 Tri.call165 Tri.call166 Tri.call167 Tri.call175 Tri.call176 Tri.call178 Tri.call179 Tri.call180 Tri.call181 Tri.call182 Tri.call183 Tri.call186 Tri.call187 Tri.call188 Tri.call205
structure SK (w W : World) (cs : Array Value) (pb : Nat) (p : Int) : Prop where
 bel : Below w.heap.size w W
 b0 : Blk W w.heap.size cs 53
 pc : W.cell? ⟨pb, 0, none⟩ = some (.int .i64 p)
theorem SK.keep {w W W' : World} {cs : Array Value} {pb : Nat} {p : Int} (h : SK w W cs pb p) (hb : Below W.heap.size W W') : SK w W' cs pb p := ⟨below_via h.bel hb, h.b0.keep hb, (hb.cell (p := ⟨pb, 0, none⟩) (lt_of_cell h.pc)).trans h.pc⟩
theorem SK.drew {w W : World} {cs : Array Value} {pb : Nat} {p : Int} (h : SK w W cs pb p) : SK w W.drew cs pb p := ⟨below_drew h.bel, h.b0, h.pc⟩
theorem SK.set {w W : World} {cs : Array Value} {pb : Nat} {p : Int} (h : SK w W cs pb p) {g : Nat} (hg : w.heap.size < g) (hp : pb ≠ g) (i : Nat) (v : Value) : SK w (W.setCell ⟨g, i, none⟩ v) cs pb p := by
 refine ⟨h.bel.setCell (p := ⟨g, i, none⟩) (Nat.le_of_lt hg) v, h.b0.other (Nat.ne_of_lt hg) i v, ?_⟩
 have k := h.pc
 simp only [World.cell?] at k ⊢
 rw [Go.heap_setCell_other W ⟨g, i, none⟩ pb v hp]
 exact k
theorem SK.offL {w W : World} {cs : Array Value} {pb g : Nat} {p : Int} (h : SK w W cs pb p) (hg : w.heap.size < g ∧ pb ≠ g) (v0 v1 v2 v3 v4 v5 v6 v7 v8 v9 v10 v11 v12 : Value) : SK w (putL W g v0 v1 v2 v3 v4 v5 v6 v7 v8 v9 v10 v11 v12) cs pb p := by
 obtain ⟨hg, hp⟩ := hg
 exact (((((((((((((h.set hg hp 0 v0).set hg hp 1 v1).set hg hp 2 v2).set hg hp 3 v3).set hg hp 4 v4).set hg hp 5 v5).set hg hp 6 v6).set hg hp 7 v7).set hg hp 8 v8).set hg hp 9 v9).set hg hp 10 v10).set hg hp 11 v11).set hg hp 12 v12)
theorem SK.offM {w W : World} {cs : Array Value} {pb g : Nat} {p : Int} (h : SK w W cs pb p) (hg : w.heap.size < g ∧ pb ≠ g) (v0 v1 v2 v3 : Value) : SK w (putM W g v0 v1 v2 v3) cs pb p := by
 obtain ⟨hg, hp⟩ := hg
 exact ((((h.set hg hp 0 v0).set hg hp 1 v1).set hg hp 2 v2).set hg hp 3 v3)
theorem DK.drew {w wr : World} {cs : Array Value} (h : DK w wr cs) : DK w wr.drew cs := ⟨below_drew h.bel, h.b0, h.b1, h.b2⟩
theorem do_80ah (L K : Ln) (a2 : Option Addr) (sb so n c n2 c2 pb : Nat) (p x J E : Int) (w : World) (hp : w.cell? ⟨pb, 0, none⟩ = some (.int .i64 p)) (hx : w.cell? ⟨sb, so, none⟩ = some (.int .i64 x)) (hn : (1 : Int) ≤ (n : Int)) (hnc : (n : Int) ≤ (c : Int)) (hc : ¬ c = 1) (o1 : 600 < L.be + 1) (q1 : 0 ≤ L.be) (q2 : L.be ≤ 600) (d1 : -4503599627370496 ≤ L.due) (d2 : L.due ≤ 4503599627370496) (x1 : 0 ≤ x) (x2 : x ≤ 10000000000000) (HI : Hid (∀ w1, Calls (Tri Try.prog) 125 #[.agg (lnB L.id L.st 600 L.out L.rt L.gr (L.due + x) L.inc L.got L.adj L.wri L.rcv (.slice (some ⟨sb, so + 1, none⟩) (n - 1) (c - 1)))] w1 fun z w2 => z = .returned (.int .i64 J) ∧ Below w1.heap.size w1 w2)) (HV : Hid (∀ w1, Calls (Tri Try.prog) 101 #[.agg (lnB L.id L.st 600 L.out L.rt L.gr (L.due + x) L.inc L.got L.adj L.wri L.rcv (.slice (some ⟨sb, so + 1, none⟩) (n - 1) (c - 1))), .int .i64 p, .int .i64 J] w1 fun z w2 => z = .returned (.tuple #[.agg (lnA K (.slice a2 n2 c2)), .agg #[.int .i64 E, .int .i64 p, .int .i64 0, .int .i64 0]]) ∧ Below w1.heap.size w1 w2)) : Calls (Tri Try.prog) 124 #[.agg (lnA L (.slice (some ⟨sb, so, none⟩) n c)), .pointer (some ⟨pb, 0, none⟩)] w fun z w' => z = .returned (.tuple #[.agg (lnA K (.slice a2 n2 c2)), .agg #[.int .i64 E, .int .i64 p, .int .i64 0, .int .i64 0]]) ∧ Below w.heap.size w w' := by
 have lt := lt_of_cell hp
 have n0 : ¬ pb = w.heap.size := by omega
 have n1 : ¬ pb = w.heap.size + 1 := by omega
 have n3 : ¬ pb = w.heap.size + 1 + 1 := by omega
 have lts := lt_of_cell hx
 have m0 : ¬ sb = w.heap.size := by omega
 have m1 : ¬ sb = w.heap.size + 1 := by omega
 have m2 : ¬ sb = w.heap.size + 1 + 1 := by omega
 have hx3 : (((w.alloc (.cells (lnA L (.slice (some ⟨sb, so, none⟩) n c)) 53)).alloc (.cells lnZ 53)).alloc (.cells #[.int .i64 0, .int .i64 0, .int .i64 0, .int .i64 0] 65)).cell? ⟨sb, so, none⟩ = some (.int .i64 x) := cell_old (cell_old (cell_old hx _) _) _
 have hp3 : (((w.alloc (.cells (lnB L.id L.st 600 L.out L.rt L.gr (L.due + x) L.inc L.got L.adj L.wri L.rcv (.slice (some ⟨sb, so + 1, none⟩) (n - 1) (c - 1))) 53)).alloc (.cells lnZ 53)).alloc (.cells #[.int .i64 0, .int .i64 0, .int .i64 0, .int .i64 0] 65)).cell? ⟨pb, 0, none⟩ = some (.int .i64 p) := cell_old (cell_old (cell_old hp _) _) _
 have HT : Hid (DK w ((((w.alloc (.cells (lnB L.id L.st 600 L.out L.rt L.gr (L.due + x) L.inc L.got L.adj L.wri L.rcv (.slice (some ⟨sb, so + 1, none⟩) (n - 1) (c - 1))) 53)).alloc (.cells lnZ 53)).alloc (.cells #[.int .i64 0, .int .i64 0, .int .i64 0, .int .i64 0] 65)).drew) (lnB L.id L.st 600 L.out L.rt L.gr (L.due + x) L.inc L.got L.adj L.wri L.rcv (.slice (some ⟨sb, so + 1, none⟩) (n - 1) (c - 1)))) := hide (DK.drew (DK.new w _))
 have HP : Hid (((((w.alloc (.cells (lnB L.id L.st 600 L.out L.rt L.gr (L.due + x) L.inc L.got L.adj L.wri L.rcv (.slice (some ⟨sb, so + 1, none⟩) (n - 1) (c - 1))) 53)).alloc (.cells lnZ 53)).alloc (.cells #[.int .i64 0, .int .i64 0, .int .i64 0, .int .i64 0] 65)).drew).cell? ⟨pb, 0, none⟩ = some (.int .i64 p)) := hide hp3
 clear hx
 go_enter (Tri.at (by decide) Try.func124), Try.ntmps124
 go_wp2_with fail
 go_region
 go_wp2_with fail
 clear hp3 hx3
 generalize (((w.alloc (.cells (lnB L.id L.st 600 L.out L.rt L.gr (L.due + x) L.inc L.got L.adj L.wri L.rcv (.slice (some ⟨sb, so + 1, none⟩) (n - 1) (c - 1))) 53)).alloc (.cells lnZ 53)).alloc (.cells #[.int .i64 0, .int .i64 0, .int .i64 0, .int .i64 0] 65)).drew = V at *
 have HK : Hid (SK w V (lnB L.id L.st 600 L.out L.rt L.gr (L.due + x) L.inc L.got L.adj L.wri L.rcv (.slice (some ⟨sb, so + 1, none⟩) (n - 1) (c - 1))) pb p) := hide ⟨(uh HT).bel, (uh HT).b0, uh HP⟩
 clear HP
 refine wp_region_held_drew (S := fun W => SK w W (lnB L.id L.st 600 L.out L.rt L.gr (L.due + x) L.inc L.got L.adj L.wri L.rcv (.slice (some ⟨sb, so + 1, none⟩) (n - 1) (c - 1))) pb p) (by kernel_rfl) ((uh HK).drew) (fun hS => ?_)
 clear HK
 replace HT := hide (DK.drew (uh HT))
 refine wpAnyH_take (i := 0) (v := .agg (lnB L.id L.st 600 L.out L.rt L.gr (L.due + x) L.inc L.got L.adj L.wri L.rcv (.slice (some ⟨sb, so + 1, none⟩) (n - 1) (c - 1)))) rfl (by kernel_rfl) (by kernel_rfl) (by kernel_rfl) (fun _ _ _ h => h) (Or.inl ⟨by rfl, fun W hS => by have c0 := hS.b0.at 0 (.int .i64 L.id) rfl; have c1 := hS.b0.at 1 (.int .i64 L.st) rfl; have c2 := hS.b0.at 2 (.int .i64 600) rfl; have c3 := hS.b0.at 3 (.int .i64 L.out) rfl; have c4 := hS.b0.at 4 (.int .i64 L.rt) rfl; have c5 := hS.b0.at 5 (.int .i64 L.gr) rfl; have c6 := hS.b0.at 6 (.int .i64 (L.due + x)) rfl; have c7 := hS.b0.at 7 (.int .i64 L.inc) rfl; have c8 := hS.b0.at 8 (.int .i64 L.got) rfl; have c9 := hS.b0.at 9 (.int .i64 L.adj) rfl; have c10 := hS.b0.at 10 (.int .i64 L.wri) rfl; have c11 := hS.b0.at 11 (.int .i64 L.rcv) rfl; have c12 := hS.b0.at 12 (.slice (some ⟨sb, so + 1, none⟩) (n - 1) (c - 1)) rfl; go_simp⟩) hS ?_
 refine wpAnyH_take (i := 1) (v := .int .i64 p) rfl (by kernel_rfl) (by kernel_rfl) (by kernel_rfl) (fun _ _ _ h => h) (Or.inl ⟨by rfl, fun W hS => by have pc := hS.pc; go_simp⟩) hS ?_
 refine wpAnyH_take (i := 2) (v := .agg (lnB L.id L.st 600 L.out L.rt L.gr (L.due + x) L.inc L.got L.adj L.wri L.rcv (.slice (some ⟨sb, so + 1, none⟩) (n - 1) (c - 1)))) rfl (by kernel_rfl) (by kernel_rfl) (by kernel_rfl) (fun _ _ _ h => h) (Or.inl ⟨by rfl, fun W hS => by have c0 := hS.b0.at 0 (.int .i64 L.id) rfl; have c1 := hS.b0.at 1 (.int .i64 L.st) rfl; have c2 := hS.b0.at 2 (.int .i64 600) rfl; have c3 := hS.b0.at 3 (.int .i64 L.out) rfl; have c4 := hS.b0.at 4 (.int .i64 L.rt) rfl; have c5 := hS.b0.at 5 (.int .i64 L.gr) rfl; have c6 := hS.b0.at 6 (.int .i64 (L.due + x)) rfl; have c7 := hS.b0.at 7 (.int .i64 L.inc) rfl; have c8 := hS.b0.at 8 (.int .i64 L.got) rfl; have c9 := hS.b0.at 9 (.int .i64 L.adj) rfl; have c10 := hS.b0.at 10 (.int .i64 L.wri) rfl; have c11 := hS.b0.at 11 (.int .i64 L.rcv) rfl; have c12 := hS.b0.at 12 (.slice (some ⟨sb, so + 1, none⟩) (n - 1) (c - 1)) rfl; go_simp⟩) hS ?_
 generalize V.drew = V5 at *
 refine wpAnyH_all (rs := [3]) (by kernel_rfl) (by simp) (AllReadyH.cons (i := 3) rfl (fun KK hK => ?_) AllReadyH.nil)
 rw [if_pos (by rfl)]
 replace hS := hide hS
 go_wp2_with fail
 refine (uh HI _).mono ?_
 rintro z1 w1 ⟨rfl, hb⟩
 have hSA := hide ((uh hS).keep hb)
 replace HT := hide ((uh HT).keep hb)
 clear hb hS HI
 go_wp2_with fail
 refine hK.out _ _ (uh hSA) (fun hS => ?_)
 clear hK hSA
 refine wpAnyH_all (rs := [4]) (by kernel_rfl) (by simp) (AllReadyH.cons (i := 4) rfl (fun KK hK => ?_) AllReadyH.nil)
 rw [if_pos (by rfl)]
 replace hS := hide hS
 go_wp2_with fail
 refine (uh HV _).mono ?_
 rintro z2 w2 ⟨rfl, hb⟩
 have hSA := hide ((uh hS).keep hb)
 replace HT := hide ((uh HT).keep hb)
 clear hb hS HV
 go_wp2_with fail
 refine hK.out _ _ (uh hSA) (fun hS => ?_)
 clear hK hSA
 refine wpAnyH_take (i := 5) (v := .agg (lnA K (.slice a2 n2 c2))) rfl (by kernel_rfl) (by kernel_rfl) (by kernel_rfl) (fun _ _ _ h => h) (Or.inl ⟨by rfl, fun W hS => by go_simp⟩) hS ?_
 refine wpAnyH_take (i := 6) (v := .agg #[.int .i64 E, .int .i64 p, .int .i64 0, .int .i64 0]) rfl (by kernel_rfl) (by kernel_rfl) (by kernel_rfl) (fun _ _ _ h => h) (Or.inl ⟨by rfl, fun W hS => by go_simp⟩) hS ?_
 refine wpAnyH_all (rs := [7]) (by kernel_rfl) (by simp) (AllReadyH.cons (i := 7) rfl (fun KK hK => ?_) AllReadyH.nil)
 rw [if_pos (by rfl)]
 have x0 := (show Blk _ _ _ _ from (uh HT).b1).at 0 (.int .i64 0) rfl
 have x1 := (show Blk _ _ _ _ from (uh HT).b1).at 1 (.int .i64 0) rfl
 have x2 := (show Blk _ _ _ _ from (uh HT).b1).at 2 (.int .i64 0) rfl
 have x3 := (show Blk _ _ _ _ from (uh HT).b1).at 3 (.int .i64 0) rfl
 have x4 := (show Blk _ _ _ _ from (uh HT).b1).at 4 (.int .i64 0) rfl
 have x5 := (show Blk _ _ _ _ from (uh HT).b1).at 5 (.int .i64 0) rfl
 have x6 := (show Blk _ _ _ _ from (uh HT).b1).at 6 (.int .i64 0) rfl
 have x7 := (show Blk _ _ _ _ from (uh HT).b1).at 7 (.int .i64 0) rfl
 have x8 := (show Blk _ _ _ _ from (uh HT).b1).at 8 (.int .i64 0) rfl
 have x9 := (show Blk _ _ _ _ from (uh HT).b1).at 9 (.int .i64 0) rfl
 have x10 := (show Blk _ _ _ _ from (uh HT).b1).at 10 (.int .i64 0) rfl
 have x11 := (show Blk _ _ _ _ from (uh HT).b1).at 11 (.int .i64 0) rfl
 have x12 := (show Blk _ _ _ _ from (uh HT).b1).at 12 (.slice none 0 0) rfl
 have u0 := (show Blk _ _ _ _ from (uh HT).b1).fz 0
 have u1 := (show Blk _ _ _ _ from (uh HT).b1).fz 1
 have u2 := (show Blk _ _ _ _ from (uh HT).b1).fz 2
 have u3 := (show Blk _ _ _ _ from (uh HT).b1).fz 3
 have u4 := (show Blk _ _ _ _ from (uh HT).b1).fz 4
 have u5 := (show Blk _ _ _ _ from (uh HT).b1).fz 5
 have u6 := (show Blk _ _ _ _ from (uh HT).b1).fz 6
 have u7 := (show Blk _ _ _ _ from (uh HT).b1).fz 7
 have u8 := (show Blk _ _ _ _ from (uh HT).b1).fz 8
 have u9 := (show Blk _ _ _ _ from (uh HT).b1).fz 9
 have u10 := (show Blk _ _ _ _ from (uh HT).b1).fz 10
 have u11 := (show Blk _ _ _ _ from (uh HT).b1).fz 11
 have u12 := (show Blk _ _ _ _ from (uh HT).b1).fz 12
 have hSA : Hid (SK w ((((((((((((((((((((((((((w2).setCell ⟨w.heap.size + 1, 0, none⟩ (.int .i64 K.id))).setCell ⟨w.heap.size + 1, 1, none⟩ (.int .i64 K.st))).setCell ⟨w.heap.size + 1, 2, none⟩ (.int .i64 K.be))).setCell ⟨w.heap.size + 1, 3, none⟩ (.int .i64 K.out))).setCell ⟨w.heap.size + 1, 4, none⟩ (.int .i64 K.rt))).setCell ⟨w.heap.size + 1, 5, none⟩ (.int .i64 K.gr))).setCell ⟨w.heap.size + 1, 6, none⟩ (.int .i64 K.due))).setCell ⟨w.heap.size + 1, 7, none⟩ (.int .i64 K.inc))).setCell ⟨w.heap.size + 1, 8, none⟩ (.int .i64 K.got))).setCell ⟨w.heap.size + 1, 9, none⟩ (.int .i64 K.adj))).setCell ⟨w.heap.size + 1, 10, none⟩ (.int .i64 K.wri))).setCell ⟨w.heap.size + 1, 11, none⟩ (.int .i64 K.rcv))).setCell ⟨w.heap.size + 1, 12, none⟩ (.slice a2 n2 c2)) (lnB L.id L.st 600 L.out L.rt L.gr (L.due + x) L.inc L.got L.adj L.wri L.rcv (.slice (some ⟨sb, so + 1, none⟩) (n - 1) (c - 1))) pb p) := hide (hS.offL (by omega) (.int .i64 K.id) (.int .i64 K.st) (.int .i64 K.be) (.int .i64 K.out) (.int .i64 K.rt) (.int .i64 K.gr) (.int .i64 K.due) (.int .i64 K.inc) (.int .i64 K.got) (.int .i64 K.adj) (.int .i64 K.wri) (.int .i64 K.rcv) (.slice a2 n2 c2))
 clear hS
 go_wp2_with fail
 clear x0 x1 x2 x3 x4 x5 x6 x7 x8 x9 x10 x11 x12 u0 u1 u2 u3 u4 u5 u6 u7 u8 u9 u10 u11 u12
 refine hK.out _ _ (uh hSA) (fun hS => ?_)
 clear hK hSA
 have H1 : Hid (Blk ((((((((((((((((((((((((((w2).setCell ⟨w.heap.size + 1, 0, none⟩ (.int .i64 K.id))).setCell ⟨w.heap.size + 1, 1, none⟩ (.int .i64 K.st))).setCell ⟨w.heap.size + 1, 2, none⟩ (.int .i64 K.be))).setCell ⟨w.heap.size + 1, 3, none⟩ (.int .i64 K.out))).setCell ⟨w.heap.size + 1, 4, none⟩ (.int .i64 K.rt))).setCell ⟨w.heap.size + 1, 5, none⟩ (.int .i64 K.gr))).setCell ⟨w.heap.size + 1, 6, none⟩ (.int .i64 K.due))).setCell ⟨w.heap.size + 1, 7, none⟩ (.int .i64 K.inc))).setCell ⟨w.heap.size + 1, 8, none⟩ (.int .i64 K.got))).setCell ⟨w.heap.size + 1, 9, none⟩ (.int .i64 K.adj))).setCell ⟨w.heap.size + 1, 10, none⟩ (.int .i64 K.wri))).setCell ⟨w.heap.size + 1, 11, none⟩ (.int .i64 K.rcv))).setCell ⟨w.heap.size + 1, 12, none⟩ (.slice a2 n2 c2)) (w.heap.size + 1) (lnA K (.slice a2 n2 c2)) 53) := hide ((show Blk _ _ _ _ from (uh HT).b1).wrL (.int .i64 K.id) (.int .i64 K.st) (.int .i64 K.be) (.int .i64 K.out) (.int .i64 K.rt) (.int .i64 K.gr) (.int .i64 K.due) (.int .i64 K.inc) (.int .i64 K.got) (.int .i64 K.adj) (.int .i64 K.wri) (.int .i64 K.rcv) (.slice a2 n2 c2))
 have H2 : Hid (Blk ((((((((((((((((((((((((((w2).setCell ⟨w.heap.size + 1, 0, none⟩ (.int .i64 K.id))).setCell ⟨w.heap.size + 1, 1, none⟩ (.int .i64 K.st))).setCell ⟨w.heap.size + 1, 2, none⟩ (.int .i64 K.be))).setCell ⟨w.heap.size + 1, 3, none⟩ (.int .i64 K.out))).setCell ⟨w.heap.size + 1, 4, none⟩ (.int .i64 K.rt))).setCell ⟨w.heap.size + 1, 5, none⟩ (.int .i64 K.gr))).setCell ⟨w.heap.size + 1, 6, none⟩ (.int .i64 K.due))).setCell ⟨w.heap.size + 1, 7, none⟩ (.int .i64 K.inc))).setCell ⟨w.heap.size + 1, 8, none⟩ (.int .i64 K.got))).setCell ⟨w.heap.size + 1, 9, none⟩ (.int .i64 K.adj))).setCell ⟨w.heap.size + 1, 10, none⟩ (.int .i64 K.wri))).setCell ⟨w.heap.size + 1, 11, none⟩ (.int .i64 K.rcv))).setCell ⟨w.heap.size + 1, 12, none⟩ (.slice a2 n2 c2)) (w.heap.size + 1 + 1) #[.int .i64 0, .int .i64 0, .int .i64 0, .int .i64 0] 65) := hide ((show Blk _ _ _ _ from (uh HT).b2).offL (by omega) (.int .i64 K.id) (.int .i64 K.st) (.int .i64 K.be) (.int .i64 K.out) (.int .i64 K.rt) (.int .i64 K.gr) (.int .i64 K.due) (.int .i64 K.inc) (.int .i64 K.got) (.int .i64 K.adj) (.int .i64 K.wri) (.int .i64 K.rcv) (.slice a2 n2 c2))
 generalize (((((((((((((((((((((((((w2).setCell ⟨w.heap.size + 1, 0, none⟩ (.int .i64 K.id))).setCell ⟨w.heap.size + 1, 1, none⟩ (.int .i64 K.st))).setCell ⟨w.heap.size + 1, 2, none⟩ (.int .i64 K.be))).setCell ⟨w.heap.size + 1, 3, none⟩ (.int .i64 K.out))).setCell ⟨w.heap.size + 1, 4, none⟩ (.int .i64 K.rt))).setCell ⟨w.heap.size + 1, 5, none⟩ (.int .i64 K.gr))).setCell ⟨w.heap.size + 1, 6, none⟩ (.int .i64 K.due))).setCell ⟨w.heap.size + 1, 7, none⟩ (.int .i64 K.inc))).setCell ⟨w.heap.size + 1, 8, none⟩ (.int .i64 K.got))).setCell ⟨w.heap.size + 1, 9, none⟩ (.int .i64 K.adj))).setCell ⟨w.heap.size + 1, 10, none⟩ (.int .i64 K.wri))).setCell ⟨w.heap.size + 1, 11, none⟩ (.int .i64 K.rcv))).setCell ⟨w.heap.size + 1, 12, none⟩ (.slice a2 n2 c2) = W7 at *
 clear HT
 refine wpAnyH_all (rs := [8]) (by kernel_rfl) (by simp) (AllReadyH.cons (i := 8) rfl (fun KK hK => ?_) AllReadyH.nil)
 rw [if_pos (by rfl)]
 have y0 := (show Blk _ _ _ _ from uh H2).at 0 (.int .i64 0) rfl
 have y1 := (show Blk _ _ _ _ from uh H2).at 1 (.int .i64 0) rfl
 have y2 := (show Blk _ _ _ _ from uh H2).at 2 (.int .i64 0) rfl
 have y3 := (show Blk _ _ _ _ from uh H2).at 3 (.int .i64 0) rfl
 have v0 := (show Blk _ _ _ _ from uh H2).fz 0
 have v1 := (show Blk _ _ _ _ from uh H2).fz 1
 have v2 := (show Blk _ _ _ _ from uh H2).fz 2
 have v3 := (show Blk _ _ _ _ from uh H2).fz 3
 have hSA : Hid (SK w ((((((((W7).setCell ⟨w.heap.size + 1 + 1, 0, none⟩ (.int .i64 E))).setCell ⟨w.heap.size + 1 + 1, 1, none⟩ (.int .i64 p))).setCell ⟨w.heap.size + 1 + 1, 2, none⟩ (.int .i64 0))).setCell ⟨w.heap.size + 1 + 1, 3, none⟩ (.int .i64 0)) (lnB L.id L.st 600 L.out L.rt L.gr (L.due + x) L.inc L.got L.adj L.wri L.rcv (.slice (some ⟨sb, so + 1, none⟩) (n - 1) (c - 1))) pb p) := hide (hS.offM (by omega) (.int .i64 E) (.int .i64 p) (.int .i64 0) (.int .i64 0))
 clear hS
 go_wp2_with fail
 clear y0 y1 y2 y3 v0 v1 v2 v3
 refine hK.out _ _ (uh hSA) (fun hS => ?_)
 clear hK hSA
 have k2 : Blk ((((((((W7).setCell ⟨w.heap.size + 1 + 1, 0, none⟩ (.int .i64 E))).setCell ⟨w.heap.size + 1 + 1, 1, none⟩ (.int .i64 p))).setCell ⟨w.heap.size + 1 + 1, 2, none⟩ (.int .i64 0))).setCell ⟨w.heap.size + 1 + 1, 3, none⟩ (.int .i64 0)) (w.heap.size + 1) (lnA K (.slice a2 n2 c2)) 53 := (show Blk _ _ _ _ from uh H1).offM (by omega) (.int .i64 E) (.int .i64 p) (.int .i64 0) (.int .i64 0)
 have k3 : Blk ((((((((W7).setCell ⟨w.heap.size + 1 + 1, 0, none⟩ (.int .i64 E))).setCell ⟨w.heap.size + 1 + 1, 1, none⟩ (.int .i64 p))).setCell ⟨w.heap.size + 1 + 1, 2, none⟩ (.int .i64 0))).setCell ⟨w.heap.size + 1 + 1, 3, none⟩ (.int .i64 0)) (w.heap.size + 1 + 1) #[.int .i64 E, .int .i64 p, .int .i64 0, .int .i64 0] 65 := (show Blk _ _ _ _ from uh H2).wrM (.int .i64 E) (.int .i64 p) (.int .i64 0) (.int .i64 0)
 have k4 := hS.bel
 clear H1 H2 hS
 generalize (((((((W7).setCell ⟨w.heap.size + 1 + 1, 0, none⟩ (.int .i64 E))).setCell ⟨w.heap.size + 1 + 1, 1, none⟩ (.int .i64 p))).setCell ⟨w.heap.size + 1 + 1, 2, none⟩ (.int .i64 0))).setCell ⟨w.heap.size + 1 + 1, 3, none⟩ (.int .i64 0) = W at *
 have p0 := k2.at 0 (.int .i64 K.id) rfl
 have p1 := k2.at 1 (.int .i64 K.st) rfl
 have p2 := k2.at 2 (.int .i64 K.be) rfl
 have p3 := k2.at 3 (.int .i64 K.out) rfl
 have p4 := k2.at 4 (.int .i64 K.rt) rfl
 have p5 := k2.at 5 (.int .i64 K.gr) rfl
 have p6 := k2.at 6 (.int .i64 K.due) rfl
 have p7 := k2.at 7 (.int .i64 K.inc) rfl
 have p8 := k2.at 8 (.int .i64 K.got) rfl
 have p9 := k2.at 9 (.int .i64 K.adj) rfl
 have p10 := k2.at 10 (.int .i64 K.wri) rfl
 have p11 := k2.at 11 (.int .i64 K.rcv) rfl
 have p12 := k2.at 12 (.slice a2 n2 c2) rfl
 have q0 := k3.at 0 (.int .i64 E) rfl
 have q1 := k3.at 1 (.int .i64 p) rfl
 have q2 := k3.at 2 (.int .i64 0) rfl
 have q3 := k3.at 3 (.int .i64 0) rfl
 refine wpAnyH_done (by kernel_rfl) ?_ _
 go_wp2_with fail
 exact bodyPost_ret (v := .tuple #[.agg (lnA K (.slice a2 n2 c2)), .agg #[.int .i64 E, .int .i64 p, .int .i64 0, .int .i64 0]]) (by simp [results, Try.results124, go_sem, p0, p1, p2, p3, p4, p5, p6, p7, p8, p9, p10, p11, p12, q0, q1, q2, q3]) rfl ⟨rfl, k4⟩
theorem do_80al (L K : Ln) (a2 : Option Addr) (sb so n c n2 c2 pb : Nat) (p x J E : Int) (w : World) (hp : w.cell? ⟨pb, 0, none⟩ = some (.int .i64 p)) (hx : w.cell? ⟨sb, so, none⟩ = some (.int .i64 x)) (hn : (1 : Int) ≤ (n : Int)) (hnc : (n : Int) ≤ (c : Int)) (hc : ¬ c = 1) (o1 : L.be + 1 ≤ 600) (q1 : 0 ≤ L.be) (q2 : L.be ≤ 600) (d1 : -4503599627370496 ≤ L.due) (d2 : L.due ≤ 4503599627370496) (x1 : 0 ≤ x) (x2 : x ≤ 10000000000000) (HI : Hid (∀ w1, Calls (Tri Try.prog) 125 #[.agg (lnB L.id L.st (L.be + 1) L.out L.rt L.gr (L.due + x) L.inc L.got L.adj L.wri L.rcv (.slice (some ⟨sb, so + 1, none⟩) (n - 1) (c - 1)))] w1 fun z w2 => z = .returned (.int .i64 J) ∧ Below w1.heap.size w1 w2)) (HV : Hid (∀ w1, Calls (Tri Try.prog) 101 #[.agg (lnB L.id L.st (L.be + 1) L.out L.rt L.gr (L.due + x) L.inc L.got L.adj L.wri L.rcv (.slice (some ⟨sb, so + 1, none⟩) (n - 1) (c - 1))), .int .i64 p, .int .i64 J] w1 fun z w2 => z = .returned (.tuple #[.agg (lnA K (.slice a2 n2 c2)), .agg #[.int .i64 E, .int .i64 p, .int .i64 0, .int .i64 0]]) ∧ Below w1.heap.size w1 w2)) : Calls (Tri Try.prog) 124 #[.agg (lnA L (.slice (some ⟨sb, so, none⟩) n c)), .pointer (some ⟨pb, 0, none⟩)] w fun z w' => z = .returned (.tuple #[.agg (lnA K (.slice a2 n2 c2)), .agg #[.int .i64 E, .int .i64 p, .int .i64 0, .int .i64 0]]) ∧ Below w.heap.size w w' := by
 have lt := lt_of_cell hp
 have n0 : ¬ pb = w.heap.size := by omega
 have n1 : ¬ pb = w.heap.size + 1 := by omega
 have n3 : ¬ pb = w.heap.size + 1 + 1 := by omega
 have lts := lt_of_cell hx
 have m0 : ¬ sb = w.heap.size := by omega
 have m1 : ¬ sb = w.heap.size + 1 := by omega
 have m2 : ¬ sb = w.heap.size + 1 + 1 := by omega
 have hx3 : (((w.alloc (.cells (lnA L (.slice (some ⟨sb, so, none⟩) n c)) 53)).alloc (.cells lnZ 53)).alloc (.cells #[.int .i64 0, .int .i64 0, .int .i64 0, .int .i64 0] 65)).cell? ⟨sb, so, none⟩ = some (.int .i64 x) := cell_old (cell_old (cell_old hx _) _) _
 have hp3 : (((w.alloc (.cells (lnB L.id L.st (L.be + 1) L.out L.rt L.gr (L.due + x) L.inc L.got L.adj L.wri L.rcv (.slice (some ⟨sb, so + 1, none⟩) (n - 1) (c - 1))) 53)).alloc (.cells lnZ 53)).alloc (.cells #[.int .i64 0, .int .i64 0, .int .i64 0, .int .i64 0] 65)).cell? ⟨pb, 0, none⟩ = some (.int .i64 p) := cell_old (cell_old (cell_old hp _) _) _
 have HT : Hid (DK w ((((w.alloc (.cells (lnB L.id L.st (L.be + 1) L.out L.rt L.gr (L.due + x) L.inc L.got L.adj L.wri L.rcv (.slice (some ⟨sb, so + 1, none⟩) (n - 1) (c - 1))) 53)).alloc (.cells lnZ 53)).alloc (.cells #[.int .i64 0, .int .i64 0, .int .i64 0, .int .i64 0] 65)).drew) (lnB L.id L.st (L.be + 1) L.out L.rt L.gr (L.due + x) L.inc L.got L.adj L.wri L.rcv (.slice (some ⟨sb, so + 1, none⟩) (n - 1) (c - 1)))) := hide (DK.drew (DK.new w _))
 have HP : Hid (((((w.alloc (.cells (lnB L.id L.st (L.be + 1) L.out L.rt L.gr (L.due + x) L.inc L.got L.adj L.wri L.rcv (.slice (some ⟨sb, so + 1, none⟩) (n - 1) (c - 1))) 53)).alloc (.cells lnZ 53)).alloc (.cells #[.int .i64 0, .int .i64 0, .int .i64 0, .int .i64 0] 65)).drew).cell? ⟨pb, 0, none⟩ = some (.int .i64 p)) := hide hp3
 clear hx
 go_enter (Tri.at (by decide) Try.func124), Try.ntmps124
 go_wp2_with fail
 go_region
 go_wp2_with fail
 clear hp3 hx3
 generalize (((w.alloc (.cells (lnB L.id L.st (L.be + 1) L.out L.rt L.gr (L.due + x) L.inc L.got L.adj L.wri L.rcv (.slice (some ⟨sb, so + 1, none⟩) (n - 1) (c - 1))) 53)).alloc (.cells lnZ 53)).alloc (.cells #[.int .i64 0, .int .i64 0, .int .i64 0, .int .i64 0] 65)).drew = V at *
 have HK : Hid (SK w V (lnB L.id L.st (L.be + 1) L.out L.rt L.gr (L.due + x) L.inc L.got L.adj L.wri L.rcv (.slice (some ⟨sb, so + 1, none⟩) (n - 1) (c - 1))) pb p) := hide ⟨(uh HT).bel, (uh HT).b0, uh HP⟩
 clear HP
 refine wp_region_held_drew (S := fun W => SK w W (lnB L.id L.st (L.be + 1) L.out L.rt L.gr (L.due + x) L.inc L.got L.adj L.wri L.rcv (.slice (some ⟨sb, so + 1, none⟩) (n - 1) (c - 1))) pb p) (by kernel_rfl) ((uh HK).drew) (fun hS => ?_)
 clear HK
 replace HT := hide (DK.drew (uh HT))
 refine wpAnyH_take (i := 0) (v := .agg (lnB L.id L.st (L.be + 1) L.out L.rt L.gr (L.due + x) L.inc L.got L.adj L.wri L.rcv (.slice (some ⟨sb, so + 1, none⟩) (n - 1) (c - 1)))) rfl (by kernel_rfl) (by kernel_rfl) (by kernel_rfl) (fun _ _ _ h => h) (Or.inl ⟨by rfl, fun W hS => by have c0 := hS.b0.at 0 (.int .i64 L.id) rfl; have c1 := hS.b0.at 1 (.int .i64 L.st) rfl; have c2 := hS.b0.at 2 (.int .i64 (L.be + 1)) rfl; have c3 := hS.b0.at 3 (.int .i64 L.out) rfl; have c4 := hS.b0.at 4 (.int .i64 L.rt) rfl; have c5 := hS.b0.at 5 (.int .i64 L.gr) rfl; have c6 := hS.b0.at 6 (.int .i64 (L.due + x)) rfl; have c7 := hS.b0.at 7 (.int .i64 L.inc) rfl; have c8 := hS.b0.at 8 (.int .i64 L.got) rfl; have c9 := hS.b0.at 9 (.int .i64 L.adj) rfl; have c10 := hS.b0.at 10 (.int .i64 L.wri) rfl; have c11 := hS.b0.at 11 (.int .i64 L.rcv) rfl; have c12 := hS.b0.at 12 (.slice (some ⟨sb, so + 1, none⟩) (n - 1) (c - 1)) rfl; go_simp⟩) hS ?_
 refine wpAnyH_take (i := 1) (v := .int .i64 p) rfl (by kernel_rfl) (by kernel_rfl) (by kernel_rfl) (fun _ _ _ h => h) (Or.inl ⟨by rfl, fun W hS => by have pc := hS.pc; go_simp⟩) hS ?_
 refine wpAnyH_take (i := 2) (v := .agg (lnB L.id L.st (L.be + 1) L.out L.rt L.gr (L.due + x) L.inc L.got L.adj L.wri L.rcv (.slice (some ⟨sb, so + 1, none⟩) (n - 1) (c - 1)))) rfl (by kernel_rfl) (by kernel_rfl) (by kernel_rfl) (fun _ _ _ h => h) (Or.inl ⟨by rfl, fun W hS => by have c0 := hS.b0.at 0 (.int .i64 L.id) rfl; have c1 := hS.b0.at 1 (.int .i64 L.st) rfl; have c2 := hS.b0.at 2 (.int .i64 (L.be + 1)) rfl; have c3 := hS.b0.at 3 (.int .i64 L.out) rfl; have c4 := hS.b0.at 4 (.int .i64 L.rt) rfl; have c5 := hS.b0.at 5 (.int .i64 L.gr) rfl; have c6 := hS.b0.at 6 (.int .i64 (L.due + x)) rfl; have c7 := hS.b0.at 7 (.int .i64 L.inc) rfl; have c8 := hS.b0.at 8 (.int .i64 L.got) rfl; have c9 := hS.b0.at 9 (.int .i64 L.adj) rfl; have c10 := hS.b0.at 10 (.int .i64 L.wri) rfl; have c11 := hS.b0.at 11 (.int .i64 L.rcv) rfl; have c12 := hS.b0.at 12 (.slice (some ⟨sb, so + 1, none⟩) (n - 1) (c - 1)) rfl; go_simp⟩) hS ?_
 generalize V.drew = V5 at *
 refine wpAnyH_all (rs := [3]) (by kernel_rfl) (by simp) (AllReadyH.cons (i := 3) rfl (fun KK hK => ?_) AllReadyH.nil)
 rw [if_pos (by rfl)]
 replace hS := hide hS
 go_wp2_with fail
 refine (uh HI _).mono ?_
 rintro z1 w1 ⟨rfl, hb⟩
 have hSA := hide ((uh hS).keep hb)
 replace HT := hide ((uh HT).keep hb)
 clear hb hS HI
 go_wp2_with fail
 refine hK.out _ _ (uh hSA) (fun hS => ?_)
 clear hK hSA
 refine wpAnyH_all (rs := [4]) (by kernel_rfl) (by simp) (AllReadyH.cons (i := 4) rfl (fun KK hK => ?_) AllReadyH.nil)
 rw [if_pos (by rfl)]
 replace hS := hide hS
 go_wp2_with fail
 refine (uh HV _).mono ?_
 rintro z2 w2 ⟨rfl, hb⟩
 have hSA := hide ((uh hS).keep hb)
 replace HT := hide ((uh HT).keep hb)
 clear hb hS HV
 go_wp2_with fail
 refine hK.out _ _ (uh hSA) (fun hS => ?_)
 clear hK hSA
 refine wpAnyH_take (i := 5) (v := .agg (lnA K (.slice a2 n2 c2))) rfl (by kernel_rfl) (by kernel_rfl) (by kernel_rfl) (fun _ _ _ h => h) (Or.inl ⟨by rfl, fun W hS => by go_simp⟩) hS ?_
 refine wpAnyH_take (i := 6) (v := .agg #[.int .i64 E, .int .i64 p, .int .i64 0, .int .i64 0]) rfl (by kernel_rfl) (by kernel_rfl) (by kernel_rfl) (fun _ _ _ h => h) (Or.inl ⟨by rfl, fun W hS => by go_simp⟩) hS ?_
 refine wpAnyH_all (rs := [7]) (by kernel_rfl) (by simp) (AllReadyH.cons (i := 7) rfl (fun KK hK => ?_) AllReadyH.nil)
 rw [if_pos (by rfl)]
 have x0 := (show Blk _ _ _ _ from (uh HT).b1).at 0 (.int .i64 0) rfl
 have x1 := (show Blk _ _ _ _ from (uh HT).b1).at 1 (.int .i64 0) rfl
 have x2 := (show Blk _ _ _ _ from (uh HT).b1).at 2 (.int .i64 0) rfl
 have x3 := (show Blk _ _ _ _ from (uh HT).b1).at 3 (.int .i64 0) rfl
 have x4 := (show Blk _ _ _ _ from (uh HT).b1).at 4 (.int .i64 0) rfl
 have x5 := (show Blk _ _ _ _ from (uh HT).b1).at 5 (.int .i64 0) rfl
 have x6 := (show Blk _ _ _ _ from (uh HT).b1).at 6 (.int .i64 0) rfl
 have x7 := (show Blk _ _ _ _ from (uh HT).b1).at 7 (.int .i64 0) rfl
 have x8 := (show Blk _ _ _ _ from (uh HT).b1).at 8 (.int .i64 0) rfl
 have x9 := (show Blk _ _ _ _ from (uh HT).b1).at 9 (.int .i64 0) rfl
 have x10 := (show Blk _ _ _ _ from (uh HT).b1).at 10 (.int .i64 0) rfl
 have x11 := (show Blk _ _ _ _ from (uh HT).b1).at 11 (.int .i64 0) rfl
 have x12 := (show Blk _ _ _ _ from (uh HT).b1).at 12 (.slice none 0 0) rfl
 have u0 := (show Blk _ _ _ _ from (uh HT).b1).fz 0
 have u1 := (show Blk _ _ _ _ from (uh HT).b1).fz 1
 have u2 := (show Blk _ _ _ _ from (uh HT).b1).fz 2
 have u3 := (show Blk _ _ _ _ from (uh HT).b1).fz 3
 have u4 := (show Blk _ _ _ _ from (uh HT).b1).fz 4
 have u5 := (show Blk _ _ _ _ from (uh HT).b1).fz 5
 have u6 := (show Blk _ _ _ _ from (uh HT).b1).fz 6
 have u7 := (show Blk _ _ _ _ from (uh HT).b1).fz 7
 have u8 := (show Blk _ _ _ _ from (uh HT).b1).fz 8
 have u9 := (show Blk _ _ _ _ from (uh HT).b1).fz 9
 have u10 := (show Blk _ _ _ _ from (uh HT).b1).fz 10
 have u11 := (show Blk _ _ _ _ from (uh HT).b1).fz 11
 have u12 := (show Blk _ _ _ _ from (uh HT).b1).fz 12
 have hSA : Hid (SK w ((((((((((((((((((((((((((w2).setCell ⟨w.heap.size + 1, 0, none⟩ (.int .i64 K.id))).setCell ⟨w.heap.size + 1, 1, none⟩ (.int .i64 K.st))).setCell ⟨w.heap.size + 1, 2, none⟩ (.int .i64 K.be))).setCell ⟨w.heap.size + 1, 3, none⟩ (.int .i64 K.out))).setCell ⟨w.heap.size + 1, 4, none⟩ (.int .i64 K.rt))).setCell ⟨w.heap.size + 1, 5, none⟩ (.int .i64 K.gr))).setCell ⟨w.heap.size + 1, 6, none⟩ (.int .i64 K.due))).setCell ⟨w.heap.size + 1, 7, none⟩ (.int .i64 K.inc))).setCell ⟨w.heap.size + 1, 8, none⟩ (.int .i64 K.got))).setCell ⟨w.heap.size + 1, 9, none⟩ (.int .i64 K.adj))).setCell ⟨w.heap.size + 1, 10, none⟩ (.int .i64 K.wri))).setCell ⟨w.heap.size + 1, 11, none⟩ (.int .i64 K.rcv))).setCell ⟨w.heap.size + 1, 12, none⟩ (.slice a2 n2 c2)) (lnB L.id L.st (L.be + 1) L.out L.rt L.gr (L.due + x) L.inc L.got L.adj L.wri L.rcv (.slice (some ⟨sb, so + 1, none⟩) (n - 1) (c - 1))) pb p) := hide (hS.offL (by omega) (.int .i64 K.id) (.int .i64 K.st) (.int .i64 K.be) (.int .i64 K.out) (.int .i64 K.rt) (.int .i64 K.gr) (.int .i64 K.due) (.int .i64 K.inc) (.int .i64 K.got) (.int .i64 K.adj) (.int .i64 K.wri) (.int .i64 K.rcv) (.slice a2 n2 c2))
 clear hS
 go_wp2_with fail
 clear x0 x1 x2 x3 x4 x5 x6 x7 x8 x9 x10 x11 x12 u0 u1 u2 u3 u4 u5 u6 u7 u8 u9 u10 u11 u12
 refine hK.out _ _ (uh hSA) (fun hS => ?_)
 clear hK hSA
 have H1 : Hid (Blk ((((((((((((((((((((((((((w2).setCell ⟨w.heap.size + 1, 0, none⟩ (.int .i64 K.id))).setCell ⟨w.heap.size + 1, 1, none⟩ (.int .i64 K.st))).setCell ⟨w.heap.size + 1, 2, none⟩ (.int .i64 K.be))).setCell ⟨w.heap.size + 1, 3, none⟩ (.int .i64 K.out))).setCell ⟨w.heap.size + 1, 4, none⟩ (.int .i64 K.rt))).setCell ⟨w.heap.size + 1, 5, none⟩ (.int .i64 K.gr))).setCell ⟨w.heap.size + 1, 6, none⟩ (.int .i64 K.due))).setCell ⟨w.heap.size + 1, 7, none⟩ (.int .i64 K.inc))).setCell ⟨w.heap.size + 1, 8, none⟩ (.int .i64 K.got))).setCell ⟨w.heap.size + 1, 9, none⟩ (.int .i64 K.adj))).setCell ⟨w.heap.size + 1, 10, none⟩ (.int .i64 K.wri))).setCell ⟨w.heap.size + 1, 11, none⟩ (.int .i64 K.rcv))).setCell ⟨w.heap.size + 1, 12, none⟩ (.slice a2 n2 c2)) (w.heap.size + 1) (lnA K (.slice a2 n2 c2)) 53) := hide ((show Blk _ _ _ _ from (uh HT).b1).wrL (.int .i64 K.id) (.int .i64 K.st) (.int .i64 K.be) (.int .i64 K.out) (.int .i64 K.rt) (.int .i64 K.gr) (.int .i64 K.due) (.int .i64 K.inc) (.int .i64 K.got) (.int .i64 K.adj) (.int .i64 K.wri) (.int .i64 K.rcv) (.slice a2 n2 c2))
 have H2 : Hid (Blk ((((((((((((((((((((((((((w2).setCell ⟨w.heap.size + 1, 0, none⟩ (.int .i64 K.id))).setCell ⟨w.heap.size + 1, 1, none⟩ (.int .i64 K.st))).setCell ⟨w.heap.size + 1, 2, none⟩ (.int .i64 K.be))).setCell ⟨w.heap.size + 1, 3, none⟩ (.int .i64 K.out))).setCell ⟨w.heap.size + 1, 4, none⟩ (.int .i64 K.rt))).setCell ⟨w.heap.size + 1, 5, none⟩ (.int .i64 K.gr))).setCell ⟨w.heap.size + 1, 6, none⟩ (.int .i64 K.due))).setCell ⟨w.heap.size + 1, 7, none⟩ (.int .i64 K.inc))).setCell ⟨w.heap.size + 1, 8, none⟩ (.int .i64 K.got))).setCell ⟨w.heap.size + 1, 9, none⟩ (.int .i64 K.adj))).setCell ⟨w.heap.size + 1, 10, none⟩ (.int .i64 K.wri))).setCell ⟨w.heap.size + 1, 11, none⟩ (.int .i64 K.rcv))).setCell ⟨w.heap.size + 1, 12, none⟩ (.slice a2 n2 c2)) (w.heap.size + 1 + 1) #[.int .i64 0, .int .i64 0, .int .i64 0, .int .i64 0] 65) := hide ((show Blk _ _ _ _ from (uh HT).b2).offL (by omega) (.int .i64 K.id) (.int .i64 K.st) (.int .i64 K.be) (.int .i64 K.out) (.int .i64 K.rt) (.int .i64 K.gr) (.int .i64 K.due) (.int .i64 K.inc) (.int .i64 K.got) (.int .i64 K.adj) (.int .i64 K.wri) (.int .i64 K.rcv) (.slice a2 n2 c2))
 generalize (((((((((((((((((((((((((w2).setCell ⟨w.heap.size + 1, 0, none⟩ (.int .i64 K.id))).setCell ⟨w.heap.size + 1, 1, none⟩ (.int .i64 K.st))).setCell ⟨w.heap.size + 1, 2, none⟩ (.int .i64 K.be))).setCell ⟨w.heap.size + 1, 3, none⟩ (.int .i64 K.out))).setCell ⟨w.heap.size + 1, 4, none⟩ (.int .i64 K.rt))).setCell ⟨w.heap.size + 1, 5, none⟩ (.int .i64 K.gr))).setCell ⟨w.heap.size + 1, 6, none⟩ (.int .i64 K.due))).setCell ⟨w.heap.size + 1, 7, none⟩ (.int .i64 K.inc))).setCell ⟨w.heap.size + 1, 8, none⟩ (.int .i64 K.got))).setCell ⟨w.heap.size + 1, 9, none⟩ (.int .i64 K.adj))).setCell ⟨w.heap.size + 1, 10, none⟩ (.int .i64 K.wri))).setCell ⟨w.heap.size + 1, 11, none⟩ (.int .i64 K.rcv))).setCell ⟨w.heap.size + 1, 12, none⟩ (.slice a2 n2 c2) = W7 at *
 clear HT
 refine wpAnyH_all (rs := [8]) (by kernel_rfl) (by simp) (AllReadyH.cons (i := 8) rfl (fun KK hK => ?_) AllReadyH.nil)
 rw [if_pos (by rfl)]
 have y0 := (show Blk _ _ _ _ from uh H2).at 0 (.int .i64 0) rfl
 have y1 := (show Blk _ _ _ _ from uh H2).at 1 (.int .i64 0) rfl
 have y2 := (show Blk _ _ _ _ from uh H2).at 2 (.int .i64 0) rfl
 have y3 := (show Blk _ _ _ _ from uh H2).at 3 (.int .i64 0) rfl
 have v0 := (show Blk _ _ _ _ from uh H2).fz 0
 have v1 := (show Blk _ _ _ _ from uh H2).fz 1
 have v2 := (show Blk _ _ _ _ from uh H2).fz 2
 have v3 := (show Blk _ _ _ _ from uh H2).fz 3
 have hSA : Hid (SK w ((((((((W7).setCell ⟨w.heap.size + 1 + 1, 0, none⟩ (.int .i64 E))).setCell ⟨w.heap.size + 1 + 1, 1, none⟩ (.int .i64 p))).setCell ⟨w.heap.size + 1 + 1, 2, none⟩ (.int .i64 0))).setCell ⟨w.heap.size + 1 + 1, 3, none⟩ (.int .i64 0)) (lnB L.id L.st (L.be + 1) L.out L.rt L.gr (L.due + x) L.inc L.got L.adj L.wri L.rcv (.slice (some ⟨sb, so + 1, none⟩) (n - 1) (c - 1))) pb p) := hide (hS.offM (by omega) (.int .i64 E) (.int .i64 p) (.int .i64 0) (.int .i64 0))
 clear hS
 go_wp2_with fail
 clear y0 y1 y2 y3 v0 v1 v2 v3
 refine hK.out _ _ (uh hSA) (fun hS => ?_)
 clear hK hSA
 have k2 : Blk ((((((((W7).setCell ⟨w.heap.size + 1 + 1, 0, none⟩ (.int .i64 E))).setCell ⟨w.heap.size + 1 + 1, 1, none⟩ (.int .i64 p))).setCell ⟨w.heap.size + 1 + 1, 2, none⟩ (.int .i64 0))).setCell ⟨w.heap.size + 1 + 1, 3, none⟩ (.int .i64 0)) (w.heap.size + 1) (lnA K (.slice a2 n2 c2)) 53 := (show Blk _ _ _ _ from uh H1).offM (by omega) (.int .i64 E) (.int .i64 p) (.int .i64 0) (.int .i64 0)
 have k3 : Blk ((((((((W7).setCell ⟨w.heap.size + 1 + 1, 0, none⟩ (.int .i64 E))).setCell ⟨w.heap.size + 1 + 1, 1, none⟩ (.int .i64 p))).setCell ⟨w.heap.size + 1 + 1, 2, none⟩ (.int .i64 0))).setCell ⟨w.heap.size + 1 + 1, 3, none⟩ (.int .i64 0)) (w.heap.size + 1 + 1) #[.int .i64 E, .int .i64 p, .int .i64 0, .int .i64 0] 65 := (show Blk _ _ _ _ from uh H2).wrM (.int .i64 E) (.int .i64 p) (.int .i64 0) (.int .i64 0)
 have k4 := hS.bel
 clear H1 H2 hS
 generalize (((((((W7).setCell ⟨w.heap.size + 1 + 1, 0, none⟩ (.int .i64 E))).setCell ⟨w.heap.size + 1 + 1, 1, none⟩ (.int .i64 p))).setCell ⟨w.heap.size + 1 + 1, 2, none⟩ (.int .i64 0))).setCell ⟨w.heap.size + 1 + 1, 3, none⟩ (.int .i64 0) = W at *
 have p0 := k2.at 0 (.int .i64 K.id) rfl
 have p1 := k2.at 1 (.int .i64 K.st) rfl
 have p2 := k2.at 2 (.int .i64 K.be) rfl
 have p3 := k2.at 3 (.int .i64 K.out) rfl
 have p4 := k2.at 4 (.int .i64 K.rt) rfl
 have p5 := k2.at 5 (.int .i64 K.gr) rfl
 have p6 := k2.at 6 (.int .i64 K.due) rfl
 have p7 := k2.at 7 (.int .i64 K.inc) rfl
 have p8 := k2.at 8 (.int .i64 K.got) rfl
 have p9 := k2.at 9 (.int .i64 K.adj) rfl
 have p10 := k2.at 10 (.int .i64 K.wri) rfl
 have p11 := k2.at 11 (.int .i64 K.rcv) rfl
 have p12 := k2.at 12 (.slice a2 n2 c2) rfl
 have q0 := k3.at 0 (.int .i64 E) rfl
 have q1 := k3.at 1 (.int .i64 p) rfl
 have q2 := k3.at 2 (.int .i64 0) rfl
 have q3 := k3.at 3 (.int .i64 0) rfl
 refine wpAnyH_done (by kernel_rfl) ?_ _
 go_wp2_with fail
 exact bodyPost_ret (v := .tuple #[.agg (lnA K (.slice a2 n2 c2)), .agg #[.int .i64 E, .int .i64 p, .int .i64 0, .int .i64 0]]) (by simp [results, Try.results124, go_sem, p0, p1, p2, p3, p4, p5, p6, p7, p8, p9, p10, p11, p12, q0, q1, q2, q3]) rfl ⟨rfl, k4⟩
end Go.Proofs.Ytpeoabopeihadaa.Mn
