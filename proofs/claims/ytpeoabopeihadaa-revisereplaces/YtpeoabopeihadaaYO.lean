/- CatchUp, in letters. -/
import Derived.Test.YtpeoabopeihadaaYJ
set_option linter.unusedVariables false
set_option linter.unusedSimpArgs false
set_option linter.unusedSectionVars false
namespace Go.Proofs.Ytpeoabopeihadaa.Mn
open Go.RowKit
attribute [local simp] Tri.typeInfo Tri.sizeOf Tri.underlying Tri.runUnderlying Tri.isAgg Tri.zeroValue Tri.depth Tri.stoodInHeld Tri.eqGuardType Tri.call15 Tri.call27 Tri.call31 Tri.call32 Tri.call38 Tri.call39 Tri.call40 Tri.call41 Tri.call43 Tri.call44 Tri.call45 Tri.call46 Tri.call49 Tri.call52 Tri.call54 Tri.call65 Tri.call69 Tri.call70 Tri.call72 Tri.call73 Tri.call74 Tri.call75 Tri.call82 Tri.call86 Tri.call89 Tri.call90 Tri.call91 Tri.call92 Tri.call93 Tri.call94 Tri.call95 Tri.call96 Tri.call97 Tri.call98 Tri.call99 Tri.call100 Tri.call102 Tri.call103 Tri.call104 Tri.call106 Tri.call116 Tri.call117 Tri.call118 Tri.call119 Tri.call120 Tri.call122 Tri.call126 Tri.call130 Tri.call131 Tri.call132 Tri.call143 Tri.call144 Tri.call145 Tri.call146 Tri.call147 Tri.call156 Tri.call157 Tri.call159 Tri.call160 Tri.call161 Tri.call162 Tri.call163 Tri.call164 Tri.call165 Tri.call175 Tri.call176 Tri.call186 Tri.call188 Tri.call205
set_option maxRecDepth 100000 in
set_option maxHeartbeats 8000000 in
theorem out_40 {L : Ln} {a a2 : Option Addr} {n c n2 c2 : Nat} {w : World} {K : Ln} {n3 : Nat} {l3 : List Int} {m e : Int} (HT : Hid (∀ W cb mb fb0, Below w.heap.size w W → Blk W cb #[.func (.func 92) #[] #[], .func (.func 93) #[] #[], .func (.func 131) #[] #[.pointer (some ⟨mb, 0, none⟩)]] 115 → W.cell? ⟨fb0, 0, none⟩ = some (.slice a2 n2 c2) → W.cell? ⟨mb, 0, none⟩ = some (.slice a2 n2 c2) → Calls (Tri Try.prog) 89 #[.agg (lnA L (.slice a n c)), .func (.func 90) #[] #[.pointer (some ⟨fb0, 0, none⟩)], .slice (some ⟨cb, 0, none⟩) 3 3] W fun z w2 => ∃ a3 c3, z = .returned (.tuple #[.agg #[.int .i64 K.id, .int .i64 K.st, .int .i64 K.be, .int .i64 K.out, .int .i64 K.rt, .int .i64 K.gr, .int .i64 K.due, .int .i64 K.inc, .int .i64 K.got, .int .i64 K.adj, .int .i64 K.wri, .int .i64 K.rcv, .slice a3 n3 c3, .int .i64 m], .int .i64 e]) ∧ Row w2 (.slice a3 n3 c3) l3 ∧ Sl a3 n3 c3 ∧ (∀ x, a3 = some x → W.heap.size ≤ x.block) ∧ Below W.heap.size W w2)) : Calls (Tri Try.prog) 40 #[.agg (lnA L (.slice a n c)), .slice a2 n2 c2] w fun z w2 => ∃ a3 c3, z = .returned (.tuple #[.agg (lnA K (.slice a3 n3 c3)), .int .i64 m, .int .i64 e]) ∧ Row w2 (.slice a3 n3 c3) l3 ∧ Sl a3 n3 c3 ∧ (∀ x, a3 = some x → w.heap.size ≤ x.block) ∧ Below w.heap.size w w2 := by
  have HS : Hid (SJ w (((w.alloc (.cells (lnA L (.slice a n c)) 53)).alloc (.cells #[.slice a2 n2 c2] 22)).alloc (.cells lnZ 53)) (lnA L (.slice a n c)) (.slice a2 n2 c2)) := hide ⟨((below1L w _).alloc (by simp) _).alloc (by simp; omega) _, ((Blk.new w (lnA L (.slice a n c)) 53).alloc _).alloc _, by have h := (Blk.new (w.alloc (.cells (lnA L (.slice a n c)) 53)) #[.slice a2 n2 c2] 22).alloc (.cells lnZ 53); simpa using h, by have h := Blk.new ((w.alloc (.cells (lnA L (.slice a n c)) 53)).alloc (.cells #[.slice a2 n2 c2] 22)) lnZ 53; simpa using h⟩
  go_enter (Tri.at (by decide) Try.func40), Try.ntmps40
  go_wp2_with fail
  generalize hU0 : ((w.alloc (.cells (lnA L (.slice a n c)) 53)).alloc (.cells #[.slice a2 n2 c2] 22)).alloc (.cells lnZ 53) = U0 at *
  clear hU0
  refine wp_region_held_drew (S := fun W => SJ w W (lnA L (.slice a n c)) (.slice a2 n2 c2)) (by kernel_rfl) ((unhide HS).drew) (fun hS => ?_)
  clear HS
  generalize hV : U0.drew = V0 at *
  clear hV
  refine wpAnyH_take (i := 0) (v := .agg (lnA L (.slice a n c))) rfl (by kernel_rfl) (by kernel_rfl) (by kernel_rfl) (fun _ _ _ h => h) (Or.inl ⟨by rfl, fun W hS => by have c0 := hS.b0.at 0 (.int .i64 L.id) rfl; have c1 := hS.b0.at 1 (.int .i64 L.st) rfl; have c2 := hS.b0.at 2 (.int .i64 L.be) rfl; have c3 := hS.b0.at 3 (.int .i64 L.out) rfl; have c4 := hS.b0.at 4 (.int .i64 L.rt) rfl; have c5 := hS.b0.at 5 (.int .i64 L.gr) rfl; have c6 := hS.b0.at 6 (.int .i64 L.due) rfl; have c7 := hS.b0.at 7 (.int .i64 L.inc) rfl; have c8 := hS.b0.at 8 (.int .i64 L.got) rfl; have c9 := hS.b0.at 9 (.int .i64 L.adj) rfl; have c10 := hS.b0.at 10 (.int .i64 L.wri) rfl; have c11 := hS.b0.at 11 (.int .i64 L.rcv) rfl; have c12 := hS.b0.at 12 (.slice a n c) rfl; go_simp⟩) hS ?_
  refine wpAnyH_take (i := 1) (v := .func (.func 90) #[] #[.pointer (some ⟨w.heap.size + 1, 0, none⟩)]) rfl (by kernel_rfl) (by kernel_rfl) (by kernel_rfl) (fun _ _ _ h => h) (Or.inl ⟨by rfl, fun W hS => by go_simp⟩) hS ?_
  refine wpAnyH_take (i := 2) (v := .slice a2 n2 c2) rfl (by kernel_rfl) (by kernel_rfl) (by kernel_rfl) (fun _ _ _ h => h) (Or.inl ⟨by rfl, fun W hS => by have pc := hS.b1.at 0 _ rfl; go_simp⟩) hS ?_
  refine wpAnyH_all (rs := [3, 9]) (by kernel_rfl) (by simp) (AllReadyH.cons (i := 3) rfl (fun KK hK => ?_) (AllReadyH.cons (i := 9) rfl (fun KK hK => ?_) AllReadyH.nil))
  · rw [if_pos (by rfl)]
    replace hS := hide hS
    go_wp2_with fail
    refine (mc_any a2 n2 c2 _).mono ?_
    rintro z w1 ⟨rfl, rfl⟩
    go_wp2_with fail
    have hb := below1L V0 (.cells #[.slice a2 n2 c2] 22)
    have HM := hide (Blk.new V0 #[.slice a2 n2 c2] 22)
    refine hK.out _ _ ((unhide hS).keep hb) (fun hS => ?_)
    clear hK hb
    generalize hU1 : V0.alloc (.cells #[.slice a2 n2 c2] 22) = U1 at *
    clear hU1
    refine wpAnyH_all (rs := [4, 9]) (by kernel_rfl) (by simp) (AllReadyH.cons (i := 4) rfl (fun KK hK => ?_) (AllReadyH.cons (i := 9) rfl (fun KK hK => ?_) AllReadyH.nil))
    · rw [if_pos (by rfl)]
      replace hS := hide hS
      go_wp2_with fail
      have hb := below1L U1 (.cells #[.func (.func 92) #[] #[], .func (.func 93) #[] #[], .func (.func 131) #[] #[.pointer (some ⟨V0.heap.size, 0, none⟩)]] 115)
      replace HM := hide ((show Blk _ _ _ _ from unhide HM).keep hb)
      have HF := hide (Blk.new U1 #[.func (.func 92) #[] #[], .func (.func 93) #[] #[], .func (.func 131) #[] #[.pointer (some ⟨V0.heap.size, 0, none⟩)]] 115)
      refine hK.out _ _ ((unhide hS).keep hb) (fun hS => ?_)
      clear hK hb
      generalize hU2 : U1.alloc (.cells #[.func (.func 92) #[] #[], .func (.func 93) #[] #[], .func (.func 131) #[] #[.pointer (some ⟨V0.heap.size, 0, none⟩)]] 115) = U2 at *
      clear hU2
      refine wpAnyH_all (rs := [5, 9]) (by kernel_rfl) (by simp) (AllReadyH.cons (i := 5) rfl (fun KK hK => ?_) (AllReadyH.cons (i := 9) rfl (fun KK hK => ?_) AllReadyH.nil))
      · rw [if_pos (by rfl)]
        replace hS := hide hS
        go_wp2_with fail
        refine (unhide HT U2 (U1.heap.size) (V0.heap.size) (w.heap.size + 1) (unhide hS).bel (unhide HF) ((show Blk _ _ _ _ from (unhide hS).b1).at 0 _ rfl) ((show Blk _ _ _ _ from unhide HM).at 0 _ rfl)).mono ?_
        rintro z U3 ⟨a3, c3, rfl, hr3, hs3, hf3, hb⟩
        have HN3 : Hid (∀ x, a3 = some x → U2.heap.size ≤ x.block) := hide hf3
        have HR3 := hide hr3
        have HS3 := hide hs3
        replace HM := hide ((show Blk _ _ _ _ from unhide HM).keep hb)
        replace HF := hide ((show Blk _ _ _ _ from unhide HF).keep hb)
        have hSA := hide ((unhide hS).keep hb)
        have lz := (show Blk _ _ _ _ from (unhide hS).b2).lt
        go_wp2_with fail
        refine hK.out _ _ (unhide hSA) (fun hS => ?_)
        clear hK hSA hb hr3 hs3 hf3
        refine wpAnyH_take (i := 6) (v := .tuple #[.agg #[.int .i64 K.id, .int .i64 K.st, .int .i64 K.be, .int .i64 K.out, .int .i64 K.rt, .int .i64 K.gr, .int .i64 K.due, .int .i64 K.inc, .int .i64 K.got, .int .i64 K.adj, .int .i64 K.wri, .int .i64 K.rcv, .slice a3 n3 c3, .int .i64 m], .int .i64 e]) rfl (by kernel_rfl) (by kernel_rfl) (by kernel_rfl) (fun _ _ _ h => h) (Or.inl ⟨by rfl, fun W hS => by go_simp⟩) hS ?_
        refine wpAnyH_take (i := 7) (v := .agg #[.int .i64 K.id, .int .i64 K.st, .int .i64 K.be, .int .i64 K.out, .int .i64 K.rt, .int .i64 K.gr, .int .i64 K.due, .int .i64 K.inc, .int .i64 K.got, .int .i64 K.adj, .int .i64 K.wri, .int .i64 K.rcv, .slice a3 n3 c3, .int .i64 m]) rfl (by kernel_rfl) (by kernel_rfl) (by kernel_rfl) (fun _ _ _ h => h) (Or.inl ⟨by rfl, fun W hS => by go_simp⟩) hS ?_
        refine wpAnyH_take (i := 8) (v := .int .i64 e) rfl (by kernel_rfl) (by kernel_rfl) (by kernel_rfl) (fun _ _ _ h => h) (Or.inl ⟨by rfl, fun W hS => by go_simp⟩) hS ?_
        refine wpAnyH_all (rs := [9]) (by kernel_rfl) (by simp) (AllReadyH.cons (i := 9) rfl (fun KK hK => ?_) AllReadyH.nil)
        rw [if_pos (by rfl)]
        replace hS := hide hS
        go_wp2_with fail
        have hb := below1L U3 (.cells #[.int .i64 0, .int .i64 0, .int .i64 0, .int .i64 0, .int .i64 0, .int .i64 0, .int .i64 0, .int .i64 0, .int .i64 0, .int .i64 0, .int .i64 0, .int .i64 0, .slice none 0 0, .int .i64 0] 123)
        have HD := hide (Blk.new U3 #[.int .i64 0, .int .i64 0, .int .i64 0, .int .i64 0, .int .i64 0, .int .i64 0, .int .i64 0, .int .i64 0, .int .i64 0, .int .i64 0, .int .i64 0, .int .i64 0, .slice none 0 0, .int .i64 0] 123)
        have lw := (show Blk _ _ _ _ from (unhide hS).b2).lt
        have HG := hide hb
        refine hK.out _ _ ((unhide hS).keep hb) (fun hS => ?_)
        clear hK hb
        generalize hU4 : U3.alloc (.cells #[.int .i64 0, .int .i64 0, .int .i64 0, .int .i64 0, .int .i64 0, .int .i64 0, .int .i64 0, .int .i64 0, .int .i64 0, .int .i64 0, .int .i64 0, .int .i64 0, .slice none 0 0, .int .i64 0] 123) = U4 at *
        clear hU4
        refine wpAnyH_all (rs := [10]) (by kernel_rfl) (by simp) (AllReadyH.cons (i := 10) rfl (fun KK hK => ?_) AllReadyH.nil)
        rw [if_pos (by rfl)]
        have y0 := Blk.c14 (show Blk _ _ _ _ from unhide HD)
        have v0 := Blk.z14 (show Blk _ _ _ _ from unhide HD)
        replace hS := hide hS
        go_wp2_with fail
        clear y0 v0
        generalize hW : World.setCell _ _ _ = WW
        have h9 : w.heap.size + 2 < U3.heap.size := by omega
        have k2 : Blk WW (U3.heap.size) #[.int .i64 K.id, .int .i64 K.st, .int .i64 K.be, .int .i64 K.out, .int .i64 K.rt, .int .i64 K.gr, .int .i64 K.due, .int .i64 K.inc, .int .i64 K.got, .int .i64 K.adj, .int .i64 K.wri, .int .i64 K.rcv, .slice a3 n3 c3, .int .i64 m] 123 := by rw [← hW]; exact (show Blk _ _ _ _ from unhide HD).wr14 _ _ _ _ _ _ _ _ _ _ _ _ _ _
        have hSA : SJ w WW (lnA L (.slice a n c)) (.slice a2 n2 c2) := by rw [← hW]; exact (unhide hS).off h9 [.int .i64 K.id, .int .i64 K.st, .int .i64 K.be, .int .i64 K.out, .int .i64 K.rt, .int .i64 K.gr, .int .i64 K.due, .int .i64 K.inc, .int .i64 K.got, .int .i64 K.adj, .int .i64 K.wri, .int .i64 K.rcv, .slice a3 n3 c3, .int .i64 m]
        have k53 : Row WW (.slice a3 n3 c3) l3 := by rw [← hW]; exact (unhide HR3).below (below_putN (Nat.le_refl _) [_, _, _, _, _, _, _, _, _, _, _, _, _, _] 0 (unhide HG)) (Nat.le_refl _)
        have k63 : ∀ x, a3 = some x → w.heap.size + 1 + 1 < x.block := fun x hx => by have := unhide HN3 x hx; omega
        clear hW hS HD
        refine hK.out _ _ hSA (fun hS => ?_)
        clear hK hSA
        refine wpAnyH_all (rs := [11]) (by kernel_rfl) (by simp) (AllReadyH.cons (i := 11) rfl (fun KK hK => ?_) AllReadyH.nil)
        rw [if_pos (by rfl)]
        have hSB := hide hS
        clear hS
        go_wp2_with fail
        refine hK.out _ _ (unhide hSB) (fun hS => ?_)
        clear hK hSB
        refine wpAnyH_done (by kernel_rfl) ?_ _
        have HSJ : Hid (SJ w WW (lnA L (.slice a n c)) (.slice a2 n2 c2)) := hide hS
        have K5 := hide k53
        have K6 := hide k63
        clear hS k53 k63
        go_wp2_with fail
        refine wp_region_held_drew (S := fun W => Blk W (U3.heap.size) #[.int .i64 K.id, .int .i64 K.st, .int .i64 K.be, .int .i64 K.out, .int .i64 K.rt, .int .i64 K.gr, .int .i64 K.due, .int .i64 K.inc, .int .i64 K.got, .int .i64 K.adj, .int .i64 K.wri, .int .i64 K.rcv, .slice a3 n3 c3, .int .i64 m] 123) (by kernel_rfl) (show Blk _ _ _ _ from k2) (fun hS => ?_)
        clear k2
        refine wpAnyH_take (i := 0) (v := .pointer (some ⟨U3.heap.size, 0, none⟩)) rfl (by kernel_rfl) (by kernel_rfl) (by kernel_rfl) (fun _ _ _ h => h) (Or.inl ⟨by rfl, fun W hS => by go_simp⟩) hS ?_
        refine wpAnyH_take (i := 1) (v := .agg (lnA K (.slice a3 n3 c3))) rfl (by kernel_rfl) (by kernel_rfl) (by kernel_rfl) (fun _ _ _ h => h) (Or.inl ⟨by rfl, fun W hS => by have cc0 := hS.at 0 (.int .i64 K.id) rfl; have cc1 := hS.at 1 (.int .i64 K.st) rfl; have cc2 := hS.at 2 (.int .i64 K.be) rfl; have cc3 := hS.at 3 (.int .i64 K.out) rfl; have cc4 := hS.at 4 (.int .i64 K.rt) rfl; have cc5 := hS.at 5 (.int .i64 K.gr) rfl; have cc6 := hS.at 6 (.int .i64 K.due) rfl; have cc7 := hS.at 7 (.int .i64 K.inc) rfl; have cc8 := hS.at 8 (.int .i64 K.got) rfl; have cc9 := hS.at 9 (.int .i64 K.adj) rfl; have cc10 := hS.at 10 (.int .i64 K.wri) rfl; have cc11 := hS.at 11 (.int .i64 K.rcv) rfl; have cc12 := hS.at 12 (.slice a3 n3 c3) rfl; go_simp⟩) hS ?_
        refine wpAnyH_take (i := 2) (v := .pointer (some ⟨U3.heap.size, 13, none⟩)) rfl (by kernel_rfl) (by kernel_rfl) (by kernel_rfl) (fun _ _ _ h => h) (Or.inl ⟨by rfl, fun W hS => by go_simp⟩) hS ?_
        refine wpAnyH_take (i := 3) (v := .int .i64 m) rfl (by kernel_rfl) (by kernel_rfl) (by kernel_rfl) (fun _ _ _ h => h) (Or.inl ⟨by rfl, fun W hS => by have c0 := hS.at 13 _ rfl; go_simp⟩) hS ?_
        refine wpAnyH_take (i := 4) (v := .int .i64 e) rfl (by kernel_rfl) (by kernel_rfl) (by kernel_rfl) (fun _ _ _ h => h) (Or.inl ⟨by rfl, fun W hS => by go_simp⟩) hS ?_
        replace HSJ := hide (unhide HSJ).drew
        replace K5 := hide (unhide K5).drew
        generalize hX : WW.drew = WZ at *
        clear hX
        refine wpAnyH_all (rs := [5]) (by kernel_rfl) (by simp) (AllReadyH.cons (i := 5) rfl (fun KK hK => ?_) AllReadyH.nil)
        rw [if_pos (by rfl)]
        replace hS := hide hS
        have y0 := Blk.c13 (show Blk _ _ _ _ from (unhide HSJ).b2)
        have v0 := Blk.z13 (show Blk _ _ _ _ from (unhide HSJ).b2)
        go_wp2_with fail
        clear y0 v0
        generalize hW : World.setCell _ _ _ = WX
        have k2 : Blk WX (w.heap.size + 1 + 1) (lnA K (.slice a3 n3 c3)) 53 := by rw [← hW]; exact (show Blk _ _ _ _ from (unhide HSJ).b2).wr13 _ _ _ _ _ _ _ _ _ _ _ _ _
        have k4 : Below w.heap.size w WX := by rw [← hW]; exact below_putN (by omega) [_, _, _, _, _, _, _, _, _, _, _, _, _] 0 (unhide HSJ).bel
        have k5 : Row WX (.slice a3 n3 c3) l3 := by rw [← hW]; exact Row.offN (fun x hx => by have := unhide K6 x hx; omega) [_, _, _, _, _, _, _, _, _, _, _, _, _] 0 (unhide K5)
        have k6 : ∀ x, a3 = some x → w.heap.size ≤ x.block := fun x hx => by have := unhide K6 x hx; omega
        have k7 := unhide HS3
        have hSA : Blk WX (U3.heap.size) #[.int .i64 K.id, .int .i64 K.st, .int .i64 K.be, .int .i64 K.out, .int .i64 K.rt, .int .i64 K.gr, .int .i64 K.due, .int .i64 K.inc, .int .i64 K.got, .int .i64 K.adj, .int .i64 K.wri, .int .i64 K.rcv, .slice a3 n3 c3, .int .i64 m] 123 := by rw [← hW]; exact Blk.offN (by omega) [_, _, _, _, _, _, _, _, _, _, _, _, _] 0 (unhide hS)
        clear hW hS
        refine hK.out _ _ hSA (fun hS => ?_)
        clear hK hSA
        refine wpAnyH_all (rs := [6]) (by kernel_rfl) (by simp) (AllReadyH.cons (i := 6) rfl (fun KK hK => ?_) AllReadyH.nil)
        rw [if_pos (by rfl)]
        replace hS := hide hS
        go_wp2_with fail
        refine hK.out _ _ (unhide hS) (fun hS => ?_)
        clear hK
        refine wpAnyH_all (rs := [7]) (by kernel_rfl) (by simp) (AllReadyH.cons (i := 7) rfl (fun KK hK => ?_) AllReadyH.nil)
        rw [if_pos (by rfl)]
        replace hS := hide hS
        go_wp2_with fail
        refine hK.out _ _ (unhide hS) (fun hS => ?_)
        clear hK
        refine wpAnyH_done (by kernel_rfl) ?_ _
        replace hS := hide hS
        go_wp2_with fail
        have p0 := k2.c13
        exact bodyPost_ret (v := .tuple #[.agg (lnA K (.slice a3 n3 c3)), .int .i64 m, .int .i64 e]) (by simp [results, Try.results40, go_sem, p0]) rfl ⟨a3, c3, rfl, k5, k7, k6, k4⟩
      · rw [if_pos (by rfl)]
        replace hS := hide hS
        go_wp2_with fail
        have hb := below1L U2 (.cells #[.int .i64 0, .int .i64 0, .int .i64 0, .int .i64 0, .int .i64 0, .int .i64 0, .int .i64 0, .int .i64 0, .int .i64 0, .int .i64 0, .int .i64 0, .int .i64 0, .slice none 0 0, .int .i64 0] 123)
        replace HM := hide ((show Blk _ _ _ _ from unhide HM).keep hb)
        replace HF := hide ((show Blk _ _ _ _ from unhide HF).keep hb)
        have HD := hide (Blk.new U2 #[.int .i64 0, .int .i64 0, .int .i64 0, .int .i64 0, .int .i64 0, .int .i64 0, .int .i64 0, .int .i64 0, .int .i64 0, .int .i64 0, .int .i64 0, .int .i64 0, .slice none 0 0, .int .i64 0] 123)
        have lw := (show Blk _ _ _ _ from (unhide hS).b2).lt
        refine hK.out _ _ ((unhide hS).keep hb) (fun hS => ?_)
        clear hK hb
        generalize hU5 : U2.alloc (.cells #[.int .i64 0, .int .i64 0, .int .i64 0, .int .i64 0, .int .i64 0, .int .i64 0, .int .i64 0, .int .i64 0, .int .i64 0, .int .i64 0, .int .i64 0, .int .i64 0, .slice none 0 0, .int .i64 0] 123) = U5 at *
        clear hU5
        refine wpAnyH_all (rs := [5]) (by kernel_rfl) (by simp) (AllReadyH.cons (i := 5) rfl (fun KK hK => ?_) AllReadyH.nil)
        rw [if_pos (by rfl)]
        replace hS := hide hS
        go_wp2_with fail
        refine (unhide HT U5 (U1.heap.size) (V0.heap.size) (w.heap.size + 1) (unhide hS).bel (unhide HF) ((show Blk _ _ _ _ from (unhide hS).b1).at 0 _ rfl) ((show Blk _ _ _ _ from unhide HM).at 0 _ rfl)).mono ?_
        rintro z U6 ⟨a3, c3, rfl, hr3, hs3, hf3, hb⟩
        have HN3 : Hid (∀ x, a3 = some x → U5.heap.size ≤ x.block) := hide hf3
        have HR3 := hide hr3
        have HS3 := hide hs3
        have ld := (show Blk _ _ _ _ from unhide HD).lt
        replace HM := hide ((show Blk _ _ _ _ from unhide HM).keep hb)
        replace HF := hide ((show Blk _ _ _ _ from unhide HF).keep hb)
        replace HD := hide ((show Blk _ _ _ _ from unhide HD).keep hb)
        have hSA := hide ((unhide hS).keep hb)
        have lz := (show Blk _ _ _ _ from (unhide hS).b2).lt
        go_wp2_with fail
        refine hK.out _ _ (unhide hSA) (fun hS => ?_)
        clear hK hSA hb hr3 hs3 hf3
        refine wpAnyH_take (i := 6) (v := .tuple #[.agg #[.int .i64 K.id, .int .i64 K.st, .int .i64 K.be, .int .i64 K.out, .int .i64 K.rt, .int .i64 K.gr, .int .i64 K.due, .int .i64 K.inc, .int .i64 K.got, .int .i64 K.adj, .int .i64 K.wri, .int .i64 K.rcv, .slice a3 n3 c3, .int .i64 m], .int .i64 e]) rfl (by kernel_rfl) (by kernel_rfl) (by kernel_rfl) (fun _ _ _ h => h) (Or.inl ⟨by rfl, fun W hS => by go_simp⟩) hS ?_
        refine wpAnyH_take (i := 7) (v := .agg #[.int .i64 K.id, .int .i64 K.st, .int .i64 K.be, .int .i64 K.out, .int .i64 K.rt, .int .i64 K.gr, .int .i64 K.due, .int .i64 K.inc, .int .i64 K.got, .int .i64 K.adj, .int .i64 K.wri, .int .i64 K.rcv, .slice a3 n3 c3, .int .i64 m]) rfl (by kernel_rfl) (by kernel_rfl) (by kernel_rfl) (fun _ _ _ h => h) (Or.inl ⟨by rfl, fun W hS => by go_simp⟩) hS ?_
        refine wpAnyH_take (i := 8) (v := .int .i64 e) rfl (by kernel_rfl) (by kernel_rfl) (by kernel_rfl) (fun _ _ _ h => h) (Or.inl ⟨by rfl, fun W hS => by go_simp⟩) hS ?_
        refine wpAnyH_all (rs := [10]) (by kernel_rfl) (by simp) (AllReadyH.cons (i := 10) rfl (fun KK hK => ?_) AllReadyH.nil)
        rw [if_pos (by rfl)]
        have y0 := Blk.c14 (show Blk _ _ _ _ from unhide HD)
        have v0 := Blk.z14 (show Blk _ _ _ _ from unhide HD)
        replace hS := hide hS
        go_wp2_with fail
        clear y0 v0
        generalize hW : World.setCell _ _ _ = WW
        have h9 : w.heap.size + 2 < U2.heap.size := by omega
        have k2 : Blk WW (U2.heap.size) #[.int .i64 K.id, .int .i64 K.st, .int .i64 K.be, .int .i64 K.out, .int .i64 K.rt, .int .i64 K.gr, .int .i64 K.due, .int .i64 K.inc, .int .i64 K.got, .int .i64 K.adj, .int .i64 K.wri, .int .i64 K.rcv, .slice a3 n3 c3, .int .i64 m] 123 := by rw [← hW]; exact (show Blk _ _ _ _ from unhide HD).wr14 _ _ _ _ _ _ _ _ _ _ _ _ _ _
        have hSA : SJ w WW (lnA L (.slice a n c)) (.slice a2 n2 c2) := by rw [← hW]; exact (unhide hS).off h9 [.int .i64 K.id, .int .i64 K.st, .int .i64 K.be, .int .i64 K.out, .int .i64 K.rt, .int .i64 K.gr, .int .i64 K.due, .int .i64 K.inc, .int .i64 K.got, .int .i64 K.adj, .int .i64 K.wri, .int .i64 K.rcv, .slice a3 n3 c3, .int .i64 m]
        have k53 : Row WW (.slice a3 n3 c3) l3 := by rw [← hW]; exact Row.offN (fun x hx => by have := unhide HN3 x hx; omega) [_, _, _, _, _, _, _, _, _, _, _, _, _, _] 0 (unhide HR3)
        have k63 : ∀ x, a3 = some x → w.heap.size + 1 + 1 < x.block := fun x hx => by have := unhide HN3 x hx; omega
        clear hW hS HD
        refine hK.out _ _ hSA (fun hS => ?_)
        clear hK hSA
        refine wpAnyH_all (rs := [11]) (by kernel_rfl) (by simp) (AllReadyH.cons (i := 11) rfl (fun KK hK => ?_) AllReadyH.nil)
        rw [if_pos (by rfl)]
        have hSB := hide hS
        clear hS
        go_wp2_with fail
        refine hK.out _ _ (unhide hSB) (fun hS => ?_)
        clear hK hSB
        refine wpAnyH_done (by kernel_rfl) ?_ _
        have HSJ : Hid (SJ w WW (lnA L (.slice a n c)) (.slice a2 n2 c2)) := hide hS
        have K5 := hide k53
        have K6 := hide k63
        clear hS k53 k63
        go_wp2_with fail
        refine wp_region_held_drew (S := fun W => Blk W (U2.heap.size) #[.int .i64 K.id, .int .i64 K.st, .int .i64 K.be, .int .i64 K.out, .int .i64 K.rt, .int .i64 K.gr, .int .i64 K.due, .int .i64 K.inc, .int .i64 K.got, .int .i64 K.adj, .int .i64 K.wri, .int .i64 K.rcv, .slice a3 n3 c3, .int .i64 m] 123) (by kernel_rfl) (show Blk _ _ _ _ from k2) (fun hS => ?_)
        clear k2
        refine wpAnyH_take (i := 0) (v := .pointer (some ⟨U2.heap.size, 0, none⟩)) rfl (by kernel_rfl) (by kernel_rfl) (by kernel_rfl) (fun _ _ _ h => h) (Or.inl ⟨by rfl, fun W hS => by go_simp⟩) hS ?_
        refine wpAnyH_take (i := 1) (v := .agg (lnA K (.slice a3 n3 c3))) rfl (by kernel_rfl) (by kernel_rfl) (by kernel_rfl) (fun _ _ _ h => h) (Or.inl ⟨by rfl, fun W hS => by have cc0 := hS.at 0 (.int .i64 K.id) rfl; have cc1 := hS.at 1 (.int .i64 K.st) rfl; have cc2 := hS.at 2 (.int .i64 K.be) rfl; have cc3 := hS.at 3 (.int .i64 K.out) rfl; have cc4 := hS.at 4 (.int .i64 K.rt) rfl; have cc5 := hS.at 5 (.int .i64 K.gr) rfl; have cc6 := hS.at 6 (.int .i64 K.due) rfl; have cc7 := hS.at 7 (.int .i64 K.inc) rfl; have cc8 := hS.at 8 (.int .i64 K.got) rfl; have cc9 := hS.at 9 (.int .i64 K.adj) rfl; have cc10 := hS.at 10 (.int .i64 K.wri) rfl; have cc11 := hS.at 11 (.int .i64 K.rcv) rfl; have cc12 := hS.at 12 (.slice a3 n3 c3) rfl; go_simp⟩) hS ?_
        refine wpAnyH_take (i := 2) (v := .pointer (some ⟨U2.heap.size, 13, none⟩)) rfl (by kernel_rfl) (by kernel_rfl) (by kernel_rfl) (fun _ _ _ h => h) (Or.inl ⟨by rfl, fun W hS => by go_simp⟩) hS ?_
        refine wpAnyH_take (i := 3) (v := .int .i64 m) rfl (by kernel_rfl) (by kernel_rfl) (by kernel_rfl) (fun _ _ _ h => h) (Or.inl ⟨by rfl, fun W hS => by have c0 := hS.at 13 _ rfl; go_simp⟩) hS ?_
        refine wpAnyH_take (i := 4) (v := .int .i64 e) rfl (by kernel_rfl) (by kernel_rfl) (by kernel_rfl) (fun _ _ _ h => h) (Or.inl ⟨by rfl, fun W hS => by go_simp⟩) hS ?_
        replace HSJ := hide (unhide HSJ).drew
        replace K5 := hide (unhide K5).drew
        generalize hX : WW.drew = WZ at *
        clear hX
        refine wpAnyH_all (rs := [5]) (by kernel_rfl) (by simp) (AllReadyH.cons (i := 5) rfl (fun KK hK => ?_) AllReadyH.nil)
        rw [if_pos (by rfl)]
        replace hS := hide hS
        have y0 := Blk.c13 (show Blk _ _ _ _ from (unhide HSJ).b2)
        have v0 := Blk.z13 (show Blk _ _ _ _ from (unhide HSJ).b2)
        go_wp2_with fail
        clear y0 v0
        generalize hW : World.setCell _ _ _ = WX
        have k2 : Blk WX (w.heap.size + 1 + 1) (lnA K (.slice a3 n3 c3)) 53 := by rw [← hW]; exact (show Blk _ _ _ _ from (unhide HSJ).b2).wr13 _ _ _ _ _ _ _ _ _ _ _ _ _
        have k4 : Below w.heap.size w WX := by rw [← hW]; exact below_putN (by omega) [_, _, _, _, _, _, _, _, _, _, _, _, _] 0 (unhide HSJ).bel
        have k5 : Row WX (.slice a3 n3 c3) l3 := by rw [← hW]; exact Row.offN (fun x hx => by have := unhide K6 x hx; omega) [_, _, _, _, _, _, _, _, _, _, _, _, _] 0 (unhide K5)
        have k6 : ∀ x, a3 = some x → w.heap.size ≤ x.block := fun x hx => by have := unhide K6 x hx; omega
        have k7 := unhide HS3
        have hSA : Blk WX (U2.heap.size) #[.int .i64 K.id, .int .i64 K.st, .int .i64 K.be, .int .i64 K.out, .int .i64 K.rt, .int .i64 K.gr, .int .i64 K.due, .int .i64 K.inc, .int .i64 K.got, .int .i64 K.adj, .int .i64 K.wri, .int .i64 K.rcv, .slice a3 n3 c3, .int .i64 m] 123 := by rw [← hW]; exact Blk.offN (by omega) [_, _, _, _, _, _, _, _, _, _, _, _, _] 0 (unhide hS)
        clear hW hS
        refine hK.out _ _ hSA (fun hS => ?_)
        clear hK hSA
        refine wpAnyH_all (rs := [6]) (by kernel_rfl) (by simp) (AllReadyH.cons (i := 6) rfl (fun KK hK => ?_) AllReadyH.nil)
        rw [if_pos (by rfl)]
        replace hS := hide hS
        go_wp2_with fail
        refine hK.out _ _ (unhide hS) (fun hS => ?_)
        clear hK
        refine wpAnyH_all (rs := [7]) (by kernel_rfl) (by simp) (AllReadyH.cons (i := 7) rfl (fun KK hK => ?_) AllReadyH.nil)
        rw [if_pos (by rfl)]
        replace hS := hide hS
        go_wp2_with fail
        refine hK.out _ _ (unhide hS) (fun hS => ?_)
        clear hK
        refine wpAnyH_done (by kernel_rfl) ?_ _
        replace hS := hide hS
        go_wp2_with fail
        have p0 := k2.c13
        exact bodyPost_ret (v := .tuple #[.agg (lnA K (.slice a3 n3 c3)), .int .i64 m, .int .i64 e]) (by simp [results, Try.results40, go_sem, p0]) rfl ⟨a3, c3, rfl, k5, k7, k6, k4⟩
    · rw [if_pos (by rfl)]
      replace hS := hide hS
      go_wp2_with fail
      have hb := below1L U1 (.cells #[.int .i64 0, .int .i64 0, .int .i64 0, .int .i64 0, .int .i64 0, .int .i64 0, .int .i64 0, .int .i64 0, .int .i64 0, .int .i64 0, .int .i64 0, .int .i64 0, .slice none 0 0, .int .i64 0] 123)
      replace HM := hide ((show Blk _ _ _ _ from unhide HM).keep hb)
      have HD := hide (Blk.new U1 #[.int .i64 0, .int .i64 0, .int .i64 0, .int .i64 0, .int .i64 0, .int .i64 0, .int .i64 0, .int .i64 0, .int .i64 0, .int .i64 0, .int .i64 0, .int .i64 0, .slice none 0 0, .int .i64 0] 123)
      have lw := (show Blk _ _ _ _ from (unhide hS).b2).lt
      refine hK.out _ _ ((unhide hS).keep hb) (fun hS => ?_)
      clear hK hb
      generalize hU7 : U1.alloc (.cells #[.int .i64 0, .int .i64 0, .int .i64 0, .int .i64 0, .int .i64 0, .int .i64 0, .int .i64 0, .int .i64 0, .int .i64 0, .int .i64 0, .int .i64 0, .int .i64 0, .slice none 0 0, .int .i64 0] 123) = U7 at *
      clear hU7
      refine wpAnyH_all (rs := [4]) (by kernel_rfl) (by simp) (AllReadyH.cons (i := 4) rfl (fun KK hK => ?_) AllReadyH.nil)
      rw [if_pos (by rfl)]
      replace hS := hide hS
      go_wp2_with fail
      have hb := below1L U7 (.cells #[.func (.func 92) #[] #[], .func (.func 93) #[] #[], .func (.func 131) #[] #[.pointer (some ⟨V0.heap.size, 0, none⟩)]] 115)
      replace HM := hide ((show Blk _ _ _ _ from unhide HM).keep hb)
      replace HD := hide ((show Blk _ _ _ _ from unhide HD).keep hb)
      have HF := hide (Blk.new U7 #[.func (.func 92) #[] #[], .func (.func 93) #[] #[], .func (.func 131) #[] #[.pointer (some ⟨V0.heap.size, 0, none⟩)]] 115)
      refine hK.out _ _ ((unhide hS).keep hb) (fun hS => ?_)
      clear hK hb
      generalize hU8 : U7.alloc (.cells #[.func (.func 92) #[] #[], .func (.func 93) #[] #[], .func (.func 131) #[] #[.pointer (some ⟨V0.heap.size, 0, none⟩)]] 115) = U8 at *
      clear hU8
      refine wpAnyH_all (rs := [5]) (by kernel_rfl) (by simp) (AllReadyH.cons (i := 5) rfl (fun KK hK => ?_) AllReadyH.nil)
      rw [if_pos (by rfl)]
      replace hS := hide hS
      go_wp2_with fail
      refine (unhide HT U8 (U7.heap.size) (V0.heap.size) (w.heap.size + 1) (unhide hS).bel (unhide HF) ((show Blk _ _ _ _ from (unhide hS).b1).at 0 _ rfl) ((show Blk _ _ _ _ from unhide HM).at 0 _ rfl)).mono ?_
      rintro z U9 ⟨a3, c3, rfl, hr3, hs3, hf3, hb⟩
      have HN3 : Hid (∀ x, a3 = some x → U8.heap.size ≤ x.block) := hide hf3
      have HR3 := hide hr3
      have HS3 := hide hs3
      have ld := (show Blk _ _ _ _ from unhide HD).lt
      replace HM := hide ((show Blk _ _ _ _ from unhide HM).keep hb)
      replace HD := hide ((show Blk _ _ _ _ from unhide HD).keep hb)
      replace HF := hide ((show Blk _ _ _ _ from unhide HF).keep hb)
      have hSA := hide ((unhide hS).keep hb)
      have lz := (show Blk _ _ _ _ from (unhide hS).b2).lt
      go_wp2_with fail
      refine hK.out _ _ (unhide hSA) (fun hS => ?_)
      clear hK hSA hb hr3 hs3 hf3
      refine wpAnyH_take (i := 6) (v := .tuple #[.agg #[.int .i64 K.id, .int .i64 K.st, .int .i64 K.be, .int .i64 K.out, .int .i64 K.rt, .int .i64 K.gr, .int .i64 K.due, .int .i64 K.inc, .int .i64 K.got, .int .i64 K.adj, .int .i64 K.wri, .int .i64 K.rcv, .slice a3 n3 c3, .int .i64 m], .int .i64 e]) rfl (by kernel_rfl) (by kernel_rfl) (by kernel_rfl) (fun _ _ _ h => h) (Or.inl ⟨by rfl, fun W hS => by go_simp⟩) hS ?_
      refine wpAnyH_take (i := 7) (v := .agg #[.int .i64 K.id, .int .i64 K.st, .int .i64 K.be, .int .i64 K.out, .int .i64 K.rt, .int .i64 K.gr, .int .i64 K.due, .int .i64 K.inc, .int .i64 K.got, .int .i64 K.adj, .int .i64 K.wri, .int .i64 K.rcv, .slice a3 n3 c3, .int .i64 m]) rfl (by kernel_rfl) (by kernel_rfl) (by kernel_rfl) (fun _ _ _ h => h) (Or.inl ⟨by rfl, fun W hS => by go_simp⟩) hS ?_
      refine wpAnyH_take (i := 8) (v := .int .i64 e) rfl (by kernel_rfl) (by kernel_rfl) (by kernel_rfl) (fun _ _ _ h => h) (Or.inl ⟨by rfl, fun W hS => by go_simp⟩) hS ?_
      refine wpAnyH_all (rs := [10]) (by kernel_rfl) (by simp) (AllReadyH.cons (i := 10) rfl (fun KK hK => ?_) AllReadyH.nil)
      rw [if_pos (by rfl)]
      have y0 := Blk.c14 (show Blk _ _ _ _ from unhide HD)
      have v0 := Blk.z14 (show Blk _ _ _ _ from unhide HD)
      replace hS := hide hS
      go_wp2_with fail
      clear y0 v0
      generalize hW : World.setCell _ _ _ = WW
      have h9 : w.heap.size + 2 < U1.heap.size := by omega
      have k2 : Blk WW (U1.heap.size) #[.int .i64 K.id, .int .i64 K.st, .int .i64 K.be, .int .i64 K.out, .int .i64 K.rt, .int .i64 K.gr, .int .i64 K.due, .int .i64 K.inc, .int .i64 K.got, .int .i64 K.adj, .int .i64 K.wri, .int .i64 K.rcv, .slice a3 n3 c3, .int .i64 m] 123 := by rw [← hW]; exact (show Blk _ _ _ _ from unhide HD).wr14 _ _ _ _ _ _ _ _ _ _ _ _ _ _
      have hSA : SJ w WW (lnA L (.slice a n c)) (.slice a2 n2 c2) := by rw [← hW]; exact (unhide hS).off h9 [.int .i64 K.id, .int .i64 K.st, .int .i64 K.be, .int .i64 K.out, .int .i64 K.rt, .int .i64 K.gr, .int .i64 K.due, .int .i64 K.inc, .int .i64 K.got, .int .i64 K.adj, .int .i64 K.wri, .int .i64 K.rcv, .slice a3 n3 c3, .int .i64 m]
      have k53 : Row WW (.slice a3 n3 c3) l3 := by rw [← hW]; exact Row.offN (fun x hx => by have := unhide HN3 x hx; omega) [_, _, _, _, _, _, _, _, _, _, _, _, _, _] 0 (unhide HR3)
      have k63 : ∀ x, a3 = some x → w.heap.size + 1 + 1 < x.block := fun x hx => by have := unhide HN3 x hx; omega
      clear hW hS HD
      refine hK.out _ _ hSA (fun hS => ?_)
      clear hK hSA
      refine wpAnyH_all (rs := [11]) (by kernel_rfl) (by simp) (AllReadyH.cons (i := 11) rfl (fun KK hK => ?_) AllReadyH.nil)
      rw [if_pos (by rfl)]
      have hSB := hide hS
      clear hS
      go_wp2_with fail
      refine hK.out _ _ (unhide hSB) (fun hS => ?_)
      clear hK hSB
      refine wpAnyH_done (by kernel_rfl) ?_ _
      have HSJ : Hid (SJ w WW (lnA L (.slice a n c)) (.slice a2 n2 c2)) := hide hS
      have K5 := hide k53
      have K6 := hide k63
      clear hS k53 k63
      go_wp2_with fail
      refine wp_region_held_drew (S := fun W => Blk W (U1.heap.size) #[.int .i64 K.id, .int .i64 K.st, .int .i64 K.be, .int .i64 K.out, .int .i64 K.rt, .int .i64 K.gr, .int .i64 K.due, .int .i64 K.inc, .int .i64 K.got, .int .i64 K.adj, .int .i64 K.wri, .int .i64 K.rcv, .slice a3 n3 c3, .int .i64 m] 123) (by kernel_rfl) (show Blk _ _ _ _ from k2) (fun hS => ?_)
      clear k2
      refine wpAnyH_take (i := 0) (v := .pointer (some ⟨U1.heap.size, 0, none⟩)) rfl (by kernel_rfl) (by kernel_rfl) (by kernel_rfl) (fun _ _ _ h => h) (Or.inl ⟨by rfl, fun W hS => by go_simp⟩) hS ?_
      refine wpAnyH_take (i := 1) (v := .agg (lnA K (.slice a3 n3 c3))) rfl (by kernel_rfl) (by kernel_rfl) (by kernel_rfl) (fun _ _ _ h => h) (Or.inl ⟨by rfl, fun W hS => by have cc0 := hS.at 0 (.int .i64 K.id) rfl; have cc1 := hS.at 1 (.int .i64 K.st) rfl; have cc2 := hS.at 2 (.int .i64 K.be) rfl; have cc3 := hS.at 3 (.int .i64 K.out) rfl; have cc4 := hS.at 4 (.int .i64 K.rt) rfl; have cc5 := hS.at 5 (.int .i64 K.gr) rfl; have cc6 := hS.at 6 (.int .i64 K.due) rfl; have cc7 := hS.at 7 (.int .i64 K.inc) rfl; have cc8 := hS.at 8 (.int .i64 K.got) rfl; have cc9 := hS.at 9 (.int .i64 K.adj) rfl; have cc10 := hS.at 10 (.int .i64 K.wri) rfl; have cc11 := hS.at 11 (.int .i64 K.rcv) rfl; have cc12 := hS.at 12 (.slice a3 n3 c3) rfl; go_simp⟩) hS ?_
      refine wpAnyH_take (i := 2) (v := .pointer (some ⟨U1.heap.size, 13, none⟩)) rfl (by kernel_rfl) (by kernel_rfl) (by kernel_rfl) (fun _ _ _ h => h) (Or.inl ⟨by rfl, fun W hS => by go_simp⟩) hS ?_
      refine wpAnyH_take (i := 3) (v := .int .i64 m) rfl (by kernel_rfl) (by kernel_rfl) (by kernel_rfl) (fun _ _ _ h => h) (Or.inl ⟨by rfl, fun W hS => by have c0 := hS.at 13 _ rfl; go_simp⟩) hS ?_
      refine wpAnyH_take (i := 4) (v := .int .i64 e) rfl (by kernel_rfl) (by kernel_rfl) (by kernel_rfl) (fun _ _ _ h => h) (Or.inl ⟨by rfl, fun W hS => by go_simp⟩) hS ?_
      replace HSJ := hide (unhide HSJ).drew
      replace K5 := hide (unhide K5).drew
      generalize hX : WW.drew = WZ at *
      clear hX
      refine wpAnyH_all (rs := [5]) (by kernel_rfl) (by simp) (AllReadyH.cons (i := 5) rfl (fun KK hK => ?_) AllReadyH.nil)
      rw [if_pos (by rfl)]
      replace hS := hide hS
      have y0 := Blk.c13 (show Blk _ _ _ _ from (unhide HSJ).b2)
      have v0 := Blk.z13 (show Blk _ _ _ _ from (unhide HSJ).b2)
      go_wp2_with fail
      clear y0 v0
      generalize hW : World.setCell _ _ _ = WX
      have k2 : Blk WX (w.heap.size + 1 + 1) (lnA K (.slice a3 n3 c3)) 53 := by rw [← hW]; exact (show Blk _ _ _ _ from (unhide HSJ).b2).wr13 _ _ _ _ _ _ _ _ _ _ _ _ _
      have k4 : Below w.heap.size w WX := by rw [← hW]; exact below_putN (by omega) [_, _, _, _, _, _, _, _, _, _, _, _, _] 0 (unhide HSJ).bel
      have k5 : Row WX (.slice a3 n3 c3) l3 := by rw [← hW]; exact Row.offN (fun x hx => by have := unhide K6 x hx; omega) [_, _, _, _, _, _, _, _, _, _, _, _, _] 0 (unhide K5)
      have k6 : ∀ x, a3 = some x → w.heap.size ≤ x.block := fun x hx => by have := unhide K6 x hx; omega
      have k7 := unhide HS3
      have hSA : Blk WX (U1.heap.size) #[.int .i64 K.id, .int .i64 K.st, .int .i64 K.be, .int .i64 K.out, .int .i64 K.rt, .int .i64 K.gr, .int .i64 K.due, .int .i64 K.inc, .int .i64 K.got, .int .i64 K.adj, .int .i64 K.wri, .int .i64 K.rcv, .slice a3 n3 c3, .int .i64 m] 123 := by rw [← hW]; exact Blk.offN (by omega) [_, _, _, _, _, _, _, _, _, _, _, _, _] 0 (unhide hS)
      clear hW hS
      refine hK.out _ _ hSA (fun hS => ?_)
      clear hK hSA
      refine wpAnyH_all (rs := [6]) (by kernel_rfl) (by simp) (AllReadyH.cons (i := 6) rfl (fun KK hK => ?_) AllReadyH.nil)
      rw [if_pos (by rfl)]
      replace hS := hide hS
      go_wp2_with fail
      refine hK.out _ _ (unhide hS) (fun hS => ?_)
      clear hK
      refine wpAnyH_all (rs := [7]) (by kernel_rfl) (by simp) (AllReadyH.cons (i := 7) rfl (fun KK hK => ?_) AllReadyH.nil)
      rw [if_pos (by rfl)]
      replace hS := hide hS
      go_wp2_with fail
      refine hK.out _ _ (unhide hS) (fun hS => ?_)
      clear hK
      refine wpAnyH_done (by kernel_rfl) ?_ _
      replace hS := hide hS
      go_wp2_with fail
      have p0 := k2.c13
      exact bodyPost_ret (v := .tuple #[.agg (lnA K (.slice a3 n3 c3)), .int .i64 m, .int .i64 e]) (by simp [results, Try.results40, go_sem, p0]) rfl ⟨a3, c3, rfl, k5, k7, k6, k4⟩
  · rw [if_pos (by rfl)]
    replace hS := hide hS
    go_wp2_with fail
    have hb := below1L V0 (.cells #[.int .i64 0, .int .i64 0, .int .i64 0, .int .i64 0, .int .i64 0, .int .i64 0, .int .i64 0, .int .i64 0, .int .i64 0, .int .i64 0, .int .i64 0, .int .i64 0, .slice none 0 0, .int .i64 0] 123)
    have HD := hide (Blk.new V0 #[.int .i64 0, .int .i64 0, .int .i64 0, .int .i64 0, .int .i64 0, .int .i64 0, .int .i64 0, .int .i64 0, .int .i64 0, .int .i64 0, .int .i64 0, .int .i64 0, .slice none 0 0, .int .i64 0] 123)
    have lw := (show Blk _ _ _ _ from (unhide hS).b2).lt
    refine hK.out _ _ ((unhide hS).keep hb) (fun hS => ?_)
    clear hK hb
    generalize hU10 : V0.alloc (.cells #[.int .i64 0, .int .i64 0, .int .i64 0, .int .i64 0, .int .i64 0, .int .i64 0, .int .i64 0, .int .i64 0, .int .i64 0, .int .i64 0, .int .i64 0, .int .i64 0, .slice none 0 0, .int .i64 0] 123) = U10 at *
    clear hU10
    refine wpAnyH_all (rs := [3]) (by kernel_rfl) (by simp) (AllReadyH.cons (i := 3) rfl (fun KK hK => ?_) AllReadyH.nil)
    rw [if_pos (by rfl)]
    replace hS := hide hS
    go_wp2_with fail
    refine (mc_any a2 n2 c2 _).mono ?_
    rintro z w1 ⟨rfl, rfl⟩
    go_wp2_with fail
    have hb := below1L U10 (.cells #[.slice a2 n2 c2] 22)
    replace HD := hide ((show Blk _ _ _ _ from unhide HD).keep hb)
    have HM := hide (Blk.new U10 #[.slice a2 n2 c2] 22)
    refine hK.out _ _ ((unhide hS).keep hb) (fun hS => ?_)
    clear hK hb
    generalize hU11 : U10.alloc (.cells #[.slice a2 n2 c2] 22) = U11 at *
    clear hU11
    refine wpAnyH_all (rs := [4]) (by kernel_rfl) (by simp) (AllReadyH.cons (i := 4) rfl (fun KK hK => ?_) AllReadyH.nil)
    rw [if_pos (by rfl)]
    replace hS := hide hS
    go_wp2_with fail
    have hb := below1L U11 (.cells #[.func (.func 92) #[] #[], .func (.func 93) #[] #[], .func (.func 131) #[] #[.pointer (some ⟨U10.heap.size, 0, none⟩)]] 115)
    replace HD := hide ((show Blk _ _ _ _ from unhide HD).keep hb)
    replace HM := hide ((show Blk _ _ _ _ from unhide HM).keep hb)
    have HF := hide (Blk.new U11 #[.func (.func 92) #[] #[], .func (.func 93) #[] #[], .func (.func 131) #[] #[.pointer (some ⟨U10.heap.size, 0, none⟩)]] 115)
    refine hK.out _ _ ((unhide hS).keep hb) (fun hS => ?_)
    clear hK hb
    generalize hU12 : U11.alloc (.cells #[.func (.func 92) #[] #[], .func (.func 93) #[] #[], .func (.func 131) #[] #[.pointer (some ⟨U10.heap.size, 0, none⟩)]] 115) = U12 at *
    clear hU12
    refine wpAnyH_all (rs := [5]) (by kernel_rfl) (by simp) (AllReadyH.cons (i := 5) rfl (fun KK hK => ?_) AllReadyH.nil)
    rw [if_pos (by rfl)]
    replace hS := hide hS
    go_wp2_with fail
    refine (unhide HT U12 (U11.heap.size) (U10.heap.size) (w.heap.size + 1) (unhide hS).bel (unhide HF) ((show Blk _ _ _ _ from (unhide hS).b1).at 0 _ rfl) ((show Blk _ _ _ _ from unhide HM).at 0 _ rfl)).mono ?_
    rintro z U13 ⟨a3, c3, rfl, hr3, hs3, hf3, hb⟩
    have HN3 : Hid (∀ x, a3 = some x → U12.heap.size ≤ x.block) := hide hf3
    have HR3 := hide hr3
    have HS3 := hide hs3
    have ld := (show Blk _ _ _ _ from unhide HD).lt
    replace HD := hide ((show Blk _ _ _ _ from unhide HD).keep hb)
    replace HM := hide ((show Blk _ _ _ _ from unhide HM).keep hb)
    replace HF := hide ((show Blk _ _ _ _ from unhide HF).keep hb)
    have hSA := hide ((unhide hS).keep hb)
    have lz := (show Blk _ _ _ _ from (unhide hS).b2).lt
    go_wp2_with fail
    refine hK.out _ _ (unhide hSA) (fun hS => ?_)
    clear hK hSA hb hr3 hs3 hf3
    refine wpAnyH_take (i := 6) (v := .tuple #[.agg #[.int .i64 K.id, .int .i64 K.st, .int .i64 K.be, .int .i64 K.out, .int .i64 K.rt, .int .i64 K.gr, .int .i64 K.due, .int .i64 K.inc, .int .i64 K.got, .int .i64 K.adj, .int .i64 K.wri, .int .i64 K.rcv, .slice a3 n3 c3, .int .i64 m], .int .i64 e]) rfl (by kernel_rfl) (by kernel_rfl) (by kernel_rfl) (fun _ _ _ h => h) (Or.inl ⟨by rfl, fun W hS => by go_simp⟩) hS ?_
    refine wpAnyH_take (i := 7) (v := .agg #[.int .i64 K.id, .int .i64 K.st, .int .i64 K.be, .int .i64 K.out, .int .i64 K.rt, .int .i64 K.gr, .int .i64 K.due, .int .i64 K.inc, .int .i64 K.got, .int .i64 K.adj, .int .i64 K.wri, .int .i64 K.rcv, .slice a3 n3 c3, .int .i64 m]) rfl (by kernel_rfl) (by kernel_rfl) (by kernel_rfl) (fun _ _ _ h => h) (Or.inl ⟨by rfl, fun W hS => by go_simp⟩) hS ?_
    refine wpAnyH_take (i := 8) (v := .int .i64 e) rfl (by kernel_rfl) (by kernel_rfl) (by kernel_rfl) (fun _ _ _ h => h) (Or.inl ⟨by rfl, fun W hS => by go_simp⟩) hS ?_
    refine wpAnyH_all (rs := [10]) (by kernel_rfl) (by simp) (AllReadyH.cons (i := 10) rfl (fun KK hK => ?_) AllReadyH.nil)
    rw [if_pos (by rfl)]
    have y0 := Blk.c14 (show Blk _ _ _ _ from unhide HD)
    have v0 := Blk.z14 (show Blk _ _ _ _ from unhide HD)
    replace hS := hide hS
    go_wp2_with fail
    clear y0 v0
    generalize hW : World.setCell _ _ _ = WW
    have h9 : w.heap.size + 2 < V0.heap.size := by omega
    have k2 : Blk WW (V0.heap.size) #[.int .i64 K.id, .int .i64 K.st, .int .i64 K.be, .int .i64 K.out, .int .i64 K.rt, .int .i64 K.gr, .int .i64 K.due, .int .i64 K.inc, .int .i64 K.got, .int .i64 K.adj, .int .i64 K.wri, .int .i64 K.rcv, .slice a3 n3 c3, .int .i64 m] 123 := by rw [← hW]; exact (show Blk _ _ _ _ from unhide HD).wr14 _ _ _ _ _ _ _ _ _ _ _ _ _ _
    have hSA : SJ w WW (lnA L (.slice a n c)) (.slice a2 n2 c2) := by rw [← hW]; exact (unhide hS).off h9 [.int .i64 K.id, .int .i64 K.st, .int .i64 K.be, .int .i64 K.out, .int .i64 K.rt, .int .i64 K.gr, .int .i64 K.due, .int .i64 K.inc, .int .i64 K.got, .int .i64 K.adj, .int .i64 K.wri, .int .i64 K.rcv, .slice a3 n3 c3, .int .i64 m]
    have k53 : Row WW (.slice a3 n3 c3) l3 := by rw [← hW]; exact Row.offN (fun x hx => by have := unhide HN3 x hx; omega) [_, _, _, _, _, _, _, _, _, _, _, _, _, _] 0 (unhide HR3)
    have k63 : ∀ x, a3 = some x → w.heap.size + 1 + 1 < x.block := fun x hx => by have := unhide HN3 x hx; omega
    clear hW hS HD
    refine hK.out _ _ hSA (fun hS => ?_)
    clear hK hSA
    refine wpAnyH_all (rs := [11]) (by kernel_rfl) (by simp) (AllReadyH.cons (i := 11) rfl (fun KK hK => ?_) AllReadyH.nil)
    rw [if_pos (by rfl)]
    have hSB := hide hS
    clear hS
    go_wp2_with fail
    refine hK.out _ _ (unhide hSB) (fun hS => ?_)
    clear hK hSB
    refine wpAnyH_done (by kernel_rfl) ?_ _
    have HSJ : Hid (SJ w WW (lnA L (.slice a n c)) (.slice a2 n2 c2)) := hide hS
    have K5 := hide k53
    have K6 := hide k63
    clear hS k53 k63
    go_wp2_with fail
    refine wp_region_held_drew (S := fun W => Blk W (V0.heap.size) #[.int .i64 K.id, .int .i64 K.st, .int .i64 K.be, .int .i64 K.out, .int .i64 K.rt, .int .i64 K.gr, .int .i64 K.due, .int .i64 K.inc, .int .i64 K.got, .int .i64 K.adj, .int .i64 K.wri, .int .i64 K.rcv, .slice a3 n3 c3, .int .i64 m] 123) (by kernel_rfl) (show Blk _ _ _ _ from k2) (fun hS => ?_)
    clear k2
    refine wpAnyH_take (i := 0) (v := .pointer (some ⟨V0.heap.size, 0, none⟩)) rfl (by kernel_rfl) (by kernel_rfl) (by kernel_rfl) (fun _ _ _ h => h) (Or.inl ⟨by rfl, fun W hS => by go_simp⟩) hS ?_
    refine wpAnyH_take (i := 1) (v := .agg (lnA K (.slice a3 n3 c3))) rfl (by kernel_rfl) (by kernel_rfl) (by kernel_rfl) (fun _ _ _ h => h) (Or.inl ⟨by rfl, fun W hS => by have cc0 := hS.at 0 (.int .i64 K.id) rfl; have cc1 := hS.at 1 (.int .i64 K.st) rfl; have cc2 := hS.at 2 (.int .i64 K.be) rfl; have cc3 := hS.at 3 (.int .i64 K.out) rfl; have cc4 := hS.at 4 (.int .i64 K.rt) rfl; have cc5 := hS.at 5 (.int .i64 K.gr) rfl; have cc6 := hS.at 6 (.int .i64 K.due) rfl; have cc7 := hS.at 7 (.int .i64 K.inc) rfl; have cc8 := hS.at 8 (.int .i64 K.got) rfl; have cc9 := hS.at 9 (.int .i64 K.adj) rfl; have cc10 := hS.at 10 (.int .i64 K.wri) rfl; have cc11 := hS.at 11 (.int .i64 K.rcv) rfl; have cc12 := hS.at 12 (.slice a3 n3 c3) rfl; go_simp⟩) hS ?_
    refine wpAnyH_take (i := 2) (v := .pointer (some ⟨V0.heap.size, 13, none⟩)) rfl (by kernel_rfl) (by kernel_rfl) (by kernel_rfl) (fun _ _ _ h => h) (Or.inl ⟨by rfl, fun W hS => by go_simp⟩) hS ?_
    refine wpAnyH_take (i := 3) (v := .int .i64 m) rfl (by kernel_rfl) (by kernel_rfl) (by kernel_rfl) (fun _ _ _ h => h) (Or.inl ⟨by rfl, fun W hS => by have c0 := hS.at 13 _ rfl; go_simp⟩) hS ?_
    refine wpAnyH_take (i := 4) (v := .int .i64 e) rfl (by kernel_rfl) (by kernel_rfl) (by kernel_rfl) (fun _ _ _ h => h) (Or.inl ⟨by rfl, fun W hS => by go_simp⟩) hS ?_
    replace HSJ := hide (unhide HSJ).drew
    replace K5 := hide (unhide K5).drew
    generalize hX : WW.drew = WZ at *
    clear hX
    refine wpAnyH_all (rs := [5]) (by kernel_rfl) (by simp) (AllReadyH.cons (i := 5) rfl (fun KK hK => ?_) AllReadyH.nil)
    rw [if_pos (by rfl)]
    replace hS := hide hS
    have y0 := Blk.c13 (show Blk _ _ _ _ from (unhide HSJ).b2)
    have v0 := Blk.z13 (show Blk _ _ _ _ from (unhide HSJ).b2)
    go_wp2_with fail
    clear y0 v0
    generalize hW : World.setCell _ _ _ = WX
    have k2 : Blk WX (w.heap.size + 1 + 1) (lnA K (.slice a3 n3 c3)) 53 := by rw [← hW]; exact (show Blk _ _ _ _ from (unhide HSJ).b2).wr13 _ _ _ _ _ _ _ _ _ _ _ _ _
    have k4 : Below w.heap.size w WX := by rw [← hW]; exact below_putN (by omega) [_, _, _, _, _, _, _, _, _, _, _, _, _] 0 (unhide HSJ).bel
    have k5 : Row WX (.slice a3 n3 c3) l3 := by rw [← hW]; exact Row.offN (fun x hx => by have := unhide K6 x hx; omega) [_, _, _, _, _, _, _, _, _, _, _, _, _] 0 (unhide K5)
    have k6 : ∀ x, a3 = some x → w.heap.size ≤ x.block := fun x hx => by have := unhide K6 x hx; omega
    have k7 := unhide HS3
    have hSA : Blk WX (V0.heap.size) #[.int .i64 K.id, .int .i64 K.st, .int .i64 K.be, .int .i64 K.out, .int .i64 K.rt, .int .i64 K.gr, .int .i64 K.due, .int .i64 K.inc, .int .i64 K.got, .int .i64 K.adj, .int .i64 K.wri, .int .i64 K.rcv, .slice a3 n3 c3, .int .i64 m] 123 := by rw [← hW]; exact Blk.offN (by omega) [_, _, _, _, _, _, _, _, _, _, _, _, _] 0 (unhide hS)
    clear hW hS
    refine hK.out _ _ hSA (fun hS => ?_)
    clear hK hSA
    refine wpAnyH_all (rs := [6]) (by kernel_rfl) (by simp) (AllReadyH.cons (i := 6) rfl (fun KK hK => ?_) AllReadyH.nil)
    rw [if_pos (by rfl)]
    replace hS := hide hS
    go_wp2_with fail
    refine hK.out _ _ (unhide hS) (fun hS => ?_)
    clear hK
    refine wpAnyH_all (rs := [7]) (by kernel_rfl) (by simp) (AllReadyH.cons (i := 7) rfl (fun KK hK => ?_) AllReadyH.nil)
    rw [if_pos (by rfl)]
    replace hS := hide hS
    go_wp2_with fail
    refine hK.out _ _ (unhide hS) (fun hS => ?_)
    clear hK
    refine wpAnyH_done (by kernel_rfl) ?_ _
    replace hS := hide hS
    go_wp2_with fail
    have p0 := k2.c13
    exact bodyPost_ret (v := .tuple #[.agg (lnA K (.slice a3 n3 c3)), .int .i64 m, .int .i64 e]) (by simp [results, Try.results40, go_sem, p0]) rfl ⟨a3, c3, rfl, k5, k7, k6, k4⟩
end Go.Proofs.Ytpeoabopeihadaa.Mn
