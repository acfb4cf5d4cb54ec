/- The reference's Compare. -/
import Derived.Test.YtaknjpddjofgeaaRNeg2
namespace Go.Proofs.Ytaknjpddjofgeaa
open Go.RowKit
set_option linter.unusedSimpArgs false
theorem GRow.range0 {w : World} {b : Nat} {l : Bool} {f : Nat → Nat} (h : GRow w b l f) : w.rangeAt b 0 (gv l f).toList := by
  intro i hi
  rw [Nat.zero_add, cell_of_row w b i _ _ _ h]
  simp
theorem yields56 {ops : Array Oper} {S : World → Prop} {op : Oper} {a : Act} {x : Operand} {b : Nat} {l : Bool} {f : Nat → Nat} (hS : ∀ w, S w → GRow w b l f) (hw : Region.wanted op (yielded ops a.tmps) = true) (ho : op.op = .load 60 x) (hx : a.eval x = .pointer (some ⟨b, 0, none⟩)) : YieldsIf Try.prog ops S op (.agg (gv l f)) a := by
  have := yieldsIf_load_mid (P := Try.prog) (S := S) hw 60 x ho b 0 hx (gv l f).toList _ (fun w h => (hS w h).range0) Try.underlying60 rfl (by rw [show (gv l f).toList.length = (gv l f).size by simp]; exact size56 l f)
  simpa using this
structure CS (w wr : World) (n : Nat) (p q : Int) (m : Bool) (g : Nat → Nat) : Prop where
  ra : R28 wr w.heap.size p q
  rx : GRow wr n m g
  below : Below w.heap.size w wr
theorem CS.keep {w wr w2 : World} {n : Nat} {p q : Int} {m : Bool} {g : Nat → Nat} (t : CS w wr n p q m g) (hb : Below wr.heap.size wr w2) : CS w w2 n p q m g :=
  ⟨t.ra.keep hb t.ra.lt, t.rx.keep hb t.rx.lt, below_via t.below hb⟩
theorem R28.putOther {w : World} {b c : Nat} {x y : Int} (h : R28 w b x y) (hc : c ≠ b) (g : Array Value) : R28 (w.setRow c g) b x y := by
  unfold R28
  simp [World.setRow, Array.getElem?_modify, hc]
  exact h
theorem CS.put {w wr : World} {n o : Nat} {p q : Int} {m : Bool} {g : Nat → Nat} (t : CS w wr n p q m g) (h1 : w.heap.size < o) (h2 : n < o) (x : Array Value) : CS w (wr.setRow o x) n p q m g :=
  ⟨t.ra.putOther (by omega) _, t.rx.putOther (by omega) _, below_put t.below (by omega) _⟩
theorem big_sgn {X : Int} {l : Bool} {f : Nat → Nat} (h : Big X l f) : sgn l (val f 260) = X ∧ sgn (!l) (val f 260) = -X := by
  obtain ⟨-, hl, hv⟩ := h
  rw [hv, hl]
  by_cases h0 : X < 0
  · rw [decide_eq_true h0, sgn_t, show (!true) = false from rfl, sgn_f]; omega
  · rw [decide_eq_false h0, sgn_f, show (!false) = true from rfl, sgn_t]; omega
theorem cmp_num {X Y : Int} {V : Nat} {k : Bool} (h : sgn k V = X + -Y) : (V = 0 → ord X Y = 0) ∧ (V ≠ 0 → k = true → ord X Y = -1) ∧ (V ≠ 0 → k = false → ord X Y = 1) := by
  refine ⟨fun h0 => ?_, fun h0 hk => ?_, fun h0 hk => ?_⟩
  · subst h0
    have : X = Y := by
      cases k
      · rw [sgn_f] at h; omega
      · rw [sgn_t] at h; omega
    rw [this, ord_same]
  · subst hk; rw [sgn_t] at h; exact ord_lt (by omega)
  · subst hk; rw [sgn_f] at h; exact ord_gt (by omega)
theorem two_small {X Y : Int} {l m : Bool} {f g : Nat → Nat} (hX : In128 X) (hY : In128 Y) (hF : Big X l f) (hG : Big Y m g) : val f 260 + val g 260 < P2 260 := by
  rw [hF.2.2, hG.2.2]
  have h1 := hX.lo
  have h2 := hX.hi
  have h3 := hY.lo
  have h4 := hY.hi
  have h5 := P2_mono 129 131
  have h6 : P2 129 = 680564733841876926926749214863536422912 := by decide +kernel
  rw [h6] at h5
  have h7 : P2 (129 + 131) = P2 260 := rfl
  rw [h7] at h5
  omega
def RCmps (X Y c : Int) : Prop := ∀ w : World, Calls Try.prog 15 #[.agg #[.int .i64 (hi X), .int .u64 (lo X)], .agg #[.int .i64 (hi Y), .int .u64 (lo Y)]] w fun z w' => z = .returned (.int .i64 c) ∧ Below w.heap.size w w'
set_option maxRecDepth 20000 in
set_option maxHeartbeats 8000000 in
theorem rcmp_any (X Y : Int) (hX : In128 X) (hY : In128 Y) : RCmps X Y (ord X Y) := by
  intro w
  have hz := zero56
  have A1 := (R28.new w (hi X) (lo X)).alloc (.cells #[.int .i64 (hi Y), .int .u64 (lo Y)] 28)
  have A2 := R28.new (w.alloc (.cells #[.int .i64 (hi X), .int .u64 (lo X)] 28)) (hi Y) (lo Y)
  rw [show (w.alloc (.cells #[.int .i64 (hi X), .int .u64 (lo X)] 28)).heap.size = w.heap.size + 1 by simp] at A2
  have B := hide (((Below.refl w.heap.size w).alloc (Nat.le_refl _) (.cells #[.int .i64 (hi X), .int .u64 (lo X)] 28)).alloc (by simp) (.cells #[.int .i64 (hi Y), .int .u64 (lo Y)] 28))
  have a0 := A2.c0
  have a1 := A2.c1
  replace A1 := hide A1
  replace A2 := hide A2
  go_enter Try.func15, Try.ntmps15
  go_wp2_with fail
  clear a0 a1 A2
  refine (big_any Y hY _).mono ?_
  rintro e w1 ⟨⟨m, g, hG, rfl⟩, hb1⟩
  replace A1 := hide ((unhide A1).keep hb1 (unhide A1).lt)
  replace B := hide (below_via (unhide B) hb1)
  replace hG := hide hG
  clear hb1
  have l1 : w.heap.size < w1.heap.size := (unhide A1).lt
  obtain ⟨W3, s3, gb, bb, _⟩ := g_start w1 m g
  replace A1 := hide ((unhide A1).keep bb (unhide A1).lt)
  replace B := hide (below_via (unhide B) bb)
  have cl := gb.less
  have fl := gb.frozen 0
  replace gb := hide gb
  clear bb
  go_wp2_with fail
  clear cl fl s3
  have HC := hide (show CS w (W3.setCell ⟨w1.heap.size, 0, none⟩ (.bool !m)) w1.heap.size (hi X) (lo X) (!m) g from ⟨(unhide A1).other (a := ⟨w1.heap.size, 0, none⟩) (by show w.heap.size ≠ w1.heap.size; omega) _, (unhide gb).sign (!m), (unhide B).setCell (p := ⟨w1.heap.size, 0, none⟩) (by show w.heap.size ≤ w1.heap.size; omega) _⟩)
  clear gb A1 B
  generalize W3.setCell ⟨w1.heap.size, 0, none⟩ (.bool !m) = W4 at HC ⊢
  refine wp_region_held_drew (S := fun W => CS w W w1.heap.size (hi X) (lo X) (!m) g) (by kernel_rfl) ((unhide HC).keep (below_drew (Below.refl _ _))) (fun hS => ?_)
  clear HC
  refine wpAnyH_take (i := 0) (v := .agg #[.int .i64 (hi X), .int .u64 (lo X)]) rfl (by kernel_rfl) (by kernel_rfl) (by kernel_rfl) (fun _ _ _ h => h) (Or.inl ⟨by rfl, fun W hS => by have c0 := hS.ra.c0; have c1 := hS.ra.c1; go_simp⟩) hS ?_
  refine wpAnyH_take (i := 2) (v := .agg (gv (!m) g)) rfl (by kernel_rfl) (by kernel_rfl) (by kernel_rfl) (fun _ _ _ h => h) (yields56 (fun _ h => h.rx) (by rfl) rfl rfl) hS ?_
  generalize W4.drew = W5 at hS ⊢
  refine wpAnyH_all (rs := [1, 4]) (by kernel_rfl) (by simp) (AllReadyH.cons (i := 1) rfl (fun K hK => ?_) (AllReadyH.cons (i := 4) rfl (fun K hK => ?_) AllReadyH.nil))
  · rw [if_pos (by rfl)]
    replace hS := hide hS
    go_wp2_with fail
    refine (big_any X hX _).mono ?_
    rintro e wA ⟨⟨l, f, hF, rfl⟩, hbA⟩
    have hSA := hide ((unhide hS).keep hbA)
    replace hF := hide hF
    clear hbA hS
    go_wp2_with fail
    refine hK.out _ _ (unhide hSA) (fun hS => ?_)
    clear hK hSA
    refine wpAnyH_all (rs := [3, 4]) (by kernel_rfl) (by simp) (AllReadyH.cons (i := 3) rfl (fun K hK => ?_) (AllReadyH.cons (i := 4) rfl (fun K hK => ?_) AllReadyH.nil))
    · rw [if_pos (by rfl)]
      replace hS := hide hS
      go_wp2_with fail
      refine (sum_any l f (!m) g (unhide hF).1 (unhide hG).1 (two_small hX hY (unhide hF) (unhide hG)) _).mono ?_
      rintro e wB ⟨⟨k, h, hH, rfl⟩, hbB⟩
      have hSA := hide ((unhide hS).keep hbB)
      replace hH := hide hH
      clear hbB hS
      go_wp2_with fail
      refine hK.out _ _ (unhide hSA) (fun hS => ?_)
      clear hK hSA
      refine wpAnyH_all (rs := [4]) (by kernel_rfl) (by simp) (AllReadyH.cons (i := 4) rfl (fun K hK => ?_) AllReadyH.nil)
      rw [if_pos (by rfl)]
      have hR := hide (GRow.new wB false zb)
      have lo1 : w.heap.size < wB.heap.size := hS.ra.lt
      have lo2 : w1.heap.size < wB.heap.size := hS.rx.lt
      have hSA := hide (hS.keep ((Below.refl _ _).alloc (Nat.le_refl _) (.cells (gv false zb) 60)))
      clear hS
      go_wp2_with fail
      refine hK.out _ _ (unhide hSA) (fun hS => ?_)
      clear hK hSA
      generalize wB.alloc (.cells (gv false zb) 60) = WN at hR hS ⊢
      refine wpAnyH_all (rs := [5]) (by kernel_rfl) (by simp) (AllReadyH.cons (i := 5) rfl (fun K hK => ?_) AllReadyH.nil)
      rw [if_pos (by rfl)]
      have hst := store56c k h (unhide hR)
      replace hR := hide ((unhide hR).put (m := k) h)
      have hSA := hide (hS.put lo1 lo2 (gv k h))
      clear hS
      go_wp2_with fail
      clear hst
      refine hK.out _ _ (unhide hSA) (fun hS => ?_)
      clear hK
      have BB := hide hS.below
      clear hS hSA
      refine wpAnyH_done (by kernel_rfl) ?_ _
      have cl := (unhide hR).less
      go_wp2_with fail
      refine wp_load56 (unhide hR) rfl rfl ?_
      go_wp2_with fail
      refine (none_any k h (unhide hH).1 _).mono ?_
      rintro e wC ⟨rfl, hbC⟩
      replace hR := hide ((unhide hR).keep hbC (unhide hR).lt)
      replace BB := hide (below_via (unhide BB) hbC)
      clear hbC cl hz
      have cl := (unhide hR).less
      rw [ord_none]
      have hnum := hide (cmp_num (X := X) (Y := Y) (k := k) (V := val h 260) (by rw [(unhide hH).2.1, (big_sgn (unhide hF)).1, (big_sgn (unhide hG)).2]))
      by_cases hv : val h 260 = 0
      · rw [decide_eq_true hv]
        have hO := hide ((unhide hnum).1 hv)
        clear hv hnum
        go_wp2_with fail
        go_ret
        exact ⟨by rw [unhide hO]; rfl, unhide BB⟩
      · rw [decide_eq_false hv]
        have hO := hide (show ord X Y = (if k = true then -1 else 1) by
          cases k
          · exact (unhide hnum).2.2 hv rfl
          · exact (unhide hnum).2.1 hv rfl)
        clear hv hnum hH
        cases k
        · go_wp2_with fail
          go_ret
          exact ⟨by rw [unhide hO]; rfl, unhide BB⟩
        · go_wp2_with fail
          go_ret
          exact ⟨by rw [unhide hO]; rfl, unhide BB⟩
    · rw [if_pos (by rfl)]
      have hR := hide (GRow.new wA false zb)
      have lo1 : w.heap.size < wA.heap.size := hS.ra.lt
      have lo2 : w1.heap.size < wA.heap.size := hS.rx.lt
      have hSA := hide (hS.keep ((Below.refl _ _).alloc (Nat.le_refl _) (.cells (gv false zb) 60)))
      clear hS
      go_wp2_with fail
      refine hK.out _ _ (unhide hSA) (fun hS => ?_)
      clear hK hSA
      generalize wA.alloc (.cells (gv false zb) 60) = WN at hR hS ⊢
      refine wpAnyH_all (rs := [3]) (by kernel_rfl) (by simp) (AllReadyH.cons (i := 3) rfl (fun K hK => ?_) AllReadyH.nil)
      rw [if_pos (by rfl)]
      replace hS := hide hS
      go_wp2_with fail
      refine (sum_any l f (!m) g (unhide hF).1 (unhide hG).1 (two_small hX hY (unhide hF) (unhide hG)) _).mono ?_
      rintro e wB ⟨⟨k, h, hH, rfl⟩, hbB⟩
      have hSA := hide ((unhide hS).keep hbB)
      replace hR := hide ((unhide hR).keep hbB (unhide hR).lt)
      replace hH := hide hH
      clear hbB hS
      go_wp2_with fail
      refine hK.out _ _ (unhide hSA) (fun hS => ?_)
      clear hK hSA
      refine wpAnyH_all (rs := [5]) (by kernel_rfl) (by simp) (AllReadyH.cons (i := 5) rfl (fun K hK => ?_) AllReadyH.nil)
      rw [if_pos (by rfl)]
      have hst := store56c k h (unhide hR)
      replace hR := hide ((unhide hR).put (m := k) h)
      have hSA := hide (hS.put lo1 lo2 (gv k h))
      clear hS
      go_wp2_with fail
      clear hst
      refine hK.out _ _ (unhide hSA) (fun hS => ?_)
      clear hK
      have BB := hide hS.below
      clear hS hSA
      refine wpAnyH_done (by kernel_rfl) ?_ _
      have cl := (unhide hR).less
      go_wp2_with fail
      refine wp_load56 (unhide hR) rfl rfl ?_
      go_wp2_with fail
      refine (none_any k h (unhide hH).1 _).mono ?_
      rintro e wC ⟨rfl, hbC⟩
      replace hR := hide ((unhide hR).keep hbC (unhide hR).lt)
      replace BB := hide (below_via (unhide BB) hbC)
      clear hbC cl hz
      have cl := (unhide hR).less
      rw [ord_none]
      have hnum := hide (cmp_num (X := X) (Y := Y) (k := k) (V := val h 260) (by rw [(unhide hH).2.1, (big_sgn (unhide hF)).1, (big_sgn (unhide hG)).2]))
      by_cases hv : val h 260 = 0
      · rw [decide_eq_true hv]
        have hO := hide ((unhide hnum).1 hv)
        clear hv hnum
        go_wp2_with fail
        go_ret
        exact ⟨by rw [unhide hO]; rfl, unhide BB⟩
      · rw [decide_eq_false hv]
        have hO := hide (show ord X Y = (if k = true then -1 else 1) by
          cases k
          · exact (unhide hnum).2.2 hv rfl
          · exact (unhide hnum).2.1 hv rfl)
        clear hv hnum hH
        cases k
        · go_wp2_with fail
          go_ret
          exact ⟨by rw [unhide hO]; rfl, unhide BB⟩
        · go_wp2_with fail
          go_ret
          exact ⟨by rw [unhide hO]; rfl, unhide BB⟩
  · rw [if_pos (by rfl)]
    have hR := hide (GRow.new W5 false zb)
    have lo1 : w.heap.size < W5.heap.size := hS.ra.lt
    have lo2 : w1.heap.size < W5.heap.size := hS.rx.lt
    have hSA := hide (hS.keep ((Below.refl _ _).alloc (Nat.le_refl _) (.cells (gv false zb) 60)))
    clear hS
    go_wp2_with fail
    refine hK.out _ _ (unhide hSA) (fun hS => ?_)
    clear hK hSA
    generalize W5.alloc (.cells (gv false zb) 60) = WN at hR hS ⊢
    refine wpAnyH_all (rs := [1]) (by kernel_rfl) (by simp) (AllReadyH.cons (i := 1) rfl (fun K hK => ?_) AllReadyH.nil)
    rw [if_pos (by rfl)]
    replace hS := hide hS
    go_wp2_with fail
    refine (big_any X hX _).mono ?_
    rintro e wA ⟨⟨l, f, hF, rfl⟩, hbA⟩
    have hSA := hide ((unhide hS).keep hbA)
    replace hR := hide ((unhide hR).keep hbA (unhide hR).lt)
    replace hF := hide hF
    clear hbA hS
    go_wp2_with fail
    refine hK.out _ _ (unhide hSA) (fun hS => ?_)
    clear hK hSA
    refine wpAnyH_all (rs := [3]) (by kernel_rfl) (by simp) (AllReadyH.cons (i := 3) rfl (fun K hK => ?_) AllReadyH.nil)
    rw [if_pos (by rfl)]
    replace hS := hide hS
    go_wp2_with fail
    refine (sum_any l f (!m) g (unhide hF).1 (unhide hG).1 (two_small hX hY (unhide hF) (unhide hG)) _).mono ?_
    rintro e wB ⟨⟨k, h, hH, rfl⟩, hbB⟩
    have hSA := hide ((unhide hS).keep hbB)
    replace hR := hide ((unhide hR).keep hbB (unhide hR).lt)
    replace hH := hide hH
    clear hbB hS
    go_wp2_with fail
    refine hK.out _ _ (unhide hSA) (fun hS => ?_)
    clear hK hSA
    refine wpAnyH_all (rs := [5]) (by kernel_rfl) (by simp) (AllReadyH.cons (i := 5) rfl (fun K hK => ?_) AllReadyH.nil)
    rw [if_pos (by rfl)]
    have hst := store56c k h (unhide hR)
    replace hR := hide ((unhide hR).put (m := k) h)
    have hSA := hide (hS.put lo1 lo2 (gv k h))
    clear hS
    go_wp2_with fail
    clear hst
    refine hK.out _ _ (unhide hSA) (fun hS => ?_)
    clear hK
    have BB := hide hS.below
    clear hS hSA
    refine wpAnyH_done (by kernel_rfl) ?_ _
    have cl := (unhide hR).less
    go_wp2_with fail
    refine wp_load56 (unhide hR) rfl rfl ?_
    go_wp2_with fail
    refine (none_any k h (unhide hH).1 _).mono ?_
    rintro e wC ⟨rfl, hbC⟩
    replace hR := hide ((unhide hR).keep hbC (unhide hR).lt)
    replace BB := hide (below_via (unhide BB) hbC)
    clear hbC cl hz
    have cl := (unhide hR).less
    rw [ord_none]
    have hnum := hide (cmp_num (X := X) (Y := Y) (k := k) (V := val h 260) (by rw [(unhide hH).2.1, (big_sgn (unhide hF)).1, (big_sgn (unhide hG)).2]))
    by_cases hv : val h 260 = 0
    · rw [decide_eq_true hv]
      have hO := hide ((unhide hnum).1 hv)
      clear hv hnum
      go_wp2_with fail
      go_ret
      exact ⟨by rw [unhide hO]; rfl, unhide BB⟩
    · rw [decide_eq_false hv]
      have hO := hide (show ord X Y = (if k = true then -1 else 1) by
        cases k
        · exact (unhide hnum).2.2 hv rfl
        · exact (unhide hnum).2.1 hv rfl)
      clear hv hnum hH
      cases k
      · go_wp2_with fail
        go_ret
        exact ⟨by rw [unhide hO]; rfl, unhide BB⟩
      · go_wp2_with fail
        go_ret
        exact ⟨by rw [unhide hO]; rfl, unhide BB⟩
end Go.Proofs.Ytaknjpddjofgeaa
