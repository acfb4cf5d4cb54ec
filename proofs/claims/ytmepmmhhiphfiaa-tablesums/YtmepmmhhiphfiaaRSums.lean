/- The document's Sums. -/
import Derived.Test.YtmepmmhhiphfiaaTSums
import Derived.Test.YtmepmmhhiphfiaaMRSum
import Derived.Deep.AppendLies
namespace Go.Proofs.Ytmepmmhhiphfiaa.Mn
open Go.RowKit
set_option linter.unusedSimpArgs false
theorem Grow.at_least {E : TypeId} {w wr : World} {v : Value} {l : List Int} (h : Grow E w wr v l) : ∀ k, v.ownBlock = some k → w.heap.size ≤ k ∧ k < wr.heap.size := h.owns.lt
/-- Two values that own no block together. -/
def Apart (v u : Value) : Prop := ∀ k, v.ownBlock = some k → u.ownBlock ≠ some k
theorem Apart.symm {v u : Value} (h : Apart v u) : Apart u v := fun k hk hv => h k hv hk
theorem Apart.none (v : Value) : Apart (.slice none 0 0) v := fun k hk => by simp [Value.ownBlock] at hk
theorem Grow.grown {E : TypeId} {w wr wr' : World} {v : Value} {l : List Int} {row : Option Nat} (h : Grow E w wr v l) (hg : wr.grownBy wr' row) (hv : ∀ k, v.ownBlock = some k → row ≠ some k) (hr : ∀ k, row = some k → w.heap.size ≤ k) : Grow E w wr' v l :=
  ⟨h.below.grown hg h.below.size hr, h.owns.kept hg (by
    cases e : v.ownBlock with
    | none => exact Or.inl rfl
    | some k => exact Or.inr (fun c => hv k e c.symm)), h.small⟩
theorem Grow.drewN {E : TypeId} {w wr : World} {v : Value} {l : List Int} (h : Grow E w wr v l) (n : Nat) : Grow E w (wr.drewN n) v l := ⟨below_drewN h.below n, h.owns, h.small⟩
theorem Grow.fine {E : TypeId} {w wr : World} {v : Value} {zs : List Int} (h : Grow E w wr v zs) : Fine v := by
  intro a l c e
  rcases h.owns.2 with ⟨h1, _⟩ | ⟨g, cap, cur, h1, _, _, h5, _⟩
  · rw [h1] at e; cases e; exact ⟨Nat.le_refl _, fun _ => rfl⟩
  · rw [h1] at e; cases e; exact ⟨h5, fun c => (by cases c)⟩
/-- One number more behind a row, where it lies in a block of its own. -/
theorem step_push {ops : Array Oper} {o : Oper} {a : Act} {K : Act → World → Prop} {Q : Exit → Act → World → Prop} {X : Prop} (hgd : o.guard = none) (s x : Operand)
    (ho : o.op = .call { callee := .builtin .append, args := #[s, x], argTypes := #[22, 22] })
    (w W : World) (B : Nat) (v : Value) (l : List Int) (z : Int) (hG : Grow 2 w W v l) (hB : W.cell? ⟨B, 0, none⟩ = some (.int .i64 z)) (hs : a.eval s = v) (hx : a.eval x = .slice (some ⟨B, 0, none⟩) 1 1)
    (hlen : l.length ≤ 1000000) (hz : In64 z)
    (h : ∀ v' W', Grow 2 w W' v' (l ++ [z]) → W.grownBy W' v.ownBlock → (∀ k, v'.ownBlock = some k → v.ownBlock = some k ∨ W.heap.size ≤ k) → K (a.put o.dst v') W') :
    if Region.wanted o (yielded ops a.tmps) = true then Oper.wp Try.prog o a W K Q else X := by
  obtain ⟨i0, hi, hz0, hz1, hz2⟩ := info_parts info2
  have hsize := hG.below.size
  refine step_append_lies _ hgd s x 22 ho w.heap.size 2 i0 (.int .i64 0) 1 8 Try.underlying22 hi hz0 hz1 hz2 rfl (by decide) v l.length _ hs hG.owns ⟨B, 0, none⟩ 1 1 [.int .i64 z] hx rfl ?_ ?_ (by decide) (by unfold maxLen; omega) (by omega) hsize W.heap.size rfl ?_
  · intro j u hj
    rw [Addr.add_lit]
    match j, hj with
    | 0, hj => simp at hj; subst hj; exact hB
  · intro u hu
    simp at hu
    subst hu
    rfl
  · intro g cap w' hown hgrow hg _
    refine h _ w' ⟨hG.below.grown hgrow hsize (fun k hk => (hG.owns.lt k hk).1), ?_, ?_⟩ hgrow (fun k hk => ?_)
    · simpa using hown
    · intro u hu
      rcases List.mem_append.1 hu with hu | hu
      · exact hG.small u hu
      · simp at hu; subst hu; exact hz
    · simp [Value.ownBlock] at hk
      subst hk
      rcases hg with hg | hg
      · exact Or.inl hg
      · exact Or.inr (by omega)
theorem new_cell (W : World) (z : Int) : (W.alloc (.cells #[.int .i64 z] 2)).drew.cell? ⟨W.heap.size, 0, none⟩ = some (.int .i64 z) := by
  show (W.alloc (.cells #[.int .i64 z] 2)).cell? ⟨W.heap.size, 0, none⟩ = _
  rw [World.cell?_alloc_at _ _ _ _ rfl]
  rfl
theorem new_cell' (W : World) (z : Int) : (W.alloc (.cells #[.int .i64 z] 2)).cell? ⟨W.heap.size, 0, none⟩ = some (.int .i64 z) := new_cell W z
theorem old_cell {W : World} {b : Nat} {x : Value} (h : W.drew.cell? ⟨b, 0, none⟩ = some x) (o : Obj) : (W.alloc o).drew.cell? ⟨b, 0, none⟩ = some x := by
  have h' : W.cell? ⟨b, 0, none⟩ = some x := h
  exact ((below1 W o).cell (p := ⟨b, 0, none⟩) (lt_of_cell h')).trans h'
theorem grown_cell {W W' : World} {row : Option Nat} {b j : Nat} {x : Value} (h : W.grownBy W' row) (hc : W.cell? ⟨b, j, none⟩ = some x) (hne : row ≠ some b) : W'.cell? ⟨b, j, none⟩ = some x :=
  (World.cell?_of_block (a := ⟨b, j, none⟩) (h.block b (lt_of_cell hc) (fun c => hne c.symm))).trans hc
theorem cell_old' {W : World} {b j : Nat} {x : Value} (h : W.cell? ⟨b, j, none⟩ = some x) (o : Obj) : (W.alloc o).cell? ⟨b, j, none⟩ = some x := ((below1 W o).cell (p := ⟨b, j, none⟩) (lt_of_cell h)).trans h
/-- Both cells that are read. -/
def Both (g : Nat) (Y Z : Int) (W : World) : Prop := W.cell? ⟨g, 1, none⟩ = some (.int .i64 Y) ∧ W.cell? ⟨g, 2, none⟩ = some (.int .i64 Z)
theorem Both.alloc {g : Nat} {Y Z : Int} {W : World} (h : Both g Y Z W) (o : Obj) : Both g Y Z (W.alloc o) := ⟨cell_old' h.1 o, cell_old' h.2 o⟩
theorem Both.drew {g : Nat} {Y Z : Int} {W : World} (h : Both g Y Z W) : Both g Y Z W.drew := h
theorem Both.grown {g : Nat} {Y Z : Int} {W W' : World} {row : Option Nat} (h : Both g Y Z W) (hg : W.grownBy W' row) (hne : row ≠ some g) : Both g Y Z W' := ⟨grown_cell hg h.1 hne, grown_cell hg h.2 hne⟩
/-- Two rows, each in memory of its own. -/
structure SG (w W : World) (va vb : Value) (la lb : List Int) : Prop where
  ga : Grow 2 w W va la
  gb : Grow 2 w W vb lb
  ap : Apart va vb
section
variable {w W W' : World} {va vb : Value} {la lb : List Int}
theorem SG.keep (h : SG w W va vb la lb) (hb : Below W.heap.size W W') : SG w W' va vb la lb := ⟨h.ga.keep hb, h.gb.keep hb, h.ap⟩
theorem SG.alloc (h : SG w W va vb la lb) (o : Obj) : SG w (W.alloc o) va vb la lb := h.keep (below1 _ _)
theorem SG.drew (h : SG w W va vb la lb) : SG w W.drew va vb la lb := ⟨h.ga.drewN 1, h.gb.drewN 1, h.ap⟩
theorem SG.none (w : World) : SG w w (.slice none 0 0) (.slice none 0 0) [] [] := ⟨Grow.nil _ _ _ (Below.refl _ _), Grow.nil _ _ _ (Below.refl _ _), Apart.none _⟩
theorem SG.pushA (h : SG w W va vb la lb) {v' : Value} {z : Int} (h1 : Grow 2 w W' v' (la ++ [z])) (h2 : W.grownBy W' va.ownBlock) (h3 : ∀ k, v'.ownBlock = some k → va.ownBlock = some k ∨ W.heap.size ≤ k) : SG w W' v' vb (la ++ [z]) lb := by
  refine ⟨h1, h.gb.grown h2 (fun k hk hr => h.ap k hr hk) (fun k hk => (h.ga.at_least k hk).1), fun k hk hk2 => ?_⟩
  rcases h3 k hk with c | c
  · exact h.ap k c hk2
  · have := (h.gb.at_least k hk2).2
    omega
theorem SG.swap (h : SG w W va vb la lb) : SG w W vb va lb la := ⟨h.gb, h.ga, h.ap.symm⟩
theorem SG.pushB (h : SG w W va vb la lb) {v' : Value} {z : Int} (h1 : Grow 2 w W' v' (lb ++ [z])) (h2 : W.grownBy W' vb.ownBlock) (h3 : ∀ k, v'.ownBlock = some k → vb.ownBlock = some k ∨ W.heap.size ≤ k) : SG w W' va v' la (lb ++ [z]) := (h.swap.pushA h1 h2 h3).swap
end
theorem rsum_of {v : Value} {zs : List Int} {n : Int} (w : World) (h : Row w v zs) (hf : Fine v) (hl : zs.length ≤ 1000) (hn : total zs = n) :
    Calls Try.prog 27 #[v] w fun e w' => e = .returned (.tuple #[.int .i64 (okN n), .int .i64 (okE n)]) ∧ Below w.heap.size w w' := by
  subst hn
  exact rsum_any v zs w h hf hl
theorem rsum_yes {v : Value} {zs : List Int} {n : Int} (w : World) (h : Row w v zs) (hf : Fine v) (hl : zs.length ≤ 1000) (hn : total zs = n) (hi : In64 n) :
    Calls Try.prog 27 #[v] w fun e w' => e = .returned (.tuple #[.int .i64 n, .int .i64 0]) ∧ Below w.heap.size w w' := by
  have := rsum_of w h hf hl hn
  rwa [okN_in (turn_in hi), okE_in (turn_in hi)] at this
theorem rsum_no {v : Value} {zs : List Int} {n : Int} (w : World) (h : Row w v zs) (hf : Fine v) (hl : zs.length ≤ 1000) (hn : total zs = n) (hi : ¬ In64 n) :
    Calls Try.prog 27 #[v] w fun e w' => e = .returned (.tuple #[.int .i64 0, .int .i64 3]) ∧ Below w.heap.size w w' := by
  have := rsum_of w h hf hl hn
  have ht : ¬ turn n = 0 := fun c => hi (in_of_turn c)
  rwa [okN_out ht, okE_out ht] at this
theorem take_map (l : List (List Int)) (t k : Nat) (h : k < l.length) : (l.take k).map (fun f => f.getD t 0) ++ [getN l k t] = (l.take (k + 1)).map (fun f => f.getD t 0) := by
  rw [← take_rows h, List.map_append]
  rfl
set_option maxRecDepth 20000 in
set_option maxHeartbeats 4000000 in
theorem rsums_row {b off cap : Nat} {l : List (List Int)} {w : World} {a c e : Int} (hU : RowN 4 w (.slice (some ⟨b, off, none⟩) l.length cap) l) (hm : l.length ≤ 1000) (hr : SumR l a c e) : SumsA 14 w (.slice (some ⟨b, off, none⟩) l.length cap) a c e := by
  unfold SumsA
  have HU := hide hU
  have HSm := hide hU.small
  have HR := hide hr
  have HT := hide (take_map l)
  have HL : Hid (∀ t k, ((l.take k).map (fun f => f.getD t 0)).length ≤ 1000) := hide (fun t k => by rw [List.length_map, List.length_take]; omega)
  have HAll : Hid (l.take l.length = l) := hide List.take_length
  clear hU hr
  generalize hl : l.length = len at *
  go_enter Try.func14, Try.ntmps14
  go_wp2_with fail
  go_loopw [5, 6, 14] (fun va vb i wr => ∃ k : Nat, k ≤ len ∧ i = .int .i64 k ∧ Hid (SG w wr va vb ((l.take k).map (fun f => f.getD 1 0)) ((l.take k).map (fun f => f.getD 2 0)))) (fun _ _ i _ => len - (intOf i).toNat)
  case atStart => exact ⟨0, Nat.zero_le _, rfl, hide (SG.none w)⟩
  case round =>
    obtain ⟨k, hk, rfl, HG⟩ := hrel
    by_cases hlt : k < len
    · have hU2 := (unhide HU).keep (unhide HG).ga.below
      have d0 := hU2.cells (j := k) (t := 0) (by rw [hl]; exact hlt) (by decide)
      have d1 := hU2.cells (j := k) (t := 1) (by rw [hl]; exact hlt) (by decide)
      have d2 := hU2.cells (j := k) (t := 2) (by rw [hl]; exact hlt) (by decide)
      have d3 := hU2.cells (j := k) (t := 3) (by rw [hl]; exact hlt) (by decide)
      rw [Nat.add_zero] at d0
      have HY := hide ((unhide HSm).at k 1)
      have HZ := hide ((unhide HSm).at k 2)
      have HTa := hide (unhide HT 1 k hlt)
      have HTb := hide (unhide HT 2 k hlt)
      have HLa := hide (Nat.le_trans (unhide HL 1 k) (show 1000 ≤ 1000000 by decide))
      have HLb := hide (Nat.le_trans (unhide HL 2 k) (show 1000 ≤ 1000000 by decide))
      generalize getN l k 0 = X at *
      generalize getN l k 1 = Y at *
      generalize getN l k 2 = Z at *
      generalize getN l k 3 = V at *
      have k1 : (k : Int) < (len : Int) := by omega
      have HG1 := hide ((unhide HG).alloc (.cells #[.int .i64 X, .int .i64 Y, .int .i64 Z, .int .i64 V] 48))
      generalize (l.take k).map (fun f => f.getD 1 0) = la at *
      generalize (l.take k).map (fun f => f.getD 2 0) = lb at *
      have HR4 := hide (R4.new wr 48 X Y Z V)
      have HGne : Hid (∀ k, u5.ownBlock = some k → k ≠ wr.heap.size) := hide (fun k hk => Nat.ne_of_lt ((unhide HG).ga.at_least k hk).2)
      have HGnb : Hid (∀ k, u6.ownBlock = some k → k ≠ wr.heap.size) := hide (fun k hk => Nat.ne_of_lt ((unhide HG).gb.at_least k hk).2)
      go_upto_region 5 with fail
      clear d0 d1 d2 d3 hU2
      generalize wr.alloc (.cells #[.int .i64 X, .int .i64 Y, .int .i64 Z, .int .i64 V] 48) = W at *
      have c1 := (unhide HR4).c1
      have c2 := (unhide HR4).c2
      have hWl := (unhide HR4).lt
      generalize wr.heap.size = g at *
      have G1 : Hid (SG w (W.alloc (.cells #[.int .i64 Y] 2)).drew u5 u6 la lb) := hide ((unhide HG1).alloc _).drew
      have G2 : Hid (SG w ((W.alloc (.cells #[.int .i64 Y] 2)).alloc (.cells #[.int .i64 Z] 2)).drew u5 u6 la lb) := hide (((unhide HG1).alloc _).alloc _).drew
      have G3 : Hid (SG w ((W.alloc (.cells #[.int .i64 Z] 2)).alloc (.cells #[.int .i64 Y] 2)).drew u5 u6 la lb) := hide (((unhide HG1).alloc _).alloc _).drew
      have y1 : Hid ((W.alloc (.cells #[.int .i64 Y] 2)).drew.cell? ⟨W.heap.size, 0, none⟩ = some (.int .i64 Y)) := hide (new_cell W Y)
      have y2 : Hid (((W.alloc (.cells #[.int .i64 Y] 2)).alloc (.cells #[.int .i64 Z] 2)).drew.cell? ⟨W.heap.size, 0, none⟩ = some (.int .i64 Y)) := hide (old_cell (new_cell W Y) _)
      have y3 : Hid (((W.alloc (.cells #[.int .i64 Z] 2)).alloc (.cells #[.int .i64 Y] 2)).drew.cell? ⟨W.heap.size + 1, 0, none⟩ = some (.int .i64 Y)) := hide (by have h := new_cell (W.alloc (.cells #[.int .i64 Z] 2)) Y; rw [show (W.alloc (.cells #[.int .i64 Z] 2)).heap.size = W.heap.size + 1 from by simp] at h; exact h)
      have z2 : Hid (((W.alloc (.cells #[.int .i64 Y] 2)).alloc (.cells #[.int .i64 Z] 2)).drew.cell? ⟨W.heap.size + 1, 0, none⟩ = some (.int .i64 Z)) := hide (by have h := new_cell (W.alloc (.cells #[.int .i64 Y] 2)) Z; rw [show (W.alloc (.cells #[.int .i64 Y] 2)).heap.size = W.heap.size + 1 from by simp] at h; exact h)
      have z3 : Hid (((W.alloc (.cells #[.int .i64 Z] 2)).alloc (.cells #[.int .i64 Y] 2)).drew.cell? ⟨W.heap.size, 0, none⟩ = some (.int .i64 Z)) := hide (old_cell (new_cell W Z) _)
      have hG : ∀ k, u5.ownBlock = some k → k ≠ g := unhide HGne
      have HGn2 := hide hG
      have HGn3 := hide (unhide HGnb)
      have HC : Hid (Both g Y Z W) := hide ⟨c1, c2⟩
      clear hG
      have HF2 : Hid (∀ k, u5.ownBlock = some k → k < W.heap.size) := hide (fun k hk => ((unhide HG1).ga.at_least k hk).2)
      go_region_held3 (fun w' => w'.cell? ⟨g, 1, none⟩ = some (.int .i64 Y) ∧ w'.cell? ⟨g, 2, none⟩ = some (.int .i64 Z))
        (first
          | exact unhide HST
          | exact unhide HSS
          | exact (unhide HSS).alloc _
          | exact unhide HC
          | exact (unhide HC).alloc _
          | exact ((unhide HC).alloc _).alloc _)
        (first
          | (refine step_push (by rfl) (.tmp 18) (.tmp 21) (by rfl) w (W.alloc (.cells #[.int .i64 Y] 2)).drew W.heap.size _ la Y (unhide G1).ga (unhide y1) (by rfl) (by rfl) (unhide HLa) (unhide HY) ?_; intro v2 W2 p1 p2 p3; have HS2 := hide ((unhide G1).pushA p1 p2 p3); have HSS := hide (Both.grown (((unhide HC).alloc _).drew) p2 (fun c => unhide HGn2 _ c rfl)); clear p1 p2 p3)
          | (refine step_push (by rfl) (.tmp 18) (.tmp 21) (by rfl) w ((W.alloc (.cells #[.int .i64 Y] 2)).alloc (.cells #[.int .i64 Z] 2)).drew W.heap.size _ la Y (unhide G2).ga (unhide y2) (by rfl) (by rfl) (unhide HLa) (unhide HY) ?_; intro v2 W2 p1 p2 p3; have HS2 := hide ((unhide G2).pushA p1 p2 p3); have HSS := hide (Both.grown ((((unhide HC).alloc _).alloc _).drew) p2 (fun c => unhide HGn2 _ c rfl)); have hzz := hide (grown_cell p2 (unhide z2) (fun c => by have := unhide HF2 _ c; omega)); clear p1 p2 p3)
          | (refine step_push (by rfl) (.tmp 18) (.tmp 21) (by rfl) w ((W.alloc (.cells #[.int .i64 Z] 2)).alloc (.cells #[.int .i64 Y] 2)).drew (W.heap.size + 1) _ la Y (unhide G3).ga (unhide y3) (by rfl) (by rfl) (unhide HLa) (unhide HY) ?_; intro v2 W2 p1 p2 p3; have HS2 := hide ((unhide G3).pushA p1 p2 p3); have HSS := hide (Both.grown ((((unhide HC).alloc _).alloc _).drew) p2 (fun c => unhide HGn2 _ c rfl)); have hzz := hide (grown_cell p2 (unhide z3) (fun c => by have := unhide HF2 _ c; omega)); clear p1 p2 p3)
          | (refine step_push (by rfl) (.tmp 23) (.tmp 26) (by rfl) w W2 _ _ lb Z (unhide HS2).gb (unhide hzz) (by rfl) (by rfl) (unhide HLb) (unhide HZ) ?_; intro v3 W3 p1 p2 p3; have HS3 := hide ((unhide HS2).pushB p1 p2 p3); have HST := hide (Both.grown (unhide HSS) p2 (fun c => unhide HGn3 _ c rfl)); clear p1 p2 p3)
          | (refine step_push (by rfl) (.tmp 23) (.tmp 26) (by rfl) w (W2.alloc (.cells #[.int .i64 Z] 2)) W2.heap.size _ lb Z ((unhide HS2).alloc _).gb (new_cell' W2 Z) (by rfl) (by rfl) (unhide HLb) (unhide HZ) ?_; intro v3 W3 p1 p2 p3; have HS3 := hide (((unhide HS2).alloc _).pushB p1 p2 p3); have HST := hide (Both.grown ((unhide HSS).alloc _) p2 (fun c => unhide HGn3 _ c rfl)); clear p1 p2 p3))
      all_goals
        go_wp2_with fail
        go_roundw
        case rel => exact ⟨k + 1, by omega, by go_num, by rw [← unhide HTa, ← unhide HTb]; exact HS3⟩
        case measure => simp [intOf]; omega
    · have ek : k = len := by omega
      subst ek
      rw [unhide HAll] at HG
      have HLa := hide (unhide HL 1 k)
      have HLb := hide (unhide HL 2 k)
      rw [unhide HAll] at HLa HLb
      have HA := hide ((unhide HG).ga.row (by have := unhide HLa; unfold maxLen; omega))
      have HFa := hide (unhide HG).ga.fine
      have HFb := hide (unhide HG).gb.fine
      have HBb := hide (unhide HG).ga.below
      have HB := hide ((unhide HG).gb.row (by have := unhide HLb; unfold maxLen; omega))
      have t3 : ((3 : Int) != 0) = true := rfl
      have t0 : ((0 : Int) != 0) = false := rfl
      rcases unhide HR with ⟨h1, rfl, rfl, rfl⟩ | ⟨h1, h2, rfl, rfl, rfl⟩ | ⟨h1, h2, rfl, rfl, rfl⟩
      · have HS := hide (rsum_no wr (unhide HA) (unhide HFa) (unhide HLa) rfl h1)
        clear h1
        go_wp2_with fail
        refine (unhide HS).mono ?_
        rintro e1 w1 ⟨rfl, hb⟩
        replace HBb := hide (below_via (unhide HBb) hb)
        clear hb
        go_wp2_with fail
        go_ret3
        exact ⟨rfl, unhide HBb⟩
      · have HS := hide (rsum_yes wr (unhide HA) (unhide HFa) (unhide HLa) rfl h1)
        have HS2 := hide (fun W (hW : Row W u6 _) => rsum_no W hW (unhide HFb) (unhide HLb) rfl h2)
        clear h1 h2
        go_wp2_with fail
        refine (unhide HS).mono ?_
        rintro e1 w1 ⟨rfl, hb⟩
        replace HBb := hide (below_via (unhide HBb) hb)
        replace HB := hide ((unhide HB).below hb (Nat.le_refl _))
        clear hb
        go_wp2_with fail
        refine (unhide HS2 _ (unhide HB)).mono ?_
        rintro e1 w1 ⟨rfl, hb⟩
        replace HBb := hide (below_via (unhide HBb) hb)
        clear hb
        go_wp2_with fail
        go_ret3
        exact ⟨rfl, unhide HBb⟩
      · have HS := hide (rsum_yes wr (unhide HA) (unhide HFa) (unhide HLa) rfl h1)
        have HS2 := hide (fun W (hW : Row W u6 _) => rsum_yes W hW (unhide HFb) (unhide HLb) rfl h2)
        have e1 : total (l.map fun f => f.getD 1 0) = T1 l := rfl
        have e2 : total (l.map fun f => f.getD 2 0) = T2 l := rfl
        rw [e1] at HS
        rw [e2] at HS2
        clear h1 h2 e1 e2
        go_wp2_with fail
        refine (unhide HS).mono ?_
        rintro e1 w1 ⟨rfl, hb⟩
        replace HBb := hide (below_via (unhide HBb) hb)
        replace HB := hide ((unhide HB).below hb (Nat.le_refl _))
        clear hb
        go_wp2_with fail
        refine (unhide HS2 _ (unhide HB)).mono ?_
        rintro e1 w1 ⟨rfl, hb⟩
        replace HBb := hide (below_via (unhide HBb) hb)
        clear hb
        go_wp2_with fail
        go_ret3
        exact ⟨rfl, unhide HBb⟩
theorem rsums_none (x : Option Addr) (cap : Nat) (w : World) : SumsA 14 w (.slice x 0 cap) 0 0 0 := by
  unfold SumsA
  have t0 : ((0 : Int) != 0) = false := rfl
  have hf : Fine (.slice none 0 0) := fun a l c e => by cases e; exact ⟨Nat.le_refl _, fun _ => rfl⟩
  have H := hide (fun w : World => rsum_yes (v := .slice none 0 0) (zs := []) (n := 0) w (Or.inl ⟨_, _, rfl, rfl⟩) hf (by simp) rfl ⟨by omega, by omega⟩)
  clear hf
  go_enter Try.func14, Try.ntmps14
  go_wp2_with fail
  refine wp_loop_rounds 1 ?_
  rw [rounds_succ]
  go_wp2_with fail
  refine (unhide H _).mono ?_
  rintro e w1 ⟨rfl, hb⟩
  have HB := hide hb
  clear hb
  go_wp2_with fail
  refine (unhide H _).mono ?_
  rintro e w2 ⟨rfl, hb⟩
  replace HB := hide (below_via (unhide HB) hb)
  clear hb
  go_wp2_with fail
  go_ret3
  exact ⟨rfl, unhide HB⟩
theorem rsums_any {w : World} {v : Value} {l : List (List Int)} {a b e : Int} (h : RowN 4 w v l) (hm : l.length ≤ 1000) (hr : SumR l a b e) : SumsA 14 w v a b e := by
  have h' := h
  rcases h with ⟨x, cap, rfl, rfl, _⟩ | ⟨b', off, cap, rfl, h0, _⟩
  · obtain ⟨rfl, rfl, rfl⟩ := sumR_nil hr
    exact rsums_none x cap w
  · exact rsums_row h' hm hr
end Go.Proofs.Ytmepmmhhiphfiaa.Mn
