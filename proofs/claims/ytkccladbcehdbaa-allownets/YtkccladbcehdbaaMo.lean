/- What changes put, summed up in a map. -/
import Derived.Test.YtkccladbcehdbaaMy
namespace Go.Proofs.Ytkccladbcehdbaa
open Go.RowKit
set_option linter.unusedVariables false
set_option linter.unusedSimpArgs false
theorem Blk.grown {w w' : World} {b bk : Nat} {cs : Array Value} {T : TypeId} {f : Int → Int → Int} (h : Blk w bk cs T) (hm : MapAt w b f) (hg : w.grownBy w' (some b)) : Blk w' bk cs T := (hg.block bk h.lt (fun e => hm.ne h (Option.some.inj e))).trans h
/-- What stays while changes are put: the map, the variable that leads to it, one more block. -/
structure MS (w W : World) (b bx bk : Nat) (cs : Array Value) (f : Int → Int → Int) : Prop where
  m : MapAt W b f
  x : Blk W bx #[.map (some b)] 52
  k : Blk W bk cs 50
  g : w.grownBy W (some b)
theorem MS.put {w W W' : World} {b bx bk : Nat} {cs : Array Value} {f f' : Int → Int → Int} (h : MS w W b bx bk cs f) (hm : MapAt W' b f') (hg : W.grownBy W' (some b)) : MS w W' b bx bk cs f' :=
  ⟨hm, h.x.grown h.m hg, h.k.grown h.m hg, grown_trans h.g hg⟩
theorem put_any {w W : World} {b bx bk : Nat} {cs : Array Value} {f : Int → Int → Int} (h : MS w W b bx bk cs f) (s c n : Int) (hs : In64 s) (hc : In64 c) (hn : In64 (f s c + n)) :
    Calls Try.prog 32 #[ky s c, .int .i64 n, .pointer (some ⟨bx, 0, none⟩)] W fun e w' => e = .returned (.tuple #[]) ∧ MS w w' b bx bk cs (addP f s c n) :=
  (clo_any W b bx f s c n h.x h.m hs hc (wrap_in' hn)).mono fun e w' ⟨h1, h2, h3⟩ => ⟨h1, h.put h2 h3⟩
theorem in_0 : In64 0 := ⟨by decide, by decide⟩
theorem in_1 : In64 1 := ⟨by decide, by decide⟩
theorem in_2 : In64 2 := ⟨by decide, by decide⟩
theorem in_3 : In64 3 := ⟨by decide, by decide⟩
theorem mv_yes (w : World) (b bx : Nat) (g : Int → Int → Int) (f t x0 x1 x2 : Int) (hx : Blk w bx #[.map (some b)] 52) (hm : MapAt w b g) (hif : In64 f) (hit : In64 t) (q : (f != t) = true) (b0 : Hid (In64 (g f 1 + x0))) (b1 : Hid (In64 (addP g f 1 x0 t 0 + x0))) (e1 : IntKind.i64.wrap (x1 - x0) = x1 - x0) (e2 : IntKind.i64.wrap (x1 - x0 + x2) = x1 - x0 + x2) (b2 : Hid (In64 ((addP (addP g f 1 x0) t 0 x0) t 2 + (x1 - x0 + x2)))) (b3 : Hid (In64 ((addP (addP (addP g f 1 x0) t 0 x0) t 2 (x1 - x0 + x2)) t 3 + x2))) :
    Calls Try.prog 20 #[.agg #[.int .i64 f, .int .i64 t, .int .i64 x0, .int .i64 x1, .int .i64 x2], .func (.func 32) #[] #[.pointer (some ⟨bx, 0, none⟩)]] w fun e w' => e = .returned (.tuple #[]) ∧ MapAt w' b (addP (addP (addP (addP g f 1 x0) t 0 x0) t 2 (x1 - x0 + x2)) t 3 x2) ∧ w.grownBy w' (some b) ∧ Blk w' bx #[.map (some b)] 52 := by
  have HS : Hid (MS w (w.alloc (.cells #[.int .i64 f, .int .i64 t, .int .i64 x0, .int .i64 x1, .int .i64 x2] 50)) b bx w.heap.size #[.int .i64 f, .int .i64 t, .int .i64 x0, .int .i64 x1, .int .i64 x2] g) := hide ⟨hm.alloc _, hx.alloc _, Blk.new w _ _, World.grownBy_alloc w _ _⟩
  replace hif := hide hif
  replace hit := hide hit
  clear hx hm
  have c0 := (unhide HS).k.at 0 (.int .i64 f) rfl
  have c1 := (unhide HS).k.at 1 (.int .i64 t) rfl
  have c2 := (unhide HS).k.at 2 (.int .i64 x0) rfl
  have c3 := (unhide HS).k.at 3 (.int .i64 x1) rfl
  have c4 := (unhide HS).k.at 4 (.int .i64 x2) rfl
  go_enter Try.func20, Try.ntmps20
  go_wp2_with fail
  refine (put_any (unhide HS) f 1 x0 (unhide hif) in_1 (unhide b0)).mono ?_
  rintro e w1 ⟨rfl, hS2⟩
  replace HS := hide hS2
  clear hS2 c0 c1 c2 c3 c4
  have c0 := (unhide HS).k.at 0 (.int .i64 f) rfl
  have c1 := (unhide HS).k.at 1 (.int .i64 t) rfl
  have c2 := (unhide HS).k.at 2 (.int .i64 x0) rfl
  have c3 := (unhide HS).k.at 3 (.int .i64 x1) rfl
  have c4 := (unhide HS).k.at 4 (.int .i64 x2) rfl
  go_wp2_with fail
  refine (put_any (unhide HS) t 0 x0 (unhide hit) in_0 (unhide b1)).mono ?_
  rintro e w2 ⟨rfl, hS2⟩
  replace HS := hide hS2
  clear hS2 c0 c1 c2 c3 c4
  have c0 := (unhide HS).k.at 0 (.int .i64 f) rfl
  have c1 := (unhide HS).k.at 1 (.int .i64 t) rfl
  have c2 := (unhide HS).k.at 2 (.int .i64 x0) rfl
  have c3 := (unhide HS).k.at 3 (.int .i64 x1) rfl
  have c4 := (unhide HS).k.at 4 (.int .i64 x2) rfl
  go_wp2_with fail
  refine (put_any (unhide HS) t 2 (x1 - x0 + x2) (unhide hit) in_2 (unhide b2)).mono ?_
  rintro e w3 ⟨rfl, hS2⟩
  replace HS := hide hS2
  clear hS2 c0 c1 c2 c3 c4
  have c0 := (unhide HS).k.at 0 (.int .i64 f) rfl
  have c1 := (unhide HS).k.at 1 (.int .i64 t) rfl
  have c2 := (unhide HS).k.at 2 (.int .i64 x0) rfl
  have c3 := (unhide HS).k.at 3 (.int .i64 x1) rfl
  have c4 := (unhide HS).k.at 4 (.int .i64 x2) rfl
  go_wp2_with fail
  refine (put_any (unhide HS) t 3 x2 (unhide hit) in_3 (unhide b3)).mono ?_
  rintro e w4 ⟨rfl, hS2⟩
  replace HS := hide hS2
  clear hS2 c0 c1 c2 c3 c4
  have c0 := (unhide HS).k.at 0 (.int .i64 f) rfl
  have c1 := (unhide HS).k.at 1 (.int .i64 t) rfl
  have c2 := (unhide HS).k.at 2 (.int .i64 x0) rfl
  have c3 := (unhide HS).k.at 3 (.int .i64 x1) rfl
  have c4 := (unhide HS).k.at 4 (.int .i64 x2) rfl
  go_wp2_with fail
  go_end0
  exact ⟨rfl, (unhide HS).m, (unhide HS).g, (unhide HS).x⟩
theorem mv_no (w : World) (b bx : Nat) (g : Int → Int → Int) (f t x0 x1 x2 : Int) (hx : Blk w bx #[.map (some b)] 52) (hm : MapAt w b g) (hif : In64 f) (hit : In64 t) (q : (f != t) = false) (e1 : IntKind.i64.wrap (x1 - x0) = x1 - x0) (e2 : IntKind.i64.wrap (x1 - x0 + x2) = x1 - x0 + x2) (b2 : Hid (In64 (g t 2 + (x1 - x0 + x2)))) (b3 : Hid (In64 ((addP g t 2 (x1 - x0 + x2)) t 3 + x2))) :
    Calls Try.prog 20 #[.agg #[.int .i64 f, .int .i64 t, .int .i64 x0, .int .i64 x1, .int .i64 x2], .func (.func 32) #[] #[.pointer (some ⟨bx, 0, none⟩)]] w fun e w' => e = .returned (.tuple #[]) ∧ MapAt w' b (addP (addP g t 2 (x1 - x0 + x2)) t 3 x2) ∧ w.grownBy w' (some b) ∧ Blk w' bx #[.map (some b)] 52 := by
  have HS : Hid (MS w (w.alloc (.cells #[.int .i64 f, .int .i64 t, .int .i64 x0, .int .i64 x1, .int .i64 x2] 50)) b bx w.heap.size #[.int .i64 f, .int .i64 t, .int .i64 x0, .int .i64 x1, .int .i64 x2] g) := hide ⟨hm.alloc _, hx.alloc _, Blk.new w _ _, World.grownBy_alloc w _ _⟩
  replace hif := hide hif
  replace hit := hide hit
  clear hx hm
  have c0 := (unhide HS).k.at 0 (.int .i64 f) rfl
  have c1 := (unhide HS).k.at 1 (.int .i64 t) rfl
  have c2 := (unhide HS).k.at 2 (.int .i64 x0) rfl
  have c3 := (unhide HS).k.at 3 (.int .i64 x1) rfl
  have c4 := (unhide HS).k.at 4 (.int .i64 x2) rfl
  go_enter Try.func20, Try.ntmps20
  go_wp2_with fail
  refine (put_any (unhide HS) t 2 (x1 - x0 + x2) (unhide hit) in_2 (unhide b2)).mono ?_
  rintro e w1 ⟨rfl, hS2⟩
  replace HS := hide hS2
  clear hS2 c0 c1 c2 c3 c4
  have c0 := (unhide HS).k.at 0 (.int .i64 f) rfl
  have c1 := (unhide HS).k.at 1 (.int .i64 t) rfl
  have c2 := (unhide HS).k.at 2 (.int .i64 x0) rfl
  have c3 := (unhide HS).k.at 3 (.int .i64 x1) rfl
  have c4 := (unhide HS).k.at 4 (.int .i64 x2) rfl
  go_wp2_with fail
  refine (put_any (unhide HS) t 3 x2 (unhide hit) in_3 (unhide b3)).mono ?_
  rintro e w2 ⟨rfl, hS2⟩
  replace HS := hide hS2
  clear hS2 c0 c1 c2 c3 c4
  have c0 := (unhide HS).k.at 0 (.int .i64 f) rfl
  have c1 := (unhide HS).k.at 1 (.int .i64 t) rfl
  have c2 := (unhide HS).k.at 2 (.int .i64 x0) rfl
  have c3 := (unhide HS).k.at 3 (.int .i64 x1) rfl
  have c4 := (unhide HS).k.at 4 (.int .i64 x2) rfl
  go_wp2_with fail
  go_end0
  exact ⟨rfl, (unhide HS).m, (unhide HS).g, (unhide HS).x⟩
/-- What a change puts. -/
theorem mv_any (w : World) (b bx : Nat) (g : Int → Int → Int) (c : Ch) (hx : Blk w bx #[.map (some b)] 52) (hm : MapAt w b g) (hc : OkC c) (hg : ∀ s k, -2305843009213693952 ≤ g s k ∧ g s k ≤ 4611686018427387904) :
    Calls Try.prog 20 #[.agg #[.int .i64 c.fr, .int .i64 c.to, .int .i64 c.was, .int .i64 c.now, .int .i64 c.wr], .func (.func 32) #[] #[.pointer (some ⟨bx, 0, none⟩)]] w fun e w' => e = .returned (.tuple #[]) ∧ MapAt w' b (addC g c) ∧ w.grownBy w' (some b) ∧ Blk w' bx #[.map (some b)] 52 := by
  obtain ⟨⟨h1, h2⟩, ⟨h3, h4⟩, ⟨h5, h6⟩, ⟨h7, h8⟩, ⟨h9, h10⟩⟩ := hc
  have hif : In64 c.fr := ⟨by omega, by omega⟩
  have hit : In64 c.to := ⟨by omega, by omega⟩
  have e1 := wrap_in' (n := c.now - c.was) ⟨by omega, by omega⟩
  have e2 := wrap_in' (n := c.now - c.was + c.wr) ⟨by omega, by omega⟩
  have up : ∀ (F : Int → Int → Int) (s k n B : Int), 0 ≤ B → (-562949953421312 ≤ n ∧ n ≤ 1125899906842624) → (∀ s k, -2305843009213693952 - B ≤ F s k ∧ F s k ≤ 4611686018427387904 + B) → ∀ s' k', -2305843009213693952 - (B + 1125899906842624) ≤ addP F s k n s' k' ∧ addP F s k n s' k' ≤ 4611686018427387904 + (B + 1125899906842624) := fun F s k n B hB hn hF s' k' => by
    unfold addP upd
    have a := hF s k
    have b := hF s' k'
    split <;> omega
  have g0 : ∀ s k, -2305843009213693952 - 0 ≤ g s k ∧ g s k ≤ 4611686018427387904 + 0 := fun s k => by have := hg s k; omega
  unfold addC
  cases q : c.fr != c.to
  · have g1 := up g c.to 2 (c.now - c.was + c.wr) 0 (by omega) (by omega) g0
    have x0 := g0 c.to 2
    have x1 := g1 c.to 3
    simp only [Bool.false_eq_true, if_false]
    exact mv_no w b bx g _ _ _ _ _ hx hm hif hit q e1 e2 (hide ⟨by omega, by omega⟩) (hide ⟨by omega, by omega⟩)
  · have g1 := up g c.fr 1 c.was 0 (by omega) (by omega) g0
    have g2 := up (addP g c.fr 1 c.was) c.to 0 c.was _ (by omega) (by omega) g1
    have g3 := up (addP (addP g c.fr 1 c.was) c.to 0 c.was) c.to 2 (c.now - c.was + c.wr) _ (by omega) (by omega) g2
    have x0 := g0 c.fr 1
    have x1 := g1 c.to 0
    have x2 := g2 c.to 2
    have x3 := g3 c.to 3
    simp only [if_true]
    exact mv_yes w b bx g _ _ _ _ _ hx hm hif hit q (hide ⟨by omega, by omega⟩) (hide ⟨by omega, by omega⟩) e1 e2 (hide ⟨by omega, by omega⟩) (hide ⟨by omega, by omega⟩)
/-- What holds in each round of the summing. -/
structure GS (w wr : World) (l : List Ch) (k : Nat) : Prop where
  bel : Below w.heap.size w wr
  m : MapAt wr w.heap.size (putS (l.take k))
  x : Blk wr (w.heap.size + 1) #[.map (some w.heap.size)] 52
theorem GS.alloc {w wr : World} {l : List Ch} {k : Nat} (h : GS w wr l k) (o : Obj) : GS w (wr.alloc o) l k := ⟨below_via h.bel (below1 wr o), h.m.alloc o, h.x.alloc o⟩
theorem GS.next {w wr w2 : World} {l : List Ch} {k : Nat} (h : GS w wr l k) (hk : k < l.length) (hm : MapAt w2 w.heap.size (addC (putS (l.take k)) (chA l k))) (hg : wr.grownBy w2 (some w.heap.size)) (hx : Blk w2 (w.heap.size + 1) #[.map (some w.heap.size)] 52) : GS w w2 l (k + 1) :=
  ⟨h.bel.grown hg h.bel.size (fun j hj => by cases hj; exact Nat.le_refl _), by rw [← addC_S l hk]; exact hm, hx⟩
theorem GS.new (w : World) (l : List Ch) : GS w ((w.alloc (.map #[] 0)).alloc (.cells #[.map (some w.heap.size)] 52)) l 0 := by
  refine ⟨below_via (below1 w _) (below1 _ _), (MapAt.new w).alloc _, ?_⟩
  have := Blk.new (w.alloc (.map #[] 0)) #[.map (some w.heap.size)] 52
  simpa using this
set_option maxHeartbeats 1000000 in
theorem gt_row (bb off cap : Nat) (l : List Ch) (w : World) (hU : RowG 5 w (.slice (some ⟨bb, off, none⟩) l.length cap) (l.map chL)) (hm : l.length ≤ 4096) (ho : AllOk l) :
    Calls Try.prog 19 #[.slice (some ⟨bb, off, none⟩) l.length cap, .func (.func 20) #[] #[]] w fun e w' => ∃ b, e = .returned (.map (some b)) ∧ MapAt w' b (putS l) ∧ Below w.heap.size w w' := by
  have HU := hide hU
  have HS := hide (GS.new w l)
  have HB := hide (fun j => putS_take_bd ho hm j)
  have HO := hide (fun k => chA_ok ho (k := k))
  have HN := hide (fun (wr w2 : World) (k : Nat) (h : GS w wr l k) => h.next (w2 := w2))
  have HA : Hid (putS (l.take l.length) = putS l) := hide (by rw [List.take_length])
  clear hU ho
  generalize hl : l.length = len at *
  have hmm := @run_makeMap Try.prog
  go_enter Try.func19, Try.ntmps19
  go_wp2_with fail
  go_loopw [11] (fun i wr => ∃ k : Nat, k ≤ len ∧ i = .int .i64 k ∧ Hid (GS w wr l k)) (fun i _ => len - (intOf i).toNat)
  case atStart => exact ⟨0, by omega, rfl, HS⟩
  case round =>
    obtain ⟨k, hk, rfl, HG⟩ := hrel
    by_cases hlt : k < len
    · have hU2 := (unhide HU).keep (unhide HG).bel
      obtain ⟨m0, m1, m2, m3, m4⟩ := hU2.ch (k := k) (by rw [hl]; exact hlt)
      have k1 : (k : Int) < (len : Int) := by omega
      have x0 := ((unhide HG).x.alloc (.cells #[.int .i64 (chA l k).fr, .int .i64 (chA l k).to, .int .i64 (chA l k).was, .int .i64 (chA l k).now, .int .i64 (chA l k).wr] 50)).at 0 _ rfl
      have HG2 := hide ((unhide HG).alloc (.cells #[.int .i64 (chA l k).fr, .int .i64 (chA l k).to, .int .i64 (chA l k).was, .int .i64 (chA l k).now, .int .i64 (chA l k).wr] 50))
      have HV := hide (mv_any (wr.alloc (.cells #[.int .i64 (chA l k).fr, .int .i64 (chA l k).to, .int .i64 (chA l k).was, .int .i64 (chA l k).now, .int .i64 (chA l k).wr] 50)) w.heap.size (w.heap.size + 1) (putS (l.take k)) (chA l k) (unhide HG2).x (unhide HG2).m (unhide HO k hlt) (unhide HB k))
      have HNk := hide (fun w2 => unhide HN _ w2 k (unhide HG2) hlt)
      generalize chA l k = c at *
      obtain ⟨f, t, y0, y1, y2⟩ := c
      dsimp only at m0 m1 m2 m3 m4 x0 HG2 HV HNk
      clear hU2 HG
      go_wp2_with fail
      refine (unhide HV).mono ?_
      rintro e w2 ⟨rfl, h1, h2, h3⟩
      have HR := hide (unhide HNk w2 h1 h2 h3)
      clear h1 h2 h3
      go_wp2_with fail
      go_roundw
      case rel => exact ⟨k + 1, by omega, by go_num, HR⟩
      case measure => simp [intOf]; omega
    · obtain rfl : k = len := by omega
      have x0 := (unhide HG).x.at 0 _ rfl
      go_wp2_with fail
      go_ret
      exact ⟨_, rfl, by have := (unhide HG).m; rw [unhide HA] at this; exact this, (unhide HG).bel⟩
theorem gt_empty (x : Option Addr) (cap : Nat) (w : World) :
    Calls Try.prog 19 #[.slice x 0 cap, .func (.func 20) #[] #[]] w fun e w' => ∃ b, e = .returned (.map (some b)) ∧ MapAt w' b (putS []) ∧ Below w.heap.size w w' := by
  have HS := hide (GS.new w [])
  have hmm := @run_makeMap Try.prog
  go_enter Try.func19, Try.ntmps19
  go_wp2_with fail
  refine wp_loop_rounds 1 ?_
  rw [rounds_succ]
  go_wp2_with fail
  go_ret
  exact ⟨_, rfl, (unhide HS).m, (unhide HS).bel⟩
theorem gt_any (v : Value) (l : List Ch) (w : World) (h : RowG 5 w v (l.map chL)) (hm : l.length ≤ 4096) (ho : AllOk l) : Calls Try.prog 19 #[v, .func (.func 20) #[] #[]] w fun e w' => ∃ b, e = .returned (.map (some b)) ∧ MapAt w' b (putS l) ∧ Below w.heap.size w w' := by
  have h' := h
  rcases h with ⟨x, cap, rfl, h0, _⟩ | ⟨bb, off, cap, rfl, h0, _⟩
  · obtain rfl : l = [] := List.map_eq_nil_iff.1 h0
    exact gt_empty x cap w
  · rw [List.length_map] at h' ⊢
    exact gt_row bb off cap l w h' hm ho
end Go.Proofs.Ytkccladbcehdbaa
