/- The laws' own to and from: the same flows, in new memory. Parted, the program's and the document's; a day's amount. -/
import Derived.Test.YtkjbkppjebljpaaChk
namespace Go.Proofs.Ytkjbkppjebljpaa
open Go.RowKit
set_option linter.unusedSimpArgs false
theorem take_getF {l : List (Int × Int)} {k : Nat} (h : k < l.length) : l.take k ++ [getF l k] = l.take (k + 1) := by
  rw [List.take_succ_eq_append_getElem h]
  simp [getF, List.getD, h]
theorem GrowF.alloc {E : TypeId} {w wr : World} {v : Value} {l : List (Int × Int)} (h : GrowF E w wr v l) (o : Obj) : GrowF E w (wr.alloc o) v l := h.keep ((Below.refl wr.heap.size wr).alloc (Nat.le_refl _) o)
theorem upto_snoc (D : Int) (l : List (Int × Int)) (f : Int × Int) : upto D (l ++ [f]) = if f.1 ≤ D then upto D l ++ [f] else upto D l := by
  induction l with
  | nil => rfl
  | cons g r ih =>
    show (if g.1 ≤ D then g :: upto D (r ++ [f]) else upto D (r ++ [f])) = if f.1 ≤ D then (if g.1 ≤ D then g :: upto D r else upto D r) ++ [f] else (if g.1 ≤ D then g :: upto D r else upto D r)
    rw [ih]
    split <;> split <;> simp
theorem behind_snoc (D : Int) (l : List (Int × Int)) (f : Int × Int) : behind D (l ++ [f]) = if f.1 ≤ D then behind D l else behind D l ++ [f] := by
  induction l with
  | nil => rfl
  | cons g r ih =>
    show (if g.1 ≤ D then behind D (r ++ [f]) else g :: behind D (r ++ [f])) = if f.1 ≤ D then (if g.1 ≤ D then behind D r else g :: behind D r) else (if g.1 ≤ D then behind D r else g :: behind D r) ++ [f]
    rw [ih]
    split <;> split <;> simp
theorem upto_len (D : Int) (l : List (Int × Int)) : (upto D l).length ≤ l.length := by
  induction l with
  | nil => exact Nat.le_refl _
  | cons g r ih =>
    show (if g.1 ≤ D then g :: upto D r else upto D r).length ≤ r.length + 1
    split
    · simp only [List.length_cons]; omega
    · omega
theorem behind_len (D : Int) (l : List (Int × Int)) : (behind D l).length ≤ l.length := by
  induction l with
  | nil => exact Nat.le_refl _
  | cons g r ih =>
    show (if g.1 ≤ D then behind D r else g :: behind D r).length ≤ r.length + 1
    split
    · omega
    · simp only [List.length_cons]; omega
set_option maxHeartbeats 1000000 in
theorem to_row (b off cap : Nat) (l : List (Int × Int)) (w : World) (hm : l.length ≤ 1000) (hc : CellsF w b off l) (h64 : ∀ f ∈ l, In64 f.1 ∧ In64 f.2) :
    Calls Try.prog 9 #[.slice (some ⟨b, off, none⟩) l.length cap] w fun e w' => ∃ u, e = .returned u ∧ GrowF 39 w w' u l := by
  have HC := hide hc
  have H64 := hide h64
  have HL : Hid (∀ k, (l.take k).length ≤ 1000000) := hide (fun k => by rw [List.length_take]; omega)
  have HT := hide (fun k => take_getF (l := l) (k := k))
  have HA : Hid (l.take l.length = l) := hide (List.take_length)
  clear hc h64
  generalize hl : l.length = len at *
  go_enter Try.func9, Try.ntmps9
  go_wp2_with fail
  go_loopw [3, 8] (fun o i wr => ∃ k : Nat, k ≤ len ∧ i = .int .i64 k ∧ Hid (GrowF 39 w wr o (l.take k))) (fun _ i _ => len - (intOf i).toNat)
  case atStart => exact ⟨0, by omega, rfl, hide (GrowF.nil _ _ _ (Below.refl _ _))⟩
  case round =>
    obtain ⟨k, hk, rfl, HG⟩ := hrel
    by_cases hlt : k < len
    · have HB := hide (unhide HG).below
      obtain ⟨c0, c1⟩ := (unhide HC).keep (unhide HB) k (by rw [hl]; exact hlt)
      have hs := hide (getF_64 (unhide H64) k)
      have ht := hide (unhide HT k hlt)
      generalize getF l k = f at *
      obtain ⟨d, a⟩ := f
      replace c0 : wr.cell? ⟨b, off + k * 2, none⟩ = some (.int .i64 d) := c0
      replace c1 : wr.cell? ⟨b, off + k * 2 + 1, none⟩ = some (.int .i64 a) := c1
      have hl2 := hide (unhide HL k)
      replace HG := hide ((unhide HG).alloc (.cells #[.int .i64 d, .int .i64 a] 40))
      generalize l.take k = zs at *
      clear HB
      go_wp2_with (at_builtin; refine pushF_law 39 24 Try.underlying24 Try.info39 rfl _ _ rfl w _ _ zs (d, a) (unhide HG) rfl (by simp [Act.eval, Act.put]) (unhide hl2) (unhide hs) ?_)
      intro v' w2 hG2
      replace hG2 := hide hG2
      go_wp2
      go_roundw
      case rel => exact ⟨k + 1, by omega, by go_num, by rw [← unhide ht]; exact hG2⟩
      case measure => simp [intOf]; omega
    · obtain rfl : k = len := by omega
      rw [unhide HA] at HG
      go_wp2_with fail
      go_ret
      exact ⟨_, rfl, unhide HG⟩
theorem to_empty (x : Option Addr) (cap : Nat) (w : World) : Calls Try.prog 9 #[.slice x 0 cap] w fun e w' => e = .returned (.slice none 0 0) ∧ w = w' := by
  go_enter Try.func9, Try.ntmps9
  go_wp2_with fail
  refine wp_loop_rounds 1 ?_
  rw [rounds_succ]
  go_wp2_with fail
  go_ret
  exact ⟨rfl, rfl⟩
theorem to_any (v : Value) (l : List (Int × Int)) (w : World) (h : RowF w v l) (hm : l.length ≤ 1000) : Calls Try.prog 9 #[v] w fun e w' => ∃ u, e = .returned u ∧ GrowF 39 w w' u l := by
  rcases h with ⟨a, cap, rfl, rfl, _⟩ | ⟨b, off, cap, rfl, h0, _, _, hc, hin⟩
  · refine (to_empty a cap w).mono ?_
    rintro e w' ⟨rfl, rfl⟩
    exact ⟨_, rfl, GrowF.nil _ _ _ (Below.refl _ _)⟩
  · exact to_row b off cap l w hm hc hin
set_option maxHeartbeats 1000000 in
theorem from_row (b off cap : Nat) (l : List (Int × Int)) (w : World) (hm : l.length ≤ 1000) (hc : CellsF w b off l) (h64 : ∀ f ∈ l, In64 f.1 ∧ In64 f.2) :
    Calls Try.prog 17 #[.slice (some ⟨b, off, none⟩) l.length cap] w fun e w' => ∃ u, e = .returned u ∧ GrowF 40 w w' u l := by
  have HC := hide hc
  have H64 := hide h64
  have HL : Hid (∀ k, (l.take k).length ≤ 1000000) := hide (fun k => by rw [List.length_take]; omega)
  have HT := hide (fun k => take_getF (l := l) (k := k))
  have HA : Hid (l.take l.length = l) := hide (List.take_length)
  clear hc h64
  generalize hl : l.length = len at *
  go_enter Try.func17, Try.ntmps17
  go_wp2_with fail
  go_loopw [3, 8] (fun o i wr => ∃ k : Nat, k ≤ len ∧ i = .int .i64 k ∧ Hid (GrowF 40 w wr o (l.take k))) (fun _ i _ => len - (intOf i).toNat)
  case atStart => exact ⟨0, by omega, rfl, hide (GrowF.nil _ _ _ (Below.refl _ _))⟩
  case round =>
    obtain ⟨k, hk, rfl, HG⟩ := hrel
    by_cases hlt : k < len
    · have HB := hide (unhide HG).below
      obtain ⟨c0, c1⟩ := (unhide HC).keep (unhide HB) k (by rw [hl]; exact hlt)
      have hs := hide (getF_64 (unhide H64) k)
      have ht := hide (unhide HT k hlt)
      generalize getF l k = f at *
      obtain ⟨d, a⟩ := f
      replace c0 : wr.cell? ⟨b, off + k * 2, none⟩ = some (.int .i64 d) := c0
      replace c1 : wr.cell? ⟨b, off + k * 2 + 1, none⟩ = some (.int .i64 a) := c1
      have hl2 := hide (unhide HL k)
      replace HG := hide ((unhide HG).alloc (.cells #[.int .i64 d, .int .i64 a] 39))
      generalize l.take k = zs at *
      clear HB
      go_wp2_with (at_builtin; refine pushF_law 40 22 Try.underlying22 Try.info40 rfl _ _ rfl w _ _ zs (d, a) (unhide HG) rfl (by simp [Act.eval, Act.put]) (unhide hl2) (unhide hs) ?_)
      intro v' w2 hG2
      replace hG2 := hide hG2
      go_wp2
      go_roundw
      case rel => exact ⟨k + 1, by omega, by go_num, by rw [← unhide ht]; exact hG2⟩
      case measure => simp [intOf]; omega
    · obtain rfl : k = len := by omega
      rw [unhide HA] at HG
      go_wp2_with fail
      go_ret
      exact ⟨_, rfl, unhide HG⟩
theorem from_empty (x : Option Addr) (cap : Nat) (w : World) : Calls Try.prog 17 #[.slice x 0 cap] w fun e w' => e = .returned (.slice none 0 0) ∧ w = w' := by
  go_enter Try.func17, Try.ntmps17
  go_wp2_with fail
  refine wp_loop_rounds 1 ?_
  rw [rounds_succ]
  go_wp2_with fail
  go_ret
  exact ⟨rfl, rfl⟩
theorem from_any (v : Value) (l : List (Int × Int)) (w : World) (h : RowF w v l) (hm : l.length ≤ 1000) : Calls Try.prog 17 #[v] w fun e w' => ∃ u, e = .returned u ∧ GrowF 40 w w' u l := by
  rcases h with ⟨a, cap, rfl, rfl, _⟩ | ⟨b, off, cap, rfl, h0, _, _, hc, hin⟩
  · refine (from_empty a cap w).mono ?_
    rintro e w' ⟨rfl, rfl⟩
    exact ⟨_, rfl, GrowF.nil _ _ _ (Below.refl _ _)⟩
  · exact from_row b off cap l w hm hc hin
set_option maxHeartbeats 2000000 in
theorem part_row (b off cap : Nat) (D : Int) (l : List (Int × Int)) (w : World) (hm : l.length ≤ 1000) (hc : CellsF w b off l) (h64 : ∀ f ∈ l, In64 f.1 ∧ In64 f.2) :
    Calls Try.prog 12 #[.slice (some ⟨b, off, none⟩) l.length cap, .int .i64 D] w fun e w' => ∃ u v, e = .returned (.tuple #[u, v]) ∧ GrowF 39 w w' u (upto D l) ∧ GrowF 39 w w' v (behind D l) ∧ Apart u v := by
  have HC := hide hc
  have H64 := hide h64
  have HL : Hid (∀ k, (l.take k).length ≤ 1000000) := hide (fun k => by rw [List.length_take]; omega)
  have HT := hide (fun k => take_getF (l := l) (k := k))
  have HA : Hid (l.take l.length = l) := hide (List.take_length)
  clear hc h64
  generalize hl : l.length = len at *
  go_enter Try.func12, Try.ntmps12
  go_wp2_with fail
  go_loopw [4, 5, 10] (fun o p i wr => ∃ k : Nat, k ≤ len ∧ i = .int .i64 k ∧ Hid (GrowF 39 w wr o (upto D (l.take k))) ∧ Hid (GrowF 39 w wr p (behind D (l.take k))) ∧ Hid (Apart o p)) (fun _ _ i _ => len - (intOf i).toNat)
  case atStart => exact ⟨0, by omega, rfl, hide (GrowF.nil _ _ _ (Below.refl _ _)), hide (GrowF.nil _ _ _ (Below.refl _ _)), hide (fun k hk => (by cases hk))⟩
  case round =>
    obtain ⟨k, hk, rfl, HG, HU, HP⟩ := hrel
    by_cases hlt : k < len
    · have HB := hide (unhide HG).below
      obtain ⟨c0, c1⟩ := (unhide HC).keep (unhide HB) k (by rw [hl]; exact hlt)
      have hs := hide (getF_64 (unhide H64) k)
      have ht := hide (unhide HT k hlt)
      generalize getF l k = f at *
      obtain ⟨d, a⟩ := f
      replace c0 : wr.cell? ⟨b, off + k * 2, none⟩ = some (.int .i64 d) := c0
      replace c1 : wr.cell? ⟨b, off + k * 2 + 1, none⟩ = some (.int .i64 a) := c1
      have hl2 : Hid ((upto D (l.take k)).length ≤ 1000000) := hide (Nat.le_trans (upto_len _ _) (unhide HL k))
      have hl3 : Hid ((behind D (l.take k)).length ≤ 1000000) := hide (Nat.le_trans (behind_len _ _) (unhide HL k))
      have e1 := hide (upto_snoc D (l.take k) (d, a))
      have e2 := hide (behind_snoc D (l.take k) (d, a))
      rw [unhide ht] at e1 e2
      replace HG := hide ((unhide HG).alloc (.cells #[.int .i64 d, .int .i64 a] 39))
      replace HU := hide ((unhide HU).alloc (.cells #[.int .i64 d, .int .i64 a] 39))
      generalize upto D (l.take k) = zs at *
      generalize behind D (l.take k) = ys at *
      clear HB ht
      by_cases q : d ≤ D
      · have q1 := decide_eq_true q
        replace e1 : Hid (upto D (l.take (k + 1)) = zs ++ [(d, a)]) := hide ((unhide e1).trans (if_pos q))
        replace e2 : Hid (behind D (l.take (k + 1)) = ys) := hide ((unhide e2).trans (if_pos q))
        go_wp2_with (at_builtin; refine pushF_pair 39 24 Try.underlying24 Try.info39 rfl _ _ rfl w _ _ _ zs ys (d, a) (unhide HG) (unhide HU) (unhide HP) rfl (by simp [Act.eval, Act.put]) (unhide hl2) (unhide hs) ?_)
        intro v' w2 hG2 hU2 hP2
        replace hG2 := hide hG2
        replace hU2 := hide hU2
        replace hP2 := hide hP2
        go_wp2
        go_roundw
        case rel => exact ⟨k + 1, by omega, by go_num, by rw [unhide e1]; exact hG2, by rw [unhide e2]; exact hU2, hP2⟩
        case measure => simp [intOf]; omega
      · have q1 := decide_eq_false q
        replace e1 : Hid (upto D (l.take (k + 1)) = zs) := hide ((unhide e1).trans (if_neg q))
        replace e2 : Hid (behind D (l.take (k + 1)) = ys ++ [(d, a)]) := hide ((unhide e2).trans (if_neg q))
        go_wp2_with (at_builtin; refine pushF_pair 39 24 Try.underlying24 Try.info39 rfl _ _ rfl w _ _ _ ys zs (d, a) (unhide HU) (unhide HG) (unhide HP).symm rfl (by simp [Act.eval, Act.put]) (unhide hl3) (unhide hs) ?_)
        intro v' w2 hG2 hU2 hP2
        replace hG2 := hide hG2
        replace hU2 := hide hU2
        replace hP2 := hide hP2.symm
        go_wp2
        go_roundw
        case rel => exact ⟨k + 1, by omega, by go_num, by rw [unhide e1]; exact hU2, by rw [unhide e2]; exact hG2, hP2⟩
        case measure => simp [intOf]; omega
    · obtain rfl : k = len := by omega
      rw [unhide HA] at HG HU
      go_wp2_with fail
      go_ret2
      exact ⟨_, _, rfl, unhide HG, unhide HU, unhide HP⟩
theorem part_empty (x : Option Addr) (cap : Nat) (D : Int) (w : World) : Calls Try.prog 12 #[.slice x 0 cap, .int .i64 D] w fun e w' => e = .returned (.tuple #[.slice none 0 0, .slice none 0 0]) ∧ w = w' := by
  go_enter Try.func12, Try.ntmps12
  go_wp2_with fail
  refine wp_loop_rounds 1 ?_
  rw [rounds_succ]
  go_wp2_with fail
  go_ret2
  exact ⟨rfl, rfl⟩
theorem part_any (v : Value) (D : Int) (l : List (Int × Int)) (w : World) (h : RowF w v l) (hm : l.length ≤ 1000) : Calls Try.prog 12 #[v, .int .i64 D] w fun e w' => ∃ u v, e = .returned (.tuple #[u, v]) ∧ GrowF 39 w w' u (upto D l) ∧ GrowF 39 w w' v (behind D l) ∧ Apart u v := by
  rcases h with ⟨a, cap, rfl, rfl, _⟩ | ⟨b, off, cap, rfl, h0, _, _, hc, hin⟩
  · refine (part_empty a cap D w).mono ?_
    rintro e w' ⟨rfl, rfl⟩
    exact ⟨_, _, rfl, GrowF.nil _ _ _ (Below.refl _ _), GrowF.nil _ _ _ (Below.refl _ _), fun k hk => (by cases hk)⟩
  · exact part_row b off cap D l w hm hc hin
set_option maxHeartbeats 2000000 in
theorem rpart_row (b off cap : Nat) (D : Int) (l : List (Int × Int)) (w : World) (hm : l.length ≤ 1000) (hc : CellsF w b off l) (h64 : ∀ f ∈ l, In64 f.1 ∧ In64 f.2) :
    Calls Try.prog 13 #[.slice (some ⟨b, off, none⟩) l.length cap, .int .i64 D] w fun e w' => ∃ u v, e = .returned (.tuple #[u, v]) ∧ GrowF 40 w w' u (upto D l) ∧ GrowF 40 w w' v (behind D l) ∧ Apart u v := by
  have HC := hide hc
  have H64 := hide h64
  have HL : Hid (∀ k, (l.take k).length ≤ 1000000) := hide (fun k => by rw [List.length_take]; omega)
  have HT := hide (fun k => take_getF (l := l) (k := k))
  have HA : Hid (l.take l.length = l) := hide (List.take_length)
  clear hc h64
  generalize hl : l.length = len at *
  go_enter Try.func13, Try.ntmps13
  go_wp2_with fail
  go_loopw [6, 7, 12] (fun o p i wr => ∃ k : Nat, k ≤ len ∧ i = .int .i64 k ∧ Hid (GrowF 40 w wr o (upto D (l.take k))) ∧ Hid (GrowF 40 w wr p (behind D (l.take k))) ∧ Hid (Apart o p)) (fun _ _ i _ => len - (intOf i).toNat)
  case atStart => exact ⟨0, by omega, rfl, hide (GrowF.nil _ _ _ (Below.refl _ _)), hide (GrowF.nil _ _ _ (Below.refl _ _)), hide (fun k hk => (by cases hk))⟩
  case round =>
    obtain ⟨k, hk, rfl, HG, HU, HP⟩ := hrel
    by_cases hlt : k < len
    · have HB := hide (unhide HG).below
      obtain ⟨c0, c1⟩ := (unhide HC).keep (unhide HB) k (by rw [hl]; exact hlt)
      have hs := hide (getF_64 (unhide H64) k)
      have ht := hide (unhide HT k hlt)
      generalize getF l k = f at *
      obtain ⟨d, a⟩ := f
      replace c0 : wr.cell? ⟨b, off + k * 2, none⟩ = some (.int .i64 d) := c0
      replace c1 : wr.cell? ⟨b, off + k * 2 + 1, none⟩ = some (.int .i64 a) := c1
      have hl2 : Hid ((upto D (l.take k)).length ≤ 1000000) := hide (Nat.le_trans (upto_len _ _) (unhide HL k))
      have hl3 : Hid ((behind D (l.take k)).length ≤ 1000000) := hide (Nat.le_trans (behind_len _ _) (unhide HL k))
      have e1 := hide (upto_snoc D (l.take k) (d, a))
      have e2 := hide (behind_snoc D (l.take k) (d, a))
      rw [unhide ht] at e1 e2
      replace HG := hide ((unhide HG).alloc (.cells #[.int .i64 d, .int .i64 a] 40))
      replace HU := hide ((unhide HU).alloc (.cells #[.int .i64 d, .int .i64 a] 40))
      generalize upto D (l.take k) = zs at *
      generalize behind D (l.take k) = ys at *
      clear HB ht
      by_cases q : d ≤ D
      · have q1 := decide_eq_true q
        replace e1 : Hid (upto D (l.take (k + 1)) = zs ++ [(d, a)]) := hide ((unhide e1).trans (if_pos q))
        replace e2 : Hid (behind D (l.take (k + 1)) = ys) := hide ((unhide e2).trans (if_pos q))
        go_wp2_with (at_builtin; refine pushF_pair 40 22 Try.underlying22 Try.info40 rfl _ _ rfl w _ _ _ zs ys (d, a) (unhide HG) (unhide HU) (unhide HP) rfl (by simp [Act.eval, Act.put]) (unhide hl2) (unhide hs) ?_)
        intro v' w2 hG2 hU2 hP2
        replace hG2 := hide hG2
        replace hU2 := hide hU2
        replace hP2 := hide hP2
        go_wp2
        go_roundw
        case rel => exact ⟨k + 1, by omega, by go_num, by rw [unhide e1]; exact hG2, by rw [unhide e2]; exact hU2, hP2⟩
        case measure => simp [intOf]; omega
      · have q1 := decide_eq_false q
        replace e1 : Hid (upto D (l.take (k + 1)) = zs) := hide ((unhide e1).trans (if_neg q))
        replace e2 : Hid (behind D (l.take (k + 1)) = ys ++ [(d, a)]) := hide ((unhide e2).trans (if_neg q))
        go_wp2_with (at_builtin; refine pushF_pair 40 22 Try.underlying22 Try.info40 rfl _ _ rfl w _ _ _ ys zs (d, a) (unhide HU) (unhide HG) (unhide HP).symm rfl (by simp [Act.eval, Act.put]) (unhide hl3) (unhide hs) ?_)
        intro v' w2 hG2 hU2 hP2
        replace hG2 := hide hG2
        replace hU2 := hide hU2
        replace hP2 := hide hP2.symm
        go_wp2
        go_roundw
        case rel => exact ⟨k + 1, by omega, by go_num, by rw [unhide e1]; exact hU2, by rw [unhide e2]; exact hG2, hP2⟩
        case measure => simp [intOf]; omega
    · obtain rfl : k = len := by omega
      rw [unhide HA] at HG HU
      go_wp2_with fail
      go_ret2
      exact ⟨_, _, rfl, unhide HG, unhide HU, unhide HP⟩
theorem rpart_empty (x : Option Addr) (cap : Nat) (D : Int) (w : World) : Calls Try.prog 13 #[.slice x 0 cap, .int .i64 D] w fun e w' => e = .returned (.tuple #[.slice none 0 0, .slice none 0 0]) ∧ w = w' := by
  go_enter Try.func13, Try.ntmps13
  go_wp2_with fail
  refine wp_loop_rounds 1 ?_
  rw [rounds_succ]
  go_wp2_with fail
  go_ret2
  exact ⟨rfl, rfl⟩
theorem rpart_any (v : Value) (D : Int) (l : List (Int × Int)) (w : World) (h : RowF w v l) (hm : l.length ≤ 1000) : Calls Try.prog 13 #[v, .int .i64 D] w fun e w' => ∃ u v, e = .returned (.tuple #[u, v]) ∧ GrowF 40 w w' u (upto D l) ∧ GrowF 40 w w' v (behind D l) ∧ Apart u v := by
  rcases h with ⟨a, cap, rfl, rfl, _⟩ | ⟨b, off, cap, rfl, h0, _, _, hc, hin⟩
  · refine (rpart_empty a cap D w).mono ?_
    rintro e w' ⟨rfl, rfl⟩
    exact ⟨_, _, rfl, GrowF.nil _ _ _ (Below.refl _ _), GrowF.nil _ _ _ (Below.refl _ _), fun k hk => (by cases hk)⟩
  · exact rpart_row b off cap D l w hm hc hin
theorem on_skip {f : Int × Int} {r : List (Int × Int)} {d : Int} (h : f.1 ≠ d) : on (f :: r) d = on r d := if_neg h
theorem on_hit {f : Int × Int} {r : List (Int × Int)} {d : Int} (h : f.1 = d) : on (f :: r) d = f.2 := if_pos h
set_option maxHeartbeats 1000000 in
theorem on_row (b off cap : Nat) (D : Int) (l : List (Int × Int)) (w : World) (hm : l.length ≤ 1000) (hc : CellsF w b off l) :
    Calls Try.prog 31 #[.slice (some ⟨b, off, none⟩) l.length cap, .int .i64 D] w fun e w' => e = .returned (.int .i64 (on l D)) ∧ Below w.heap.size w w' := by
  have HC := hide hc
  have HB := hide (Below.refl w.heap.size w)
  obtain ⟨c, ec⟩ : ∃ c, c = on l D := ⟨_, rfl⟩
  rw [← ec]
  have H0 := hide ec.symm
  have HD := hide (fun k => drop_getF (l := l) (k := k))
  have HE : Hid (l.drop l.length = []) := hide (List.drop_length)
  clear ec hc
  generalize hl : l.length = len at *
  go_enter Try.func31, Try.ntmps31
  go_wp2_with fail
  go_loopw [9] (fun i wr => ∃ k : Nat, k ≤ len ∧ i = .int .i64 k ∧ Hid (on (l.drop k) D = c) ∧ Hid (Below w.heap.size w wr)) (fun i _ => len - (intOf i).toNat)
  case atStart => exact ⟨0, by omega, rfl, H0, HB⟩
  case round =>
    clear HB H0
    obtain ⟨k, hk, rfl, HK, HB⟩ := hrel
    by_cases hlt : k < len
    · obtain ⟨c0, c1⟩ := (unhide HC).keep (unhide HB) k (by rw [hl]; exact hlt)
      replace HK := hide ((congrArg (fun z => on z D) (unhide HD k hlt)).symm.trans (unhide HK))
      generalize getF l k = f at *
      obtain ⟨d, a⟩ := f
      replace c0 : wr.cell? ⟨b, off + k * 2, none⟩ = some (.int .i64 d) := c0
      replace c1 : wr.cell? ⟨b, off + k * 2 + 1, none⟩ = some (.int .i64 a) := c1
      replace HB := hide (below_new2 (unhide HB) (.cells #[.int .i64 d, .int .i64 a] 40))
      by_cases q : d = D
      · subst q
        have q1 : (d == d) = true := by simp
        replace HK : Hid (a = c) := hide ((on_hit (f := (d, a)) rfl).symm.trans (unhide HK))
        go_wp2_with fail
        go_ret
        exact ⟨ret_int (unhide HK), unhide HB⟩
      · have q1 : (d == D) = false := by simp [q]
        replace HK := hide ((on_skip (f := (d, a)) q).symm.trans (unhide HK))
        go_wp2_with fail
        go_roundw
        case rel => exact ⟨k + 1, by omega, by go_num, HK, HB⟩
        case measure => simp [intOf]; omega
    · have HK2 : Hid (0 = c) := hide (by
        obtain rfl : k = len := by omega
        have := unhide HK
        rw [unhide HE] at this
        exact this)
      go_wp2_with fail
      go_ret
      exact ⟨ret_int (unhide HK2), unhide HB⟩
theorem on_empty (x : Option Addr) (cap : Nat) (D : Int) (w : World) : Calls Try.prog 31 #[.slice x 0 cap, .int .i64 D] w fun e w' => e = .returned (.int .i64 0) ∧ Below w.heap.size w w' := by
  go_enter Try.func31, Try.ntmps31
  go_wp2_with fail
  refine wp_loop_rounds 1 ?_
  rw [rounds_succ]
  go_wp2_with fail
  go_ret
  exact ⟨rfl, Below.refl _ _⟩
theorem on_any (v : Value) (D : Int) (l : List (Int × Int)) (w : World) (h : RowF w v l) (hm : l.length ≤ 1000) : Calls Try.prog 31 #[v, .int .i64 D] w fun e w' => e = .returned (.int .i64 (on l D)) ∧ Below w.heap.size w w' := by
  rcases h with ⟨a, cap, rfl, rfl, _⟩ | ⟨b, off, cap, rfl, h0, _, _, hc, hin⟩
  · exact on_empty a cap D w
  · exact on_row b off cap D l w hm hc
end Go.Proofs.Ytkjbkppjebljpaa
