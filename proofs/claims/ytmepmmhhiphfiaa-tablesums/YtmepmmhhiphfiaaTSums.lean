/- All interest, and all that is paid: Sums. -/
import Derived.Test.YtmepmmhhiphfiaaTPlug
namespace Go.Proofs.Ytmepmmhhiphfiaa.Mn
open Go.RowKit
set_option linter.unusedSimpArgs false
def T1 (l : List (List Int)) : Int := total (l.map (fun f => f.getD 1 0))
def T2 (l : List (List Int)) : Int := total (l.map (fun f => f.getD 2 0))
def okS (l : List (List Int)) : Prop := turn (T1 l) = 0 ∧ turn (T2 l) = 0
/-- Sums answers a, b, e. -/
def SumsA (f : Nat) (w : World) (v : Value) (a b e : Int) : Prop := Calls Try.prog f #[v] w fun z w' => z = .returned (.tuple #[.int .i64 a, .int .i64 b, .int .i64 e]) ∧ Below w.heap.size w w'
/-- What Sums answers. -/
def SumR (l : List (List Int)) (a b e : Int) : Prop := (¬ In64 (T1 l) ∧ a = 0 ∧ b = 0 ∧ e = 3) ∨ (In64 (T1 l) ∧ ¬ In64 (T2 l) ∧ a = 0 ∧ b = 0 ∧ e = 3) ∨ (In64 (T1 l) ∧ In64 (T2 l) ∧ a = T1 l ∧ b = T2 l ∧ e = 0)
theorem sumR_ex (l : List (List Int)) : ∃ a b e, SumR l a b e := by
  by_cases h1 : In64 (T1 l)
  · by_cases h2 : In64 (T2 l)
    · exact ⟨_, _, _, Or.inr (Or.inr ⟨h1, h2, rfl, rfl, rfl⟩)⟩
    · exact ⟨_, _, _, Or.inr (Or.inl ⟨h1, h2, rfl, rfl, rfl⟩)⟩
  · exact ⟨_, _, _, Or.inl ⟨h1, rfl, rfl, rfl⟩⟩
/-- Two rows of numbers, each in a block of its own. -/
structure Two (w wr : World) (A B n : Nat) (f g : Nat → Int) : Prop where
  bel : Below w.heap.size w wr
  ra : wr.rowIs A 2 n (fun j => .int .i64 (f j))
  rb : wr.rowIs B 2 n (fun j => .int .i64 (g j))
  ne : A ≠ B
  ga : w.heap.size ≤ A
  gb : w.heap.size ≤ B
section
variable {w wr wr' : World} {A B n : Nat} {f g : Nat → Int}
theorem Two.swap (h : Two w wr A B n f g) : Two w wr B A n g f := ⟨h.bel, h.rb, h.ra, fun c => h.ne c.symm, h.gb, h.ga⟩
theorem Two.keep (h : Two w wr A B n f g) (hb : Below wr.heap.size wr wr') : Two w wr' A B n f g := ⟨below_via h.bel hb, h.ra.of_block (hb.block _ h.ra.lt), h.rb.of_block (hb.block _ h.rb.lt), h.ne, h.ga, h.gb⟩
theorem Two.drewN (h : Two w wr A B n f g) (m : Nat) : Two w (wr.drewN m) A B n f g := ⟨below_drewN h.bel m, h.ra, h.rb, h.ne, h.ga, h.gb⟩
theorem Two.put (h : Two w wr A B n f g) (k : Nat) (x : Int) {F : Nat → Int} (hF : ∀ j, (if j = k then x else f j) = F j) : Two w (wr.setCell ⟨A, k, none⟩ (.int .i64 x)) A B n F g :=
  ⟨h.bel.setCell h.ga _, (h.ra.set k _).congr (fun j _ => by
    by_cases e : j = k
    · rw [if_pos e, ← hF j, if_pos e]
    · rw [if_neg e, ← hF j, if_neg e]), h.rb.setOther (fun c => h.ne c.symm) _, h.ne, h.ga, h.gb⟩
theorem Two.put2 (h : Two w wr A B n f g) (k : Nat) (x y : Int) {F G : Nat → Int} (hF : ∀ j, (if j = k then x else f j) = F j) (hG : ∀ j, (if j = k then y else g j) = G j) : Two w ((wr.setCell ⟨A, k, none⟩ (.int .i64 x)).setCell ⟨B, k, none⟩ (.int .i64 y)) A B n F G :=
  ((h.put k x hF).swap.put k y hG).swap
theorem Two.made (w : World) (n : Nat) : Two w ((w.alloc (.cells (madeCells #[.int .i64 0] n) 2)).alloc (.cells (madeCells #[.int .i64 0] n) 2)) w.heap.size (w.heap.size + 1) n (fun _ => 0) (fun _ => 0) := by
  have h := World.rowIs_made (w.alloc (.cells (madeCells #[.int .i64 0] n) 2)) (.int .i64 0) n 2
  rw [show (w.alloc (.cells (madeCells #[.int .i64 0] n) 2)).heap.size = w.heap.size + 1 from by simp] at h
  exact ⟨(below1 w _).alloc (by simp) _, (World.rowIs_made w (.int .i64 0) n 2).alloc _, h, by omega, Nat.le_refl _, by omega⟩
theorem Two.rowA (h : Two w wr A B n f g) (hm : n ≤ 1000) (hf : ∀ j, In64 (f j)) (cap : Nat) : Row wr (.slice (some ⟨A, 0, none⟩) n cap) ((List.range n).map f) := by
  by_cases h0 : n = 0
  · subst h0; exact Or.inl ⟨_, cap, rfl, rfl⟩
  · refine Or.inr ⟨A, 0, cap, by simp, by simp; omega, by simp [maxLen]; omega, fun j hj => ?_, fun z hz => ?_⟩
    · have hj' : j < n := by simpa using hj
      rw [Nat.zero_add, h.ra.cell hj']
      simp [List.getD, hj']
    · obtain ⟨j, _, rfl⟩ := List.mem_map.1 hz
      exact hf j
end
theorem range_getN (l : List (List Int)) (t : Nat) : (List.range l.length).map (fun j => getN l j t) = l.map (fun f => f.getD t 0) := by
  refine List.ext_getElem (by simp) (fun j h1 h2 => ?_)
  have hj : j < l.length := by simpa using h1
  simp [getN, List.getD, hj]
theorem up_step (F : Nat → Int) (k : Nat) : ∀ j, (if j = k then F k else if j < k then F j else 0) = if j < k + 1 then F j else 0 := fun j => by
  by_cases e : j = k
  · subst e; rw [if_pos rfl, if_pos (by omega)]
  · rw [if_neg e]
    by_cases c : j < k
    · rw [if_pos c, if_pos (by omega)]
    · rw [if_neg c, if_neg (by omega)]
theorem sum_of {v : Value} {zs : List Int} {n : Int} (w : World) (h : Row w v zs) (hn : total zs = n) :
    Calls Try.prog 26 #[v] w fun e w' => e = .returned (.tuple #[.int .i64 (okN n), .int .i64 (okE n)]) ∧ w = w' := by
  subst hn
  exact sum_any v zs w h
theorem sum_yes {v : Value} {zs : List Int} {n : Int} (w : World) (h : Row w v zs) (hn : total zs = n) (hi : In64 n) :
    Calls Try.prog 26 #[v] w fun e w' => e = .returned (.tuple #[.int .i64 n, .int .i64 0]) ∧ w = w' := by
  have := sum_of w h hn
  rwa [okN_in (turn_in hi), okE_in (turn_in hi)] at this
theorem sum_no {v : Value} {zs : List Int} {n : Int} (w : World) (h : Row w v zs) (hn : total zs = n) (hi : ¬ In64 n) :
    Calls Try.prog 26 #[v] w fun e w' => e = .returned (.tuple #[.int .i64 0, .int .i64 3]) ∧ w = w' := by
  have := sum_of w h hn
  have ht : ¬ turn n = 0 := fun c => hi (in_of_turn c)
  rwa [okN_out ht, okE_out ht] at this
set_option maxRecDepth 20000 in
set_option maxHeartbeats 4000000 in
theorem sums_row {b off cap : Nat} {l : List (List Int)} {w : World} {a c e : Int} (hU : RowN 4 w (.slice (some ⟨b, off, none⟩) l.length cap) l) (hm : l.length ≤ 1000) (hr : SumR l a c e) : SumsA 12 w (.slice (some ⟨b, off, none⟩) l.length cap) a c e := by
  unfold SumsA
  have HU := hide hU
  have HSm := hide hU.small
  have HR := hide hr
  have H1 := hide (range_getN l 1)
  have H2 := hide (range_getN l 2)
  clear hU hr
  generalize hl : l.length = len at *
  have HL := hide hl
  clear hl
  have hmk := run_make_row' (P := Try.prog) 22 2 (.int .i64 0) 8 Try.underlying22 info2 rfl .i64 .i64 len (by omega) (by omega)
  go_enter Try.func12, Try.ntmps12
  go_upto_region 1 with fail
  go_cut [5, 6] from 9 to 14 (fun s t wx => ∃ A B, s = .slice (some ⟨A, 0, none⟩) len len ∧ t = .slice (some ⟨B, 0, none⟩) len len ∧ Hid (Two w wx A B len (fun _ => 0) (fun _ => 0)))
  case first =>
    go_region
    all_goals go_wp2_with fail
    all_goals go_meet
    · exact ⟨_, _, rfl, rfl, hide ((Two.made w len).drewN 1)⟩
    · exact ⟨_, _, rfl, rfl, hide ((Two.made w len).swap.drewN 1)⟩
  case rest =>
    obtain ⟨A, B, rfl, rfl, HT⟩ := hcut
    clear hmk
    go_wp2_with fail
    go_loopw [17] (fun i wr => ∃ k : Nat, k ≤ len ∧ i = .int .i64 k ∧ Hid (Two w wr A B len (fun j => if j < k then getN l j 1 else 0) (fun j => if j < k then getN l j 2 else 0))) (fun i _ => len - (intOf i).toNat)
    case atStart => exact ⟨0, Nat.zero_le _, rfl, hide ⟨(unhide HT).bel, (unhide HT).ra.congr (fun j _ => by rw [if_neg (Nat.not_lt_zero j)]), (unhide HT).rb.congr (fun j _ => by rw [if_neg (Nat.not_lt_zero j)]), (unhide HT).ne, (unhide HT).ga, (unhide HT).gb⟩⟩
    case round =>
      clear HT
      obtain ⟨k, hk, rfl, HT⟩ := hrel
      by_cases hlt : k < len
      · have hU2 := (unhide HU).keep (unhide HT).bel
        have d0 := hU2.cells (j := k) (t := 0) (by rw [unhide HL]; exact hlt) (by decide)
        have d1 := hU2.cells (j := k) (t := 1) (by rw [unhide HL]; exact hlt) (by decide)
        have d2 := hU2.cells (j := k) (t := 2) (by rw [unhide HL]; exact hlt) (by decide)
        have d3 := hU2.cells (j := k) (t := 3) (by rw [unhide HL]; exact hlt) (by decide)
        rw [Nat.add_zero] at d0
        have u1 := hide (up_step (fun j => getN l j 1) k)
        have u2 := hide (up_step (fun j => getN l j 2) k)
        have HP := hide (fun (W : World) (h : Two w W A B len (fun j => if j < k then getN l j 1 else 0) (fun j => if j < k then getN l j 2 else 0)) => h.put2 k (getN l k 1) (getN l k 2) (unhide u1) (unhide u2))
        generalize getN l k 0 = X at *
        generalize getN l k 1 = Y at *
        generalize getN l k 2 = Z at *
        generalize getN l k 3 = V at *
        have k1 : (k : Int) < (len : Int) := by omega
        have p0 := (unhide HT).ra.cell hlt
        have p1 := (unhide HT).rb.cell hlt
        have f0 := (unhide HT).ra.frozen k
        have f1 := (unhide HT).rb.frozen k
        rw [if_neg (Nat.lt_irrefl k)] at p0 p1
        have l0 := (unhide HT).ra.lt
        have l1 := (unhide HT).rb.lt
        have q0 : ¬ A = wr.heap.size := by omega
        have q1 : ¬ B = wr.heap.size := by omega
        have q2 := (unhide HT).ne
        clear hU2 u1 u2
        go_wp2_with fail
        go_region
        all_goals go_wp2_with fail
        all_goals go_roundw
        case rel => exact ⟨k + 1, by omega, by go_num, hide (((unhide HP _ (unhide HT)).keep (below1 _ _)).drewN 1)⟩
        case measure => simp [intOf]; omega
      · have ek : k = len := by omega
        subst ek
        have HTw : Hid (Two w wr A B k (fun j => getN l j 1) (fun j => getN l j 2)) := hide ⟨(unhide HT).bel, (unhide HT).ra.congr (fun j hj => by rw [if_pos hj]), (unhide HT).rb.congr (fun j hj => by rw [if_pos hj]), (unhide HT).ne, (unhide HT).ga, (unhide HT).gb⟩
        have HA := hide ((unhide HTw).rowA (by omega) (fun j => (unhide HSm).at j 1) k)
        have HB := hide ((unhide HTw).swap.rowA (by omega) (fun j => (unhide HSm).at j 2) k)
        rw [unhide H1] at HA
        rw [unhide H2] at HB
        have t3 : ((3 : Int) != 0) = true := rfl
        have t0 : ((0 : Int) != 0) = false := rfl
        rcases unhide HR with ⟨h1, rfl, rfl, rfl⟩ | ⟨h1, h2, rfl, rfl, rfl⟩ | ⟨h1, h2, rfl, rfl, rfl⟩
        · have HS := hide (sum_no wr (unhide HA) rfl h1)
          clear h1
          go_wp2_with fail
          refine (unhide HS).mono ?_
          rintro e1 w1 ⟨rfl, rfl⟩
          go_wp2_with fail
          go_ret3
          exact ⟨rfl, (unhide HTw).bel⟩
        · have HS := hide (sum_yes wr (unhide HA) rfl h1)
          have HS2 := hide (sum_no wr (unhide HB) rfl h2)
          clear h1 h2
          go_wp2_with fail
          refine (unhide HS).mono ?_
          rintro e1 w1 ⟨rfl, rfl⟩
          go_wp2_with fail
          refine (unhide HS2).mono ?_
          rintro e1 w1 ⟨rfl, rfl⟩
          go_wp2_with fail
          go_ret3
          exact ⟨rfl, (unhide HTw).bel⟩
        · have HS := hide (sum_yes wr (unhide HA) rfl h1)
          have HS2 := hide (sum_yes wr (unhide HB) rfl h2)
          have e1 : total (l.map fun f => f.getD 1 0) = T1 l := rfl
          have e2 : total (l.map fun f => f.getD 2 0) = T2 l := rfl
          rw [e1] at HS
          rw [e2] at HS2
          clear h1 h2 e1 e2
          go_wp2_with fail
          refine (unhide HS).mono ?_
          rintro e1 w1 ⟨rfl, rfl⟩
          go_wp2_with fail
          refine (unhide HS2).mono ?_
          rintro e1 w1 ⟨rfl, rfl⟩
          go_wp2_with fail
          go_ret3
          exact ⟨rfl, (unhide HTw).bel⟩
set_option maxHeartbeats 1000000 in
theorem sums_none (x : Option Addr) (n cap : Nat) (hn : Hid (n = 0)) (w : World) : SumsA 12 w (.slice x n cap) 0 0 0 := by
  unfold SumsA
  have hmk := run_make_row' (P := Try.prog) 22 2 (.int .i64 0) 8 Try.underlying22 info2 rfl .i64 .i64 n (by have := unhide hn; omega) (by have := unhide hn; omega)
  have t0 : ((0 : Int) != 0) = false := rfl
  go_enter Try.func12, Try.ntmps12
  go_upto_region 1 with fail
  go_cut [5, 6] from 9 to 14 (fun s t wx => ∃ A B, s = .slice (some ⟨A, 0, none⟩) n n ∧ t = .slice (some ⟨B, 0, none⟩) n n ∧ Hid (Two w wx A B n (fun _ => 0) (fun _ => 0)))
  case first =>
    go_region
    all_goals go_wp2_with fail
    all_goals go_meet
    · exact ⟨_, _, rfl, rfl, hide ((Two.made w n).drewN 1)⟩
    · exact ⟨_, _, rfl, rfl, hide ((Two.made w n).swap.drewN 1)⟩
  case rest =>
    obtain ⟨A, B, rfl, rfl, HT⟩ := hcut
    clear hmk
    have hn2 := unhide hn
    subst hn2
    go_wp2_with fail
    refine wp_loop_rounds 1 ?_
    rw [rounds_succ]
    go_wp2_with fail
    refine (sum_yes (n := 0) _ (zs := []) (Or.inl ⟨_, _, rfl, rfl⟩) rfl ⟨by omega, by omega⟩).mono ?_
    rintro e w' ⟨rfl, rfl⟩
    go_wp2_with fail
    refine (sum_yes (n := 0) _ (zs := []) (Or.inl ⟨_, _, rfl, rfl⟩) rfl ⟨by omega, by omega⟩).mono ?_
    rintro e w' ⟨rfl, rfl⟩
    go_wp2_with fail
    go_ret3
    exact ⟨rfl, (unhide HT).bel⟩
theorem sumR_nil {a b e : Int} (h : SumR [] a b e) : a = 0 ∧ b = 0 ∧ e = 0 := by
  have h0 : In64 0 := ⟨by omega, by omega⟩
  rcases h with ⟨c, _⟩ | ⟨_, c, _⟩ | ⟨_, _, h1, h2, h3⟩
  · exact absurd h0 c
  · exact absurd h0 c
  · exact ⟨h1, h2, h3⟩
theorem sums_any {w : World} {v : Value} {l : List (List Int)} {a b e : Int} (h : RowN 4 w v l) (hm : l.length ≤ 1000) (hr : SumR l a b e) : SumsA 12 w v a b e := by
  have h' := h
  rcases h with ⟨x, cap, rfl, rfl, _⟩ | ⟨b', off, cap, rfl, h0, _⟩
  · obtain ⟨rfl, rfl, rfl⟩ := sumR_nil hr
    exact sums_none x 0 cap (hide rfl) w
  · exact sums_row h' hm hr
end Go.Proofs.Ytmepmmhhiphfiaa.Mn
