/- What money's giveOut does to the parts: one more (or one less) for each of the first weights that are not 0, as many as are left. -/
import Derived.Test.YtgnhnffmojjncaaMWeigh
import Derived.Deep.OwnRows
namespace Go.Proofs.Ytgnhnffmojjncaa.Mn
open Go.RowKit
/-- How many of the first k weights are not 0. -/
def nz (ws : List Int) (k : Nat) : Nat := ((ws.take k).filter fun v => v != 0).length
theorem nz_yes {ws : List Int} {k : Nat} (h : k < ws.length) (hz : ws.getD k 0 ≠ 0) : nz ws (k + 1) = nz ws k + 1 := by
  have e : ws.getD k 0 = ws[k] := by simp [List.getD, h]
  rw [e] at hz
  unfold nz
  rw [List.take_succ_eq_append_getElem h, List.filter_append]
  simp [hz]
theorem nz_no {ws : List Int} {k : Nat} (h : k < ws.length) (hz : ws.getD k 0 = 0) : nz ws (k + 1) = nz ws k := by
  have e : ws.getD k 0 = ws[k] := by simp [List.getD, h]
  rw [e] at hz
  unfold nz
  rw [List.take_succ_eq_append_getElem h, List.filter_append]
  simp [hz]
theorem nz_mono (ws : List Int) {j k : Nat} (h : j ≤ k) : nz ws j ≤ nz ws k := by
  unfold nz
  have : ws.take j = (ws.take k).take j := by rw [List.take_take, Nat.min_eq_left h]
  rw [this]
  exact (List.Sublist.filter _ (List.take_sublist j (ws.take k))).length_le
/-- The parts when the first k weights have been passed, L to be given out, each s. -/
def giveAt (ps : Nat → Int) (ws : List Int) (L : Nat) (s : Int) (k j : Nat) : Int := ps j + if j < k ∧ ws.getD j 0 ≠ 0 ∧ nz ws j < L then s else 0
theorem giveAt_here (ps : Nat → Int) (ws : List Int) (L : Nat) (s : Int) (k : Nat) : giveAt ps ws L s k k = ps k := by
  unfold giveAt; rw [if_neg (by omega)]; omega
theorem giveAt_pass {ps : Nat → Int} {ws : List Int} {L : Nat} {s : Int} {k : Nat} (h : ws.getD k 0 = 0) (j : Nat) : giveAt ps ws L s k j = giveAt ps ws L s (k + 1) j := by
  unfold giveAt
  by_cases e : j = k
  · subst e; rw [if_neg (by omega), if_neg (fun c => c.2.1 h)]
  · by_cases c : j < k ∧ ws.getD j 0 ≠ 0 ∧ nz ws j < L
    · rw [if_pos c, if_pos ⟨by omega, c.2⟩]
    · rw [if_neg c, if_neg (fun d => c ⟨by omega, d.2⟩)]
theorem giveAt_give {ps : Nat → Int} {ws : List Int} {L : Nat} {s : Int} {k : Nat} (h : ws.getD k 0 ≠ 0) (hL : nz ws k < L) (j : Nat) : (if j = k then ps k + s else giveAt ps ws L s k j) = giveAt ps ws L s (k + 1) j := by
  unfold giveAt
  by_cases e : j = k
  · subst e; rw [if_pos rfl, if_pos ⟨by omega, h, hL⟩]
  · rw [if_neg e]
    by_cases c : j < k ∧ ws.getD j 0 ≠ 0 ∧ nz ws j < L
    · rw [if_pos c, if_pos ⟨by omega, c.2⟩]
    · rw [if_neg c, if_neg (fun d => c ⟨by omega, d.2⟩)]
theorem giveAt_done {ps : Nat → Int} {ws : List Int} {L : Nat} {s : Int} {k n : Nat} (hk : k ≤ n) (hL : L ≤ nz ws k) (j : Nat) : giveAt ps ws L s k j = giveAt ps ws L s n j := by
  unfold giveAt
  by_cases c : j < k ∧ ws.getD j 0 ≠ 0 ∧ nz ws j < L
  · rw [if_pos c, if_pos ⟨by omega, c.2⟩]
  · rw [if_neg c, if_neg]
    intro d
    by_cases hj : j < k
    · exact c ⟨hj, d.2⟩
    · have := nz_mono ws (Nat.le_of_not_lt hj); omega
/-- Below block P nothing has turned; block P is a row of len numbers, f. -/
structure Own (w wr : World) (P len : Nat) (f : Nat → Int) : Prop where
  below : Below P w wr
  row : wr.rowIs P 2 len (fun j => .int .i64 (f j))
theorem Own.put {w wr : World} {P len : Nat} {f g : Nat → Int} (h : Own w wr P len f) (k : Nat) (v : Int) (hg : ∀ j, (if j = k then v else f j) = g j) : Own w (wr.setCell ⟨P, k, none⟩ (.int .i64 v)) P len g :=
  ⟨h.below.setCell (Nat.le_refl _) _, (h.row.set k _).congr (fun j _ => by
    by_cases e : j = k
    · rw [if_pos e, ← hg j, if_pos e]
    · rw [if_neg e, ← hg j, if_neg e])⟩
theorem Own.as {w wr : World} {P len : Nat} {f g : Nat → Int} (h : Own w wr P len f) (hg : ∀ j, f j = g j) : Own w wr P len g :=
  ⟨h.below, h.row.congr (fun j _ => by rw [hg j])⟩
theorem Own.drewN {w wr : World} {P len : Nat} {f : Nat → Int} (h : Own w wr P len f) (n : Nat) : Own w (wr.drewN n) P len f :=
  ⟨h.below.trans ⟨rfl, rfl, rfl, Nat.le_refl _, fun _ _ => rfl⟩, h.row⟩
set_option maxHeartbeats 800000 in
theorem giveOut_up (L b off cap P : Nat) (ws : List Int) (ps : Nat → Int) (w w0 : World) (hl : ws.length ≤ 600) (hL : L ≤ 10000000000000000) (hbP : b < P)
    (hps : ∀ j, -10000000000000 ≤ ps j ∧ ps j ≤ 10000000000000)
    (hc : ∀ j, j < ws.length → w0.cell? ⟨b, off + j, none⟩ = some (.int .i64 (ws.getD j 0))) (ho : Own w0 w P ws.length ps) :
    Calls Try.prog 65 #[.int .i64 L, .slice (some ⟨b, off, none⟩) ws.length cap, .slice (some ⟨P, 0, none⟩) ws.length ws.length] w fun e w' => e = .returned (.tuple #[]) ∧ Own w0 w' P ws.length (giveAt ps ws L 1 ws.length) := by
  have HC := hide hc
  have Hps := hide hps
  have Hyes := hide (fun k h hz => nz_yes (ws := ws) (k := k) h hz)
  have Hno := hide (fun k h hz => nz_no (ws := ws) (k := k) h hz)
  have ho' : Own w0 w P ws.length (giveAt ps ws L 1 0) := ho.as (fun j => by unfold giveAt; rw [if_neg (by omega)]; omega)
  clear hc hps ho
  generalize ws.length = len at *
  have d1 : decide ((L : Int) < 0) = false := by simp
  go_enter Try.func65, Try.ntmps65
  go_wp2
  go_loopw [0, 13] (fun l i wr => ∃ k M : Nat, k ≤ len ∧ i = .int .i64 k ∧ l = .int .i64 M ∧ M ≤ 10000000000000000 ∧ Hid (M = L - nz ws k) ∧ Own w0 wr P len (giveAt ps ws L 1 k)) (fun _ i _ => len - (intOf i).toNat)
  case atStart => exact ⟨0, L, by omega, rfl, rfl, hL, hide (by simp [nz]), ho'⟩
  case round =>
    obtain ⟨k, M, hk, rfl, rfl, hM, HM, how⟩ := hrel
    by_cases hlt : k < len
    · have hck := (how.below.cell (p := ⟨b, off + k, none⟩) hbP).trans (unhide HC k hlt)
      have hpk := how.row.cell hlt
      have hpf := how.row.frozen k
      have HY := hide (unhide Hyes k hlt)
      have HN := hide (unhide Hno k hlt)
      have Hpass := hide (giveAt_pass (ps := ps) (ws := ws) (L := L) (s := 1) (k := k))
      have Hgive := hide (giveAt_give (ps := ps) (ws := ws) (L := L) (s := 1) (k := k))
      have hb := unhide Hps k
      simp only [giveAt_here] at hpk
      generalize ws.getD k 0 = z at *
      generalize hpz : ps k = p at *
      clear hpz
      by_cases hM0 : M = 0
      · subst hM0
        have how' := how.as (giveAt_done hk (by have := unhide HM; omega))
        go_wp2
        refine bodyPost_ret (results_none rfl _ _ _) rfl ?_
        exact ⟨rfl, how'⟩
      · have hM1 : ((M : Int) == 0) = false := by rw [beq_eq_false_iff_ne]; omega
        by_cases hz : z = 0
        · subst hz
          go_wp2
          go_roundw
          case rel => exact ⟨k + 1, M, by omega, by go_num, rfl, hM, hide (by rw [unhide HN rfl]; exact unhide HM), how.as (unhide Hpass rfl)⟩
          case measure => simp [intOf]; omega
        · have hz1 : (z != 0) = true := by simp [hz]
          go_wp2
          go_roundw
          case rel => exact ⟨k + 1, M - 1, by omega, by go_num, by rw [show ((M - 1 : Nat) : Int) = (M : Int) - 1 from by omega], by omega, hide (by rw [unhide HY hz]; have := unhide HM; omega), how.put k (p + 1) (unhide Hgive hz (by have := unhide HM; omega))⟩
          case measure => simp [intOf]; omega
    · have hk2 : k = len := by omega
      subst hk2
      go_wp2
      go_end0
      exact ⟨rfl, how⟩
set_option maxHeartbeats 800000 in
theorem giveOut_down (L b off cap P : Nat) (ws : List Int) (ps : Nat → Int) (w w0 : World) (hl : ws.length ≤ 600) (hL : L ≤ 10000000000000000) (hL0 : 0 < L) (hbP : b < P)
    (hps : ∀ j, -10000000000000 ≤ ps j ∧ ps j ≤ 10000000000000)
    (hc : ∀ j, j < ws.length → w0.cell? ⟨b, off + j, none⟩ = some (.int .i64 (ws.getD j 0))) (ho : Own w0 w P ws.length ps) :
    Calls Try.prog 65 #[.int .i64 (-(L : Int)), .slice (some ⟨b, off, none⟩) ws.length cap, .slice (some ⟨P, 0, none⟩) ws.length ws.length] w fun e w' => e = .returned (.tuple #[]) ∧ Own w0 w' P ws.length (giveAt ps ws L (-1) ws.length) := by
  have HC := hide hc
  have Hps := hide hps
  have Hyes := hide (fun k h hz => nz_yes (ws := ws) (k := k) h hz)
  have Hno := hide (fun k h hz => nz_no (ws := ws) (k := k) h hz)
  have ho' : Own w0 w P ws.length (giveAt ps ws L (-1) 0) := ho.as (fun j => by unfold giveAt; rw [if_neg (by omega)]; omega)
  clear hc hps ho
  generalize ws.length = len at *
  have d1 : decide (-(L : Int) < 0) = true := by simp; omega
  go_enter Try.func65, Try.ntmps65
  go_wp2
  go_loopw [0, 13] (fun l i wr => ∃ k M : Nat, k ≤ len ∧ i = .int .i64 k ∧ l = .int .i64 (-(M : Int)) ∧ M ≤ 10000000000000000 ∧ Hid (M = L - nz ws k) ∧ Own w0 wr P len (giveAt ps ws L (-1) k)) (fun _ i _ => len - (intOf i).toNat)
  case atStart => exact ⟨0, L, by omega, rfl, rfl, hL, hide (by simp [nz]), ho'⟩
  case round =>
    obtain ⟨k, M, hk, rfl, rfl, hM, HM, how⟩ := hrel
    by_cases hlt : k < len
    · have hck := (how.below.cell (p := ⟨b, off + k, none⟩) hbP).trans (unhide HC k hlt)
      have hpk := how.row.cell hlt
      have hpf := how.row.frozen k
      have HY := hide (unhide Hyes k hlt)
      have HN := hide (unhide Hno k hlt)
      have Hpass := hide (giveAt_pass (ps := ps) (ws := ws) (L := L) (s := -1) (k := k))
      have Hgive := hide (giveAt_give (ps := ps) (ws := ws) (L := L) (s := -1) (k := k))
      have hb := unhide Hps k
      simp only [giveAt_here] at hpk
      generalize ws.getD k 0 = z at *
      generalize hpz : ps k = p at *
      clear hpz
      by_cases hM0 : M = 0
      · subst hM0
        have how' := how.as (giveAt_done hk (by have := unhide HM; omega))
        go_wp2
        refine bodyPost_ret (results_none rfl _ _ _) rfl ?_
        exact ⟨rfl, how'⟩
      · have hM1 : (-(M : Int) == 0) = false := by rw [beq_eq_false_iff_ne]; omega
        by_cases hz : z = 0
        · subst hz
          go_wp2
          go_roundw
          case rel => exact ⟨k + 1, M, by omega, by go_num, rfl, hM, hide (by rw [unhide HN rfl]; exact unhide HM), how.as (unhide Hpass rfl)⟩
          case measure => simp [intOf]; omega
        · have hz1 : (z != 0) = true := by simp [hz]
          go_wp2
          go_roundw
          case rel => exact ⟨k + 1, M - 1, by omega, by go_num, by rw [show -((M - 1 : Nat) : Int) = -(M : Int) + 1 from by omega], by omega, hide (by rw [unhide HY hz]; have := unhide HM; omega), how.put k (p + -1) (unhide Hgive hz (by have := unhide HM; omega))⟩
          case measure => simp [intOf]; omega
    · have hk2 : k = len := by omega
      subst hk2
      go_wp2
      go_end0
      exact ⟨rfl, how⟩
end Go.Proofs.Ytgnhnffmojjncaa.Mn
