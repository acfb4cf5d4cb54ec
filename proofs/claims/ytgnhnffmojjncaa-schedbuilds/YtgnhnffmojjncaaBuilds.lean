/- Proved here: SchedBuilds: at any terms the periods, or the error, are the document's, and so is whether they may be. No condition. -/
import Derived.Test.YtgnhnffmojjncaaSRes
import Derived.Test.YtgnhnffmojjncaaSRLev
import Derived.Test.YtgnhnffmojjncaaMRS
import Derived.Deep.CutRange
import Derived.Deep.CutBlock
import Derived.Deep.RegionLaw
import Derived.ProofKit
import Derived.Laws.IdiomCopy
import Derived.OpenShut
import Derived.ShutString
import Derived.ChangeOld
import Derived.Below
namespace Go.Proofs.Ytgnhnffmojjncaa.Mn
open Go.RowKit
set_option linter.unusedSimpArgs false
/-- The document's rate of a period. -/
theorem rrate_any {kd P n : Int} {ab ao len cap : Nat} {rs : List Int} {w : World} (hR : Row w (.slice (some ⟨ab, ao, none⟩) len cap) rs) (hl : rs.length = len) (l0 : 0 < len) (l1 : len ≤ 600) (j : Nat) (_hj : j ≤ 600) :
    Calls Try.prog 23 #[.agg #[.int .i64 kd, .int .i64 P, .slice (some ⟨ab, ao, none⟩) len cap, .int .i64 n], .int .i64 j] w fun e w' => e = .returned (.int .i64 (rtAt rs j)) ∧ Below w.heap.size w w' := by
  have hR' := hR.alloc (.cells #[.int .i64 kd, .int .i64 P, .slice (some ⟨ab, ao, none⟩) len cap, .int .i64 n] 24)
  by_cases c : j < len
  · have cr := row_cell hR' (j := j) (by rw [hl]; exact c)
    rw [show rs.getD j 0 = rtAt rs j from by unfold rtAt; rw [hl, Nat.min_eq_left (by omega)]] at cr
    have k1 : (j : Int) < (len : Int) := by omega
    clear hR hR' hl
    generalize rtAt rs j = z at *
    go_enter Try.func23, Try.ntmps23
    go_wp2_with fail
    go_ret
    exact ⟨rfl, below1 _ _⟩
  · obtain ⟨m, rfl⟩ : ∃ m, len = m + 1 := ⟨len - 1, by omega⟩
    have cr := row_cell hR' (j := m) (by rw [hl]; omega)
    rw [show rs.getD m 0 = rtAt rs j from by unfold rtAt; rw [hl, Nat.min_eq_right (by omega), Nat.add_sub_cancel]] at cr
    have k1 : ¬ (j : Int) < (m : Int) + 1 := by omega
    clear hR hR' hl c
    generalize rtAt rs j = z at *
    go_enter Try.func23, Try.ntmps23
    go_wp2_with fail
    go_ret
    exact ⟨rfl, below1 _ _⟩
/-- Block g is a row of four numbers, of the document's type. -/
def R5 (w : World) (g : Nat) (p q r s : Int) : Prop := w.heap[g]? = some (.cells #[.int .i64 p, .int .i64 q, .int .i64 r, .int .i64 s] 55 (0, 0))
section
variable {w w' : World} {g : Nat} {p q r s : Int}
theorem R5.c0 (h : R5 w g p q r s) : w.cell? ⟨g, 0, none⟩ = some (.int .i64 p) := by rw [cell_of_row w g 0 _ _ _ h]; rfl
theorem R5.c1 (h : R5 w g p q r s) : w.cell? ⟨g, 1, none⟩ = some (.int .i64 q) := by rw [cell_of_row w g 1 _ _ _ h]; rfl
theorem R5.c2 (h : R5 w g p q r s) : w.cell? ⟨g, 2, none⟩ = some (.int .i64 r) := by rw [cell_of_row w g 2 _ _ _ h]; rfl
theorem R5.c3 (h : R5 w g p q r s) : w.cell? ⟨g, 3, none⟩ = some (.int .i64 s) := by rw [cell_of_row w g 3 _ _ _ h]; rfl
theorem R5.fz (h : R5 w g p q r s) (j : Nat) : w.frozen? ⟨g, j, none⟩ = false := frozen_of_row w g j _ _ h
theorem R5.lt (h : R5 w g p q r s) : g < w.heap.size := (Array.getElem?_eq_some_iff.1 h).1
theorem R5.keep (h : R5 w g p q r s) (hb : Below w.heap.size w w') : R5 w' g p q r s := (hb.block g h.lt).trans h
theorem R5.set0 (h : R5 w g p q r s) (v : Int) : R5 (w.setCell ⟨g, 0, none⟩ (.int .i64 v)) g v q r s := by unfold R5; rw [Go.heap_setCell_same w g 0 _ _ _ h]; rfl
theorem R5.set1 (h : R5 w g p q r s) (v : Int) : R5 (w.setCell ⟨g, 1, none⟩ (.int .i64 v)) g p v r s := by unfold R5; rw [Go.heap_setCell_same w g 1 _ _ _ h]; rfl
theorem R5.new (w : World) : R5 (w.alloc (.cells #[.int .i64 0, .int .i64 0, .int .i64 0, .int .i64 0] 55)) w.heap.size 0 0 0 0 := heap_alloc_new w _
end
theorem GrowN.set {E : TypeId} {m : Nat} {w wr : World} {v : Value} {l : List (List Int)} (h : GrowN E m w wr v l) {g : Nat} (hg : w.heap.size ≤ g) (hs : v.ownBlock ≠ some g) (j : Nat) (x : Value) : GrowN E m w (wr.setCell ⟨g, j, none⟩ x) v l :=
  ⟨h.below.setCell hg _, h.owns.kept (gb_set wr g j x) (Or.inr hs), h.small⟩
/-- The document's parts of a principal. -/
theorem rparts {P : Int} {n : Nat} (P0 : 0 ≤ P) (P1 : P ≤ 10000000000000) (n0 : 0 < n) (n1 : n ≤ 600) {b : Nat} {w w0 : World} (h : Own w0 w b n (upTo n)) :
    Calls Try.prog 22 #[.int .i64 P, .slice (some ⟨b, 0, none⟩) n n] w fun e w' => ∃ u, e = .returned (.tuple #[u, .int .i64 0]) ∧ Row w' u (pts P n) ∧ Below w.heap.size w w' := by
  have hg := ones_good n0 n1
  have ht : total (ones n) ≠ 0 := by rw [ones_total]; omega
  have hm : may P = true := by simp [may]; omega
  have hc : ∀ j, j < (ones n).length → w.cell? ⟨b, 0 + j, none⟩ = some (.int .i64 ((ones n).getD j 0)) := fun j hj => by
    rw [ones_len] at hj
    rw [Nat.zero_add, h.row.cell hj, ones_at hj]
    show some (Value.int .i64 (upTo n j)) = _
    rw [show upTo n j = 1 from if_pos hj]
  have k := rsplit_yes P b 0 n (ones n) w hg ht hm hc
  rw [ones_len] at k
  have e : partL P (ones n) = pts P n := by
    unfold partL pts
    rw [ones_len]
    exact List.map_congr_left (fun j hj => ones_part P0 (List.mem_range.1 hj))
  rw [e] at k
  exact k
theorem lev_hi {L : Loan} (hL : L.Ok) {k : Nat} (hk : k < L.n) (ho : ∀ j, j < k → ¬ over qI L j) : lev qI L k ≤ 20000000000000 := by
  obtain ⟨h1, h2, _⟩ := left_in qI_int2 hL k (by omega) ho
  have h := st_hi hL k (by omega) ho
  have hb := qI_int2.bears _ (hL.r0 k) (hL.r1 k)
  unfold lev levAt
  split
  · have b1 := (lvl_bd hb (show 0 < L.n - k by omega) h1 h2).2
    have b2 := hb.le _ h1
    have e : left qI L k = (st qI L k).1 := rfl
    rw [e] at h2 b2 b1
    omega
  · exact h
theorem paid_last {L : Loan} {k : Nat} (h : k + 1 = L.n) : paid qI L k = left qI L k + int qI L k := if_pos h
theorem paid_1 {L : Loan} {k : Nat} (h : ¬ k + 1 = L.n) (hk : L.kind = 1) : paid qI L k = min (lev qI L k) (left qI L k + int qI L k) := (if_neg h).trans (if_pos hk)
theorem paid_2 {L : Loan} {k : Nat} (h : ¬ k + 1 = L.n) (hk : L.kind = 2) : paid qI L k = int qI L k + L.pt k := (if_neg h).trans ((if_neg (by omega)).trans (if_pos hk))
theorem paid_3 {L : Loan} {k : Nat} (h : ¬ k + 1 = L.n) (hk : L.kind = 3) : paid qI L k = int qI L k := (if_neg h).trans ((if_neg (by omega)).trans ((if_neg (by omega)).trans (if_pos hk)))
theorem paid_4 {L : Loan} {k : Nat} (h : ¬ k + 1 = L.n) (hk : L.kind = 4) : paid qI L k = 0 := (if_neg h).trans ((if_neg (by omega)).trans ((if_neg (by omega)).trans (if_neg (by omega))))
theorem lev_other {L : Loan} {k : Nat} (hk : L.kind ≠ 1) : lev qI L k = (st qI L k).2 := if_neg (fun c => hk c.1)
theorem lev_first {L : Loan} (hk : L.kind = 1) : lev qI L 0 = lvlR (L.rt 0) L.n (left qI L 0) := if_pos ⟨hk, Or.inl rfl⟩
theorem lev_new {L : Loan} {j : Nat} (hk : L.kind = 1) (h : L.rt (j + 1) ≠ L.rt j) : lev qI L (j + 1) = lvlR (L.rt (j + 1)) (L.n - (j + 1)) (left qI L (j + 1)) := if_pos ⟨hk, Or.inr h⟩
theorem lev_old {L : Loan} {j : Nat} (h : L.rt (j + 1) = L.rt j) : lev qI L (j + 1) = (st qI L (j + 1)).2 := if_neg (by
  rintro ⟨_, c | c⟩
  · omega
  · exact c h)
theorem lev_yes {L : Loan} {k : Nat} (hk : L.kind = 1) (h : k = 0 ∨ L.rt k ≠ L.rt (k - 1)) : lev qI L k = lvlR (L.rt k) (L.n - k) (left qI L k) := if_pos ⟨hk, h⟩
theorem lev_not {L : Loan} {k : Nat} (h : ¬ (L.kind = 1 ∧ (k = 0 ∨ L.rt k ≠ L.rt (k - 1)))) : lev qI L k = (st qI L k).2 := if_neg h
theorem rbuild_no {kd P n : Int} {rv : Value} {w : World} (hC : ∀ W : World, Below w.heap.size w W → ChkA 16 W kd P rv n 2) : BuildA 12 w kd P rv n [] 2 := by
  have H := hide (hC _ (below1 w (.cells #[.int .i64 kd, .int .i64 P, rv, .int .i64 n] 24)))
  have HB := hide (below1 w (.cells #[.int .i64 kd, .int .i64 P, rv, .int .i64 n] 24))
  clear hC
  unfold ChkA at H
  unfold BuildA
  go_enter Try.func12, Try.ntmps12
  go_wp2_with fail
  refine (unhide H).mono ?_
  rintro e w1 ⟨rfl, hb⟩
  replace HB := hide (below_via (unhide HB) hb)
  clear hb
  go_wp2_with fail
  go_ret2
  exact ⟨_, rfl, rowN_nil _ _, unhide HB⟩
set_option maxRecDepth 20000 in
set_option maxHeartbeats 16000000 in
theorem rbuild_main {kd P : Int} {rs : List Int} {ab ao len cap n : Nat} {w : World} {l : List (List Int)} {e : Int} (hT : TermsOk kd P rs n) (hl : rs.length = len) (hR : Row w (.slice (some ⟨ab, ao, none⟩) len cap) rs)
    (he : (e = 0 ∧ l = rowsUp (loanOf kd P rs n) n ∧ ∀ j, j < n → ¬ over qI (loanOf kd P rs n) j) ∨ (e = 3 ∧ l = [] ∧ ∃ j, j < n ∧ over qI (loanOf kd P rs n) j)) : BuildA 12 w kd P (.slice (some ⟨ab, ao, none⟩) len cap) n l e := by
  have HChk := hide (chk_yes (Or.inr rfl) hT (hR.alloc (.cells #[.int .i64 kd, .int .i64 P, .slice (some ⟨ab, ao, none⟩) len cap, .int .i64 n] 24)))
  have HB := hide (below1 w (.cells #[.int .i64 kd, .int .i64 P, .slice (some ⟨ab, ao, none⟩) len cap, .int .i64 n] 24))
  have HT := hide (Tm.new w 24 kd P (.slice (some ⟨ab, ao, none⟩) len cap) n)
  have HE := hide he
  have HR := hide hR
  have HTm := hide hT
  have HL := hide hl
  have n0 := hT.n0
  have n1 := hT.n1
  have p0 := hT.p0
  have p1 := hT.p1
  have l0 : 0 < len := by rw [← hl]; exact hT.r0
  have l1 : len ≤ n := by rw [← hl]; exact hT.r1
  have hmk := run_make_row' (P := Try.prog) 22 2 (.int .i64 0) 8 Try.underlying22 info2 rfl .i64 .i64 n (by omega) (by omega)
  have HRt : Hid (∀ (W : World) (j : Nat), Row W (.slice (some ⟨ab, ao, none⟩) len cap) rs → j ≤ 600 → Calls Try.prog 23 #[.agg #[.int .i64 kd, .int .i64 P, .slice (some ⟨ab, ao, none⟩) len cap, .int .i64 n], .int .i64 j] W fun e w' => e = .returned (.int .i64 (rtAt rs j)) ∧ Below W.heap.size W w') := hide (fun W j h hj => rrate_any h hl l0 (by omega) j hj)
  clear hT hR he hl
  unfold ChkA at HChk
  unfold BuildA
  go_enter Try.func12, Try.ntmps12
  go_wp2_with fail
  refine (unhide HChk).mono ?_
  rintro e1 w1 ⟨rfl, hb⟩
  replace HB := hide (below_via (unhide HB) hb)
  replace HT := hide ((unhide HT).keep hb)
  clear hb HChk
  have c3 := (unhide HT).c3
  go_wp2_with fail
  have HO1 : Hid (Own w1 (w1.alloc (.cells (madeCells #[.int .i64 0] n) 2)) w1.heap.size n (upTo 0)) := hide ⟨(Below.refl _ _).alloc (Nat.le_refl _) _, (World.rowIs_made w1 _ n 2).congr (fun j _ => by simp [upTo])⟩
  clear hmk
  go_loopw [6, 25] (fun _ i wr => ∃ k : Nat, k ≤ n ∧ i = .int .i64 k ∧ Hid (Own w1 wr w1.heap.size n (upTo k))) (fun _ i _ => n - (intOf i).toNat)
  case atStart => exact ⟨0, Nat.zero_le _, rfl, HO1⟩
  case round =>
    clear HO1
    obtain ⟨k, hk, rfl, HO1⟩ := hrel
    by_cases hlt : k < n
    · have hpk := (unhide HO1).row.cell hlt
      have hpf := (unhide HO1).row.frozen k
      have k1 : (k : Int) < (n : Int) := by omega
      have HO2 := hide ((unhide HO1).put k 1 (g := upTo (k + 1)) (fun j => by
        unfold upTo
        by_cases q : j = k
        · rw [if_pos q, if_pos (by omega)]
        · rw [if_neg q]
          by_cases q2 : j < k
          · rw [if_pos q2, if_pos (by omega)]
          · rw [if_neg q2, if_neg (by omega)]))
      go_wp2_with fail
      go_roundw
      case rel => exact ⟨k + 1, by omega, by go_num, HO2⟩
      case measure => simp [intOf]; omega
    · have ek : n = k := by omega
      subst ek
      obtain ⟨w2, hw2⟩ : ∃ x, x = wr := ⟨_, rfl⟩
      subst hw2
      have hbb := (unhide HO1).below
      replace HT := hide ((unhide HT).keep hbb)
      replace HB := hide (below_via (unhide HB) hbb)
      have HSp := hide (rparts (P := P) (by omega) p1 (by omega) n1 (unhide HO1))
      have c1 := (unhide HT).c1
      clear hbb HO1 c3
      go_wp2_with fail
      refine (unhide HSp).mono ?_
      rintro e1 w3 ⟨u, rfl, hu, hb⟩
      replace HT := hide ((unhide HT).keep hb)
      replace HB := hide (below_via (unhide HB) hb)
      obtain ⟨pb, po, pc, rfl⟩ : ∃ pb po pc, u = .slice (some ⟨pb, po, none⟩) n pc := by
        rcases hu with ⟨x, c, h1, h2⟩ | ⟨b, off, c, h1, _⟩
        · have := pts_len P n; rw [h2] at this; simp at this; omega
        · rw [pts_len] at h1; exact ⟨b, off, c, h1⟩
      have HP := hide hu
      replace HR := hide ((unhide HR).below (unhide HB) (Nat.le_refl _))
      clear hu hb HSp c1
      have c1 := (unhide HT).c1
      go_wp2_with fail
      clear c1
      go_loopw [9, 10, 11, 12] (fun ov lv vv i wr => ∃ (k : Nat) (x v : Int), k ≤ n ∧ i = .int .i64 k ∧ lv = .int .i64 x ∧ vv = .int .i64 v ∧ 0 ≤ x ∧ x ≤ 10000000000000 ∧ 0 ≤ v ∧ v ≤ 20000000000000 ∧ Hid (x = left qI (loanOf kd P rs n) k) ∧ Hid (v = (st qI (loanOf kd P rs n) k).2) ∧ Hid (GrowN 55 4 w3 wr ov (rowsUp (loanOf kd P rs n) k)) ∧ Hid (∀ j, j < k → ¬ over qI (loanOf kd P rs n) j)) (fun _ _ _ i _ => n - (intOf i).toNat)
      case atStart => exact ⟨0, P, 0, by omega, rfl, rfl, rfl, by omega, by omega, by omega, by omega, hide rfl, hide rfl, hide (GrowN.nil _ _ _ _ (Below.refl _ _)), hide (fun j hj => absurd hj (Nat.not_lt_zero j))⟩
      case round =>
        obtain ⟨k, x, v, hk, rfl, rfl, rfl, x0, x1, v0, v1, HX, HV, HG, HO⟩ := hrel
        by_cases hlt : k < n
        · have hbb := (unhide HG).below
          have HTk := hide ((unhide HT).keep hbb)
          have HRk := hide ((unhide HR).below hbb (Nat.le_refl _))
          have HPk := hide ((unhide HP).below hbb (Nat.le_refl _))
          have k1 : (k : Int) < (n : Int) := by omega
          have c0 := (unhide HTk).c0
          have c1 := (unhide HTk).c1
          have c2 := (unhide HTk).c2
          have c3 := (unhide HTk).c3
          have HRt1 := hide (unhide HRt _ k (unhide HRk) (by omega))
          clear hbb
          go_wp2_with fail
          refine (unhide HRt1).mono ?_
          rintro e1 w4 ⟨rfl, hb⟩
          obtain ⟨r0, r1⟩ := bearB_bd ((unhide HTm).at k)
          have HI := hide (ask24 x0 (by omega) r0 r1)
          obtain ⟨q0, q1⟩ := qI_bd x0 r0 r1
          unfold Ans at HI
          have HG4 := hide ((unhide HG).keep hb)
          replace HTk := hide ((unhide HTk).keep hb)
          replace HRk := hide ((unhide HRk).below hb (Nat.le_refl _))
          replace HPk := hide ((unhide HPk).below hb (Nat.le_refl _))
          clear hb c0 c1 c2 c3 HRt1
          go_wp2_with fail
          refine (unhide HI _).mono ?_
          rintro e1 w5 ⟨rfl, hb⟩
          have HRw := hide ((R5.new w4).keep hb)
          have hsep : u9.ownBlock ≠ some w4.heap.size := fun c => Nat.lt_irrefl _ ((unhide HG4).at_least _ c).2
          have hgb : w3.heap.size ≤ w4.heap.size := (unhide HG4).below.size
          have HG5 := hide ((((unhide HG4).alloc (.cells #[.int .i64 0, .int .i64 0, .int .i64 0, .int .i64 0] 55)).keep hb).set hgb hsep 0 (.int .i64 (qI x (rtAt rs k))))
          replace HRw := hide ((unhide HRw).set0 (qI x (rtAt rs k)))
          have g0 := ((R5.new w4).keep hb).c0
          have g1 := ((R5.new w4).keep hb).c1
          have gz := ((R5.new w4).keep hb).fz 0
          have HInt : Hid (int qI (loanOf kd P rs n) k = qI x (rtAt rs k)) := hide (by unfold int; rw [← unhide HX]; rfl)
          have HPd := hide (paid_bd qI_int2 (unhide HTm).loan (show k < (loanOf kd P rs n).n from hlt) (unhide HO))
          have HIn := hide (rowAt_in (unhide HTm).loan (show k < (loanOf kd P rs n).n from hlt) (unhide HO))
          have HLb : Hid (lev qI (loanOf kd P rs n) k ≤ 20000000000000) := hide (lev_hi (unhide HTm).loan (show k < (loanOf kd P rs n).n from hlt) (unhide HO))
          clear hb HG HG4 HI HTk HRk HPk
          go_upto_region 19 with fail
          clear g0 g1 gz
          generalize w5.setCell ⟨w4.heap.size, 0, none⟩ (.int .i64 (qI x (rtAt rs k))) = W6 at *
          generalize w4.heap.size = g at *
          have hkk : kd = 1 ∨ kd = 2 ∨ kd = 3 ∨ kd = 4 := by have := (unhide HTm).k0; have := (unhide HTm).k1; omega
          have hTk := hide ((unhide HT).keep (unhide HG5).below)
          have c0 := (unhide hTk).c0
          have c1 := (unhide hTk).c1
          have c2 := (unhide hTk).c2
          have c3 := (unhide hTk).c3
          have HRk := hide ((unhide HR).below (unhide HG5).below (Nat.le_refl _))
          have g0 := (unhide HRw).c0
          have g1 := (unhide HRw).c1
          have gz1 := (unhide HRw).fz 1
          have q8 : (k : Int) ≤ 599 := by omega
          obtain ⟨q, hq⟩ : ∃ q, qI x (rtAt rs k) = q := ⟨_, rfl⟩
          rw [hq] at HRw HInt q0 q1 g0 ⊢
          have HQ := hide hq
          clear hq
          obtain ⟨lv, hlv⟩ : ∃ lv, lev qI (loanOf kd P rs n) k = lv := ⟨_, rfl⟩
          obtain ⟨B, hB⟩ : ∃ B, paid qI (loanOf kd P rs n) k = B := ⟨_, rfl⟩
          have HLv := hide hlv
          have HBp := hide hB
          have lv0 : 0 ≤ lv := by rw [← hlv]; exact (unhide HPd).2.2.2.1
          have lv1 : lv ≤ 20000000000000 := by rw [← hlv]; exact unhide HLb
          clear hlv hB HLb
          have HNew : Hid (kd = 1 → (k = 0 ∨ rtAt rs k ≠ rtAt rs (k - 1)) → lvlR (rtAt rs k) (n - k) x = lv) := hide (fun h1 h2 => by
            have h := lev_yes (L := (loanOf kd P rs n)) h1 h2
            rw [← unhide HX, unhide HLv] at h
            exact h.symm)
          have HOld : Hid (¬ (kd = 1 ∧ (k = 0 ∨ rtAt rs k ≠ rtAt rs (k - 1))) → v = lv) := hide (fun h => by
            rw [unhide HV, ← unhide HLv]
            exact (lev_not (L := (loanOf kd P rs n)) h).symm)
          have HRp := hide (fun hk0 : 0 < k => unhide HRt _ (k - 1) (unhide HRk) (by omega))
          go_cut [71] from 41 to 147 (fun t wx => ∃ b : Bool, t = .bool b ∧ Hid (b = true ↔ kd = 1 ∧ (k = 0 ∨ rtAt rs k ≠ rtAt rs (k - 1))) ∧ Hid (R5 wx g q 0 0 0) ∧ Hid (GrowN 55 4 w3 wx u9 (rowsUp (loanOf kd P rs n) k)))
          case first =>
            by_cases e1 : kd = 1
            · have d1 : (kd == 1) = true := by rw [e1]; rfl
              by_cases e2 : k = 0
              · have d2 : ((k : Int) == 0) = true := by rw [e2]; rfl
                have HF : Hid (kd = 1 ∧ (k = 0 ∨ rtAt rs k ≠ rtAt rs (k - 1))) := hide ⟨e1, Or.inl e2⟩
                clear e1 e2 HNew HOld
                go_wp2_with fail
                go_meet
                exact ⟨true, rfl, hide ⟨fun _ => unhide HF, fun _ => rfl⟩, HRw, HG5⟩
              · have d2 : ((k : Int) == 0) = false := by rw [beq_eq_false_iff_ne]; omega
                have HR9 := hide (unhide HRp (by omega))
                obtain ⟨r9, hr9⟩ : ∃ r, rtAt rs (k - 1) = r := ⟨_, rfl⟩
                rw [hr9] at HR9
                rw [show ((k - 1 : Nat) : Int) = (k : Int) - 1 from by omega] at HR9
                by_cases e3 : rtAt rs k = r9
                · have d3 : (rtAt rs k != r9) = false := by rw [e3]; simp
                  have HF : Hid (¬ (kd = 1 ∧ (k = 0 ∨ rtAt rs k ≠ rtAt rs (k - 1)))) := hide (fun h => by rcases h.2 with h | h; exact absurd h e2; exact absurd (e3.trans hr9.symm) h)
                  clear e1 e2 e3 hr9 HNew HOld
                  go_wp2_with fail
                  refine (unhide HR9).mono ?_
                  rintro e1 w7 ⟨rfl, hb⟩
                  replace HRw := hide ((unhide HRw).keep hb)
                  replace HG5 := hide ((unhide HG5).keep hb)
                  clear hb
                  go_wp2_with fail
                  go_meet
                  exact ⟨false, rfl, hide ⟨fun h => (by cases h), fun h => absurd h (unhide HF)⟩, HRw, HG5⟩
                · have d3 : (rtAt rs k != r9) = true := by rw [bne_iff_ne]; exact e3
                  have HF : Hid (kd = 1 ∧ (k = 0 ∨ rtAt rs k ≠ rtAt rs (k - 1))) := hide ⟨e1, Or.inr (by rw [hr9]; exact e3)⟩
                  clear e1 e2 e3 hr9 HNew HOld
                  go_wp2_with fail
                  refine (unhide HR9).mono ?_
                  rintro e1 w7 ⟨rfl, hb⟩
                  replace HRw := hide ((unhide HRw).keep hb)
                  replace HG5 := hide ((unhide HG5).keep hb)
                  clear hb
                  go_wp2_with fail
                  go_meet
                  exact ⟨true, rfl, hide ⟨fun _ => unhide HF, fun _ => rfl⟩, HRw, HG5⟩
            · have d1 : (kd == 1) = false := by rw [beq_eq_false_iff_ne]; exact e1
              have HF : Hid (¬ (kd = 1 ∧ (k = 0 ∨ rtAt rs k ≠ rtAt rs (k - 1)))) := hide (fun h => absurd h.1 e1)
              clear e1 HNew HOld
              go_wp2_with fail
              go_meet
              exact ⟨false, rfl, hide ⟨fun h => (by cases h), fun h => absurd h (unhide HF)⟩, HRw, HG5⟩
          case rest =>
            obtain ⟨b, rfl, HF, HRw7, HG7⟩ := hcut
            clear c0 c1 c2 c3 g0 g1 gz1 HRw HG5 hTk HRk HRp
            have hTk := hide ((unhide HT).keep (unhide HG7).below)
            have c3 := (unhide hTk).c3
            go_upto_if 71 with fail
            go_cut [11] from 41 to 147 (fun t wx => t = .int .i64 lv ∧ Hid (R5 wx g q 0 0 0) ∧ Hid (GrowN 55 4 w3 wx u9 (rowsUp (loanOf kd P rs n) k)))
            case first =>
              cases b with
              | true =>
                have hN := (unhide HF).1 rfl
                have HLk := hide (rlevel_ok x (rtAt rs k) (n - k) x0 x1 ((unhide HTm).at k) (by simp [lastB]; omega))
                unfold LevelA at HLk
                rw [unhide HNew hN.1 hN.2, show ((n - k : Nat) : Int) = (n : Int) - (k : Int) from by omega] at HLk
                clear hN HF HNew HOld
                go_wp2_with fail
                refine (unhide HLk _).mono ?_
                rintro e1 w7 ⟨rfl, hb⟩
                replace HRw7 := hide ((unhide HRw7).keep hb)
                replace HG7 := hide ((unhide HG7).keep hb)
                clear hb
                go_wp2_with fail
                go_meet
                exact ⟨rfl, HRw7, HG7⟩
              | false =>
                have hN : v = lv := unhide HOld (fun h => by have := (unhide HF).2 h; cases this)
                subst hN
                go_wp2_with fail
                go_meet
                exact ⟨rfl, HRw7, HG7⟩
            case rest =>
              obtain ⟨rfl, HRw8, HG8⟩ := hcut
              clear HRw7 HG7 hTk c3 HF HNew HOld
              have hTk := hide ((unhide HT).keep (unhide HG8).below)
              have c0 := (unhide hTk).c0
              have c3 := (unhide hTk).c3
              have g0 := (unhide HRw8).c0
              have g1 := (unhide HRw8).c1
              have gz1 := (unhide HRw8).fz 1
              go_upto_block 4 with fail
              go_cut [14] from 41 to 147 (fun t wx => t = .pointer (some ⟨g, 0, none⟩) ∧ Hid (R5 wx g q B 0 0) ∧ Hid (GrowN 55 4 w3 wx u9 (rowsUp (loanOf kd P rs n) k)))
              case first =>
                by_cases hla : k + 1 = (loanOf kd P rs n).n
                · have hla2 : k + 1 = n := hla
                  have tl : ((k : Int) == (n : Int) - 1) = true := by rw [beq_iff_eq]; omega
                  have hBv : x + q = B := by rw [← unhide HBp, paid_last hla, unhide HInt, ← unhide HX]
                  have HF := hide ((unhide HRw8).set1 (x + q))
                  have HGf := hide ((unhide HG8).set hgb hsep 1 (.int .i64 (x + q)))
                  have HBv := hide hBv
                  clear hBv hla hla2
                  go_wp2_with fail
                  go_meet
                  exact ⟨rfl, hide (by rw [← unhide HBv]; exact unhide HF), HGf⟩
                · have hla2 : ¬ k + 1 = n := hla
                  have tl : ((k : Int) == (n : Int) - 1) = false := by rw [beq_eq_false_iff_ne]; omega
                  rcases hkk with hkd | hkd | hkd | hkd
                  · have hBv : min lv (x + q) = B := by rw [← unhide HBp, paid_1 hla hkd, unhide HInt, ← unhide HX, unhide HLv]
                    rw [hkd] at c0
                    by_cases hmn : lv ≤ x + q
                    · rw [Int.min_eq_left hmn] at hBv
                      have HF := hide ((unhide HRw8).set1 lv)
                      have HGf := hide ((unhide HG8).set hgb hsep 1 (.int .i64 lv))
                      have HBv := hide hBv
                      clear hBv hla hla2 hkd
                      go_wp2_with fail
                      go_meet
                      exact ⟨rfl, hide (by rw [← unhide HBv]; exact unhide HF), HGf⟩
                    · have hmn2 : x + q < lv := by omega
                      rw [Int.min_eq_right (by omega)] at hBv
                      have HF := hide ((unhide HRw8).set1 (x + q))
                      have HGf := hide ((unhide HG8).set hgb hsep 1 (.int .i64 (x + q)))
                      have HBv := hide hBv
                      clear hBv hla hla2 hkd hmn
                      go_wp2_with fail
                      go_meet
                      exact ⟨rfl, hide (by rw [← unhide HBv]; exact unhide HF), HGf⟩
                  · have hBv : q + pt1 P n k = B := by rw [← unhide HBp, paid_2 hla hkd, unhide HInt]; rfl
                    rw [hkd] at c0
                    have HPk := hide ((unhide HP).below (unhide HG8).below (Nat.le_refl _))
                    have cz := row_cell (unhide HPk) (j := k) (by rw [pts_len]; exact hlt)
                    rw [pts_at hlt] at cz
                    obtain ⟨z0, z1⟩ := pt1_bd (P := P) (n := n) (j := k) (by omega) p1 n0
                    have hpg : pb ≠ g := by
                      have := lt_of_cell (row_cell (unhide HP) (j := 0) (by rw [pts_len]; exact n0))
                      omega
                    generalize pt1 P n k = z at *
                    have HF := hide (show R5 (wc.setCell ⟨g, 1, none⟩ (.int .i64 (q + z))).drew g q (q + z) 0 0 from (unhide HRw8).set1 (q + z))
                    have HGf := hide (show GrowN 55 4 w3 (wc.setCell ⟨g, 1, none⟩ (.int .i64 (q + z))).drew u9 (rowsUp (loanOf kd P rs n) k) from ((unhide HG8).set hgb hsep 1 (.int .i64 (q + z))).drewN 1)
                    have HBv := hide hBv
                    have qz : IntKind.i64.wrap (q + z) = q + z := by rw [IntKind.wrap_i64]; omega
                    have cz2 := (World.cell?_of_block (a := ⟨pb, po + k, none⟩) (Below.heap_setCell wc ⟨g, 1, none⟩ (.int .i64 (q + z)) pb hpg)).trans cz
                    have g02 := ((unhide HRw8).set1 (q + z)).c0
                    clear hBv hla hla2 hkd HPk
                    go_upto_region 26 with fail
                    go_region_held3 (fun w' => w'.cell? ⟨g, 0, none⟩ = some (.int .i64 q) ∧ w'.cell? ⟨pb, po + k, none⟩ = some (.int .i64 z))
                      (first
                        | exact ⟨g0, cz⟩
                        | exact ⟨g02, cz2⟩)
                      (fail)
                    go_wp2_with fail
                    go_meet
                    exact ⟨rfl, hide (by rw [← unhide HBv]; exact unhide HF), HGf⟩
                  · have hBv : q = B := by rw [← unhide HBp, paid_3 hla hkd, unhide HInt]
                    rw [hkd] at c0
                    have HF := hide ((unhide HRw8).set1 q)
                    have HGf := hide ((unhide HG8).set hgb hsep 1 (.int .i64 q))
                    have HBv := hide hBv
                    clear hBv hla hla2 hkd
                    go_wp2_with fail
                    go_meet
                    exact ⟨rfl, hide (by rw [← unhide HBv]; exact unhide HF), HGf⟩
                  · have hBv : (0 : Int) = B := by rw [← unhide HBp, paid_4 hla hkd]
                    rw [hkd] at c0
                    have HBv := hide hBv
                    clear hBv hla hla2 hkd
                    go_wp2_with fail
                    go_meet
                    exact ⟨rfl, hide (by rw [← unhide HBv]; exact unhide HRw8), HG8⟩
              case rest =>
                obtain ⟨rfl, HW, HG7⟩ := hcut
                clear HRw8 HG8 g0 g1 gz1 hTk c0 c3
                have HLt : Hid (left qI (loanOf kd P rs n) (k + 1) = x - (B - q)) := hide (by rw [left_succ, prin, unhide HBp, unhide HInt, ← unhide HX])
                have HRow : Hid (rowAt (loanOf kd P rs n) k = [q, B, B - q, x - (B - q)]) := hide (by unfold rowAt; rw [unhide HLt]; unfold prin; rw [unhide HBp, unhide HInt])
                have HOv : Hid (over qI (loanOf kd P rs n) k ↔ 10000000000000 < x - (B - q) ∨ 10000000000000 < B) := hide (by unfold over; rw [unhide HLt, unhide HBp])
                obtain ⟨_, _, b0, _, b1, b2, b3⟩ := unhide HPd
                rw [unhide HBp] at b0 b1
                rw [unhide HLt] at b2 b3
                have g0 := (unhide HW).c0
                have g1 := (unhide HW).c1
                have g2 := (unhide HW).c2
                have g3 := (unhide HW).c3
                have gz2 := (unhide HW).fz 2
                have gz3 := (unhide HW).fz 3
                by_cases t2 : 10000000000000 < x - (B - q)
                · have HE2 := hide (over_end (unhide HE) hlt ((unhide HOv).2 (Or.inl t2)))
                  have HBf := hide (below_via (unhide HB) (((unhide HG7).set hgb hsep 2 (.int .i64 (B - q))).set hgb hsep 3 (.int .i64 (x - (B - q)))).below)
                  go_wp2_with fail
                  go_ret2
                  obtain ⟨rfl, rfl⟩ := unhide HE2
                  exact ⟨_, rfl, rowN_nil _ _, unhide HBf⟩
                by_cases t1 : 10000000000000 < B
                · have HE2 := hide (over_end (unhide HE) hlt ((unhide HOv).2 (Or.inr t1)))
                  have HBf := hide (below_via (unhide HB) (((unhide HG7).set hgb hsep 2 (.int .i64 (B - q))).set hgb hsep 3 (.int .i64 (x - (B - q)))).below)
                  go_wp2_with fail
                  go_ret2
                  obtain ⟨rfl, rfl⟩ := unhide HE2
                  exact ⟨_, rfl, rowN_nil _ _, unhide HBf⟩
                have HO2 : Hid (∀ j, j < k + 1 → ¬ over qI (loanOf kd P rs n) j) := hide (fun j hj => by
                  by_cases c : j = k
                  · subst c
                    intro h
                    rcases (unhide HOv).1 h with h | h
                    · exact t2 h
                    · exact t1 h
                  · exact unhide HO j (by omega))
                have HLen : Hid ((rowsUp (loanOf kd P rs n) k).length ≤ 1000000) := hide (by rw [rowsUp_len]; omega)
                have HG9 := hide (((unhide HG7).set hgb hsep 2 (.int .i64 (B - q))).set hgb hsep 3 (.int .i64 (x - (B - q))))
                have HSt : Hid (lv = (st qI (loanOf kd P rs n) (k + 1)).2) := hide (by rw [st_succ]; exact (unhide HLv).symm)
                have HXn : Hid (x - (B - q) = left qI (loanOf kd P rs n) (k + 1)) := hide (unhide HLt).symm
                go_wp2_with (at_builtin; refine pushN_law 55 32 4 32 (.agg #[.int .i64 0, .int .i64 0, .int .i64 0, .int .i64 0]) (by decide) (by decide) rfl Try.underlying32 info55 rfl _ _ rfl w3 _ _ (rowsUp (loanOf kd P rs n) k) (rowAt (loanOf kd P rs n) k) #[.int .i64 q, .int .i64 B, .int .i64 (B - q), .int .i64 (x - (B - q))] (by rw [unhide HRow]; rfl) (unhide HG9) rfl (by simp [Act.eval, Act.put]) (unhide HLen) (unhide HIn) ?_)
                intro v9 w9 hG9 _ _
                rw [rowsUp_succ] at hG9
                replace hG9 := hide hG9
                go_wp2_with fail
                go_roundw
                case rel => exact ⟨k + 1, x - (B - q), lv, by omega, by go_num, rfl, rfl, b3, by omega, lv0, lv1, HXn, HSt, hG9, HO2⟩
                case measure => simp [intOf]; omega
        · have ek : n = k := by omega
          subst ek
          have HE2 := hide (none_end (unhide HE) (unhide HO))
          have c3 := ((unhide HT).keep (unhide HG).below).c3
          have HBf := hide (below_via (unhide HB) (unhide HG).below)
          go_wp2_with fail
          go_ret2
          obtain ⟨h1, h2⟩ := unhide HE2
          subst h1 h2
          exact ⟨_, rfl, (unhide HG).row, unhide HBf⟩
end Go.Proofs.Ytgnhnffmojjncaa.Mn
/- For SchedBuilds: what both Builds and both Checks answer at any terms; the law's own from; whether rows are the same; rates that are copied. -/
namespace Go.Proofs.Ytgnhnffmojjncaa.Mn
open Go.RowKit
set_option linter.unusedSimpArgs false
theorem rbuild_any {kd P : Int} {rs : List Int} {n : Int} {l : List (List Int)} {e : Int} (h : Res kd P rs n l e) {rv : Value} {w : World} (hR : Row w rv rs) : BuildA 12 w kd P rv n l e := by
  rcases h with ⟨rfl, rfl, h⟩ | ⟨m, rfl, hT, h⟩
  · exact rbuild_no (fun W hb => chk_no (Or.inr rfl) h (hR.below hb (Nat.le_refl _)))
  · have hR' := hR
    rcases hR with ⟨x, c, rfl, h2⟩ | ⟨b, off, c, rfl, _⟩
    · have := hT.r0; rw [h2] at this; exact absurd this (by decide)
    · exact rbuild_main hT rfl hR' h
theorem chk_any (kd P n : Int) (rs : List Int) : ∃ e : Int, ∀ (f : Nat) (rv : Value) (w : World), f = 15 ∨ f = 16 → Row w rv rs → ChkA f w kd P rv n e := by
  by_cases h : ∃ m : Nat, n = m ∧ TermsOk kd P rs m
  · obtain ⟨m, rfl, hT⟩ := h
    exact ⟨0, fun f rv w hf hR => chk_yes hf hT hR⟩
  · exact ⟨2, fun f rv w hf hR => chk_no hf (fun m hm c => h ⟨m, hm, c⟩) hR⟩
theorem take_rows {l : List (List Int)} {k : Nat} (h : k < l.length) : l.take k ++ [l.getD k []] = l.take (k + 1) := by
  rw [List.take_succ_eq_append_getElem h]
  simp [List.getD, h]
theorem four_of {f : List Int} (h : f.length = 4) : f = [f.getD 0 0, f.getD 1 0, f.getD 2 0, f.getD 3 0] := by
  match f, h with
  | [a, b, c, d], _ => rfl
set_option maxHeartbeats 1000000 in
theorem from_row (b off cap : Nat) (l : List (List Int)) (w : World) (hm : l.length ≤ 1000) (hU : RowN 4 w (.slice (some ⟨b, off, none⟩) l.length cap) l) (h0 : 0 < l.length) :
    Calls Try.prog 14 #[.slice (some ⟨b, off, none⟩) l.length cap] w fun e w' => ∃ u, e = .returned u ∧ GrowN 55 4 w w' u l := by
  have HU := hide hU
  have HS := hide hU.small
  have HL : Hid (∀ k, (l.take k).length ≤ 1000000) := hide (fun k => by rw [List.length_take]; omega)
  have HT := hide (fun k => take_rows (l := l) (k := k))
  have HA : Hid (l.take l.length = l) := hide (List.take_length)
  clear hU
  generalize hl : l.length = len at *
  go_enter Try.func14, Try.ntmps14
  go_wp2_with fail
  go_loopw [3, 8] (fun o i wr => ∃ k : Nat, k ≤ len ∧ i = .int .i64 k ∧ Hid (GrowN 55 4 w wr o (l.take k))) (fun _ i _ => len - (intOf i).toNat)
  case atStart => exact ⟨0, by omega, rfl, hide (GrowN.nil _ _ _ _ (Below.refl _ _))⟩
  case round =>
    obtain ⟨k, hk, rfl, HG⟩ := hrel
    by_cases hlt : k < len
    · have hU2 := (unhide HU).keep (unhide HG).below
      have d0 := hU2.cells (j := k) (t := 0) (by rw [hl]; exact hlt) (by decide)
      have d1 := hU2.cells (j := k) (t := 1) (by rw [hl]; exact hlt) (by decide)
      have d2 := hU2.cells (j := k) (t := 2) (by rw [hl]; exact hlt) (by decide)
      have d3 := hU2.cells (j := k) (t := 3) (by rw [hl]; exact hlt) (by decide)
      rw [Nat.add_zero] at d0
      have hin : (l.getD k []).length = 4 ∧ ∀ y ∈ l.getD k [], In64 y := by
        rw [show l.getD k [] = l[k]'(by rw [hl]; exact hlt) by simp [List.getD, hl, hlt]]
        exact unhide HS _ (List.getElem_mem _)
      have HIn := hide hin
      have HF := hide (four_of hin.1)
      have ht := hide (unhide HT k hlt)
      have hl2 := hide (unhide HL k)
      unfold getN at d0 d1 d2 d3
      generalize l.getD k [] = f at *
      generalize f.getD 0 0 = A at *
      generalize f.getD 1 0 = B at *
      generalize f.getD 2 0 = C at *
      generalize f.getD 3 0 = D at *
      have k1 : (k : Int) < (len : Int) := by omega
      replace HG := hide ((unhide HG).alloc (.cells #[.int .i64 A, .int .i64 B, .int .i64 C, .int .i64 D] 43))
      generalize l.take k = zs at *
      clear hU2 hin
      go_wp2_with (at_builtin; refine pushN_law 55 32 4 32 (.agg #[.int .i64 0, .int .i64 0, .int .i64 0, .int .i64 0]) (by decide) (by decide) rfl Try.underlying32 info55 rfl _ _ rfl w _ _ zs f #[.int .i64 A, .int .i64 B, .int .i64 C, .int .i64 D] (by rw [unhide HF]; rfl) (unhide HG) rfl (by simp [Act.eval, Act.put]) (unhide hl2) (unhide HIn) ?_)
      intro v' w2 hG2 _ _
      replace hG2 := hide hG2
      go_wp2_with fail
      go_roundw
      case rel => exact ⟨k + 1, by omega, by go_num, by rw [← unhide ht]; exact hG2⟩
      case measure => simp [intOf]; omega
    · obtain rfl : k = len := by omega
      rw [unhide HA] at HG
      go_wp2_with fail
      go_ret
      exact ⟨_, rfl, unhide HG⟩
theorem from_empty (x : Option Addr) (cap : Nat) (w : World) : Calls Try.prog 14 #[.slice x 0 cap] w fun e w' => e = .returned (.slice none 0 0) ∧ w = w' := by
  go_enter Try.func14, Try.ntmps14
  go_wp2_with fail
  refine wp_loop_rounds 1 ?_
  rw [rounds_succ]
  go_wp2_with fail
  go_ret
  exact ⟨rfl, rfl⟩
theorem from_any (v : Value) (l : List (List Int)) (w : World) (h : RowN 4 w v l) (hm : l.length ≤ 1000) : Calls Try.prog 14 #[v] w fun e w' => ∃ u, e = .returned u ∧ GrowN 55 4 w w' u l := by
  have h' := h
  rcases h with ⟨a, cap, rfl, rfl, _⟩ | ⟨b, off, cap, rfl, h0, _⟩
  · refine (from_empty a cap w).mono ?_
    rintro e w' ⟨rfl, rfl⟩
    exact ⟨_, rfl, GrowN.nil _ _ _ _ (Below.refl _ _)⟩
  · exact from_row b off cap l w hm h' h0
theorem neq55 (p q r s : Int) (w : World) : (binOp .neq 55 (.agg #[.int .i64 p, .int .i64 q, .int .i64 r, .int .i64 s]) (.agg #[.int .i64 p, .int .i64 q, .int .i64 r, .int .i64 s])).run Try.prog w = .ok (.bool false) w := by
  have ht : Try.prog.underlying 55 = some (.struct (Try.prog.fieldsOf 55)) := by kernel_rfl
  have hp : Try.prog.stoodInHeld 55 = false := by kernel_rfl
  have hf := TypeDesc.struct.inj (Option.some.inj (ht.symm.trans Try.underlying55))
  have key : (Op.equalIn (9999 + 1) 55 (.agg #[.int .i64 p, .int .i64 q, .int .i64 r, .int .i64 s]) (.agg #[.int .i64 p, .int .i64 q, .int .i64 r, .int .i64 s])).run Try.prog w = .ok true w := by
    rw [run_equalIn_agg w 9999 55 _ _ ht hp, hf]
    simp [Op.eqFields, Go.part, isAgg, go_sem, Try.underlying2]
  simp only [binOp]
  simp [Op.equal, Op.maxDepth, key]
theorem same_empty (a a' : Option Addr) (c c' : Nat) (w : World) : Calls Try.prog 13 #[.slice a 0 c, .slice a' 0 c'] w fun e w' => e = .returned (.bool true) ∧ w = w' := by
  go_enter Try.func13, Try.ntmps13
  go_wp2
  refine wp_loop_rounds 1 ?_
  rw [rounds_succ]
  go_wp2
  go_ret
  exact ⟨rfl, rfl⟩
set_option maxHeartbeats 1600000 in
theorem same_row (b off c b' off' c' : Nat) (l : List (List Int)) (w : World) (hm : l.length ≤ 1000) (hx : RowN 4 w (.slice (some ⟨b, off, none⟩) l.length c) l) (hy : RowN 4 w (.slice (some ⟨b', off', none⟩) l.length c') l) :
    Calls Try.prog 13 #[.slice (some ⟨b, off, none⟩) l.length c, .slice (some ⟨b', off', none⟩) l.length c'] w fun e w' => e = .returned (.bool true) ∧ ∃ n, w' = w.drewN n := by
  have HX := hide hx
  have HY := hide hy
  clear hx hy
  generalize hlen : l.length = len at *
  have d1 : ((len : Int) != (len : Int)) = false := by simp
  go_enter Try.func13, Try.ntmps13
  go_wp2
  go_loopw [13] (fun i wr => ∃ k n : Nat, k ≤ len ∧ i = .int .i64 k ∧ wr = w.drewN n) (fun i _ => len - (intOf i).toNat)
  case atStart => exact ⟨0, 0, by omega, rfl, rfl⟩
  case round =>
    obtain ⟨k, n, hk, rfl, rfl⟩ := hrel
    by_cases hlt : k < len
    · have d0 := (unhide HX).cells (j := k) (t := 0) (by rw [hlen]; exact hlt) (by decide)
      have d1 := (unhide HX).cells (j := k) (t := 1) (by rw [hlen]; exact hlt) (by decide)
      have d2 := (unhide HX).cells (j := k) (t := 2) (by rw [hlen]; exact hlt) (by decide)
      have d3 := (unhide HX).cells (j := k) (t := 3) (by rw [hlen]; exact hlt) (by decide)
      have e0 := (unhide HY).cells (j := k) (t := 0) (by rw [hlen]; exact hlt) (by decide)
      have e1 := (unhide HY).cells (j := k) (t := 1) (by rw [hlen]; exact hlt) (by decide)
      have e2 := (unhide HY).cells (j := k) (t := 2) (by rw [hlen]; exact hlt) (by decide)
      have e3 := (unhide HY).cells (j := k) (t := 3) (by rw [hlen]; exact hlt) (by decide)
      rw [Nat.add_zero] at d0 e0
      generalize getN l k 0 = A at *
      generalize getN l k 1 = B at *
      generalize getN l k 2 = C at *
      generalize getN l k 3 = D at *
      have hb : ∀ w, (binOp .neq 55 (.agg #[.int .i64 A, .int .i64 B, .int .i64 C, .int .i64 D]) (.agg #[.int .i64 A, .int .i64 B, .int .i64 C, .int .i64 D])).run Try.prog w = .ok (.bool false) w := fun w => neq55 A B C D w
      have k1 : (k : Int) < (len : Int) := by omega
      go_wp2
      go_quiet (fail)
      go_wp2
      go_roundw
      case rel => exact ⟨k + 1, n + nq, by omega, by go_num, rfl⟩
      case measure => simp [intOf]; omega
    · have hk2 : k = len := by omega
      subst hk2
      go_wp2
      go_ret
      exact ⟨rfl, n, rfl⟩
theorem same_any (v u : Value) (l : List (List Int)) (w : World) (hm : l.length ≤ 1000) (h : RowN 4 w v l) (h' : RowN 4 w u l) : Calls Try.prog 13 #[v, u] w fun e w' => e = .returned (.bool true) ∧ ∃ n, w' = w.drewN n := by
  have k1 := h
  have k2 := h'
  rcases h with ⟨a, c, rfl, rfl, _⟩ | ⟨b, off, c, rfl, h0, _⟩
  · obtain ⟨a', c', rfl⟩ := rowN_slice h'
    exact (same_empty a a' c c' w).mono fun e w' h => ⟨h.1, 0, h.2.symm⟩
  · obtain ⟨b', off', c', rfl, _⟩ := h'.open h0
    exact same_row b off c b' off' c' l w hm k1 k2
end Go.Proofs.Ytgnhnffmojjncaa.Mn
namespace Go.Proofs.Ytgnhnffmojjncaa.Mn.schedBuilds
open Go.ChangeShapes Go.WideShapes Go.ChangeAt Go.RowKit
set_option linter.unusedSimpArgs false
/-- The value x, in the world W, is a slice whose elements are the numbers ys. -/
def From (W : World) (x : Value) (ys : List Int) : Prop :=
  (x = .slice none 0 0 ∧ ys = []) ∨ ∃ ad c, x = .slice (some ad) ys.length c ∧ ∀ j, j < ys.length → W.cell? (ad.add j) = some (.int .i64 (ys.getD j 0))
theorem wp_from {o : Oper} {a : Act} {K : Act → World → Prop} {Q : Exit → Act → World → Prop} (s x : Operand)
    (ho : o.op = .call { callee := .builtin .append, args := #[s, x], argTypes := #[22, 22] })
    (w W : World) (v u : Value) (zs ys : List Int) (hG : Grow 2 w W v zs) (hF : From W u ys) (hs : a.eval s = v) (hx : a.eval x = u)
    (hlen : zs.length + ys.length ≤ 1000000) (hy : ∀ y ∈ ys, In64 y)
    (h : ∀ v' W', Grow 2 w W' v' (zs ++ ys) → W.grownBy W' v.ownBlock → K (a.put o.dst v') W') : o.wp Try.prog a W K Q := by
  obtain ⟨i0, hi, hz0, hz1, hz2⟩ := info_parts info2
  have hsize := hG.below.size
  rcases hF with ⟨rfl, rfl⟩ | ⟨ad, c, rfl, hc⟩
  · have hrun := run_append_owned_none (P := Try.prog) W w.heap.size 22 o.type 2 i0 1 Try.underlying22 hi v zs.length _ hG.owns
    unfold Oper.wp
    simp [execOp, ho, resolve, invoke, builtin, hs, hx, hrun, Result.andThen]
    have := h v W (by simpa using hG) (World.grownBy.refl _ _)
    exact this
  · refine wp_append_own W s x 22 ho w.heap.size 2 i0 (.int .i64 0) 1 8 Try.underlying22 hi hz0 hz1 hz2 rfl (by decide) v zs.length _ hs hG.owns ad ys.length c (ys.map (Value.int .i64)) hx (by simp) ?_ (ints_oneCell _ _) (by unfold maxLen; omega) (by omega) hsize ?_
    · intro j y hj
      have hjl : j < ys.length := by
        have := (List.getElem?_eq_some_iff.1 hj).1
        simpa using this
      rw [hc j hjl]
      rw [List.getElem?_map] at hj
      simpa [List.getD, hjl] using hj
    · intro v' W' hown hgrow _
      refine h v' W' ⟨?_, ?_, ?_⟩ hgrow
      · exact hG.below.grown hgrow hsize (fun k hk => (hG.owns.lt k hk).1)
      · simpa using hown
      · intro y hy'
        rcases List.mem_append.1 hy' with h1 | h1
        · exact hG.small y h1
        · exact hy y h1
theorem step_from {ops : Array Oper} {o : Oper} {a : Act} {K : Act → World → Prop} {Q : Exit → Act → World → Prop} {E : Prop} (hgd : o.guard = none) (s x : Operand)
    (ho : o.op = .call { callee := .builtin .append, args := #[s, x], argTypes := #[22, 22] })
    (w W : World) (v u : Value) (zs ys : List Int) (hG : Grow 2 w W v zs) (hF : From W u ys) (hs : a.eval s = v) (hx : a.eval x = u)
    (hlen : zs.length + ys.length ≤ 1000000) (hy : ∀ y ∈ ys, In64 y)
    (h : ∀ v' W', Grow 2 w W' v' (zs ++ ys) → W.grownBy W' v.ownBlock → K (a.put o.dst v') W') :
    if Region.wanted o (yielded ops a.tmps) = true then Oper.wp Try.prog o a W K Q else E := by
  have hw : Region.wanted o (yielded ops a.tmps) = true := by simp [Region.wanted, hgd]
  rw [if_pos hw]
  exact wp_from s x ho w W v u zs ys hG hF hs hx hlen hy h
/-- The empty slice that is written out. -/
theorem grow_empty (w W : World) (h : Below w.heap.size w W) : Grow 2 w (W.alloc (.cells #[] 2)) (.slice (some ⟨W.heap.size, 0, none⟩) 0 0) [] :=
  ⟨h.alloc h.size _, W.ownsRow_lit #[] 0 h.size (by decide) rfl, fun z hz => (by cases hz)⟩
theorem from_of {W : World} {a : Option Addr} {len cap : Nat} {rs : List Int} (h : Row W (.slice a len cap) rs) (hn : a = none → cap = 0) : From W (.slice a len cap) rs := by
  rcases h with ⟨x, c, h1, rfl⟩ | ⟨b, off, c, h1, _, _, h2, _⟩
  · cases h1
    cases a with
    | none => exact Or.inl ⟨by rw [hn rfl], rfl⟩
    | some ad => exact Or.inr ⟨ad, cap, rfl, fun j hj => absurd hj (Nat.not_lt_zero j)⟩
  · cases h1
    exact Or.inr ⟨_, _, rfl, fun j hj => by rw [Addr.add_lit]; exact h2 j hj⟩
theorem grow_slice {w W : World} {v : Value} {zs : List Int} (h : Grow 2 w W v zs) : ∃ a l c, v = .slice a l c := by
  rcases h.owns.2 with ⟨h, _⟩ | ⟨g, c, cur, h, _⟩
  · exact ⟨none, 0, 0, h⟩
  · exact ⟨_, _, c, h⟩
theorem own_ne {g b o l c : Nat} (h : g ≠ b) : some g ≠ (Value.slice (some ⟨b, o, none⟩) l c).ownBlock := fun q => h (Option.some.inj q)
theorem keptW {w W : World} (hb : Below w.heap.size w W) {b o : Nat} {v : Value} (h : w.cell? ⟨b, o, none⟩ = some v) : W.cell? ⟨b, o, none⟩ = some v := (hb.cell (p := ⟨b, o, none⟩) (lt_of_cell h)).trans h
theorem far4 {w : World} {g b o : Nat} {v x0 x1 x2 x3 : Value} (h : w.cell? ⟨b, o, none⟩ = some v) (hb : b ≠ g) : ((((w.setCell ⟨g, 0, none⟩ x0).setCell ⟨g, 1, none⟩ x1).setCell ⟨g, 2, none⟩ x2).setCell ⟨g, 3, none⟩ x3).cell? ⟨b, o, none⟩ = some v := by
  refine (World.cell?_of_block (a := ⟨b, o, none⟩) ?_).trans h
  rw [Below.heap_setCell _ _ _ _ hb, Below.heap_setCell _ _ _ _ hb, Below.heap_setCell _ _ _ _ hb, Below.heap_setCell _ _ _ _ hb]
theorem tm_put4 {w : World} {g : Nat} {a b n : Int} {c : Value} (h : Tm w g 27 a b c n) (kd P m : Int) (v : Value) : Tm ((((w.setCell ⟨g, 0, none⟩ (.int .i64 kd)).setCell ⟨g, 1, none⟩ (.int .i64 P)).setCell ⟨g, 2, none⟩ v).setCell ⟨g, 3, none⟩ (.int .i64 m)) g 27 kd P v m := by
  have h1 : Tm (w.setCell ⟨g, 0, none⟩ (.int .i64 kd)) g 27 kd b c n := by unfold Tm; rw [Go.heap_setCell_same w g 0 _ _ _ h]; rfl
  have h2 : Tm ((w.setCell ⟨g, 0, none⟩ (.int .i64 kd)).setCell ⟨g, 1, none⟩ (.int .i64 P)) g 27 kd P c n := by unfold Tm; rw [Go.heap_setCell_same _ g 1 _ _ _ h1]; rfl
  have h3 : Tm (((w.setCell ⟨g, 0, none⟩ (.int .i64 kd)).setCell ⟨g, 1, none⟩ (.int .i64 P)).setCell ⟨g, 2, none⟩ v) g 27 kd P v n := by unfold Tm; rw [Go.heap_setCell_same _ g 2 _ _ _ h2]; rfl
  unfold Tm
  exact (Go.heap_setCell_same _ g 3 _ _ _ h3).trans rfl
theorem gb_put4 (w : World) (g : Nat) (x0 x1 x2 x3 : Value) : w.grownBy ((((w.setCell ⟨g, 0, none⟩ x0).setCell ⟨g, 1, none⟩ x1).setCell ⟨g, 2, none⟩ x2).setCell ⟨g, 3, none⟩ x3) (some g) :=
  gb_trans (gb_trans (gb_trans (gb_set _ _ _ _) (gb_set _ _ _ _)) (gb_set _ _ _ _)) (gb_set _ _ _ _)
theorem tm_fz {w : World} {b : Nat} {T : TypeId} {kd P n : Int} {rv : Value} (h : Tm w b T kd P rv n) (j : Nat) : w.frozen? ⟨b, j, none⟩ = false := frozen_of_row w b j _ _ h
/-- What the copied terms come to, where their block was made ahead of the copying. -/
theorem put_all {w W : World} {g : Nat} {kd P n : Int} {v : Value} {rs : List Int} (hG : Grow 2 w W v rs) (hm : rs.length ≤ maxLen) (hT : Tm W g 27 0 0 (.slice none 0 0) 0) (hg : w.heap.size ≤ g) :
    Tm ((((W.setCell ⟨g, 0, none⟩ (.int .i64 kd)).setCell ⟨g, 1, none⟩ (.int .i64 P)).setCell ⟨g, 2, none⟩ v).setCell ⟨g, 3, none⟩ (.int .i64 n)) g 27 kd P v n ∧ Row ((((W.setCell ⟨g, 0, none⟩ (.int .i64 kd)).setCell ⟨g, 1, none⟩ (.int .i64 P)).setCell ⟨g, 2, none⟩ v).setCell ⟨g, 3, none⟩ (.int .i64 n)) v rs ∧ Below w.heap.size w ((((W.setCell ⟨g, 0, none⟩ (.int .i64 kd)).setCell ⟨g, 1, none⟩ (.int .i64 P)).setCell ⟨g, 2, none⟩ v).setCell ⟨g, 3, none⟩ (.int .i64 n)) := by
  have hne : v.ownBlock ≠ some g := fun c => by
    rcases hG.owns.2 with ⟨rfl, _⟩ | ⟨g', cp, cur, rfl, _, h1, _⟩
    · cases c
    · have e : g' = g := Option.some.inj c
      subst e
      have h2 : some (Obj.cells cur 2 (0, 0)) = some (.cells #[.int .i64 0, .int .i64 0, .slice none 0 0, .int .i64 0] 27 (0, 0)) := h1.symm.trans hT
      cases h2
  exact ⟨tm_put4 hT kd P n v, (hG.row hm).far (gb_put4 W g _ _ _ _) hne, hG.below.grown (gb_put4 W g _ _ _ _) hG.below.size (fun k hk => by cases hk; exact hg)⟩
/-- Both terms, and their rates, are there; nothing else has turned. -/
structure ST (w w' : World) (g0 g : Nat) (kd P : Int) (rv v : Value) (n : Int) (rs : List Int) : Prop where
  t24 : Tm w' g0 24 kd P rv n
  t27 : Tm w' g 27 kd P v n
  r24 : Row w' rv rs
  r27 : Row w' v rs
  bel : Below w.heap.size w w'
section
variable {w w' w2 : World} {g0 g : Nat} {kd P n : Int} {rv v : Value} {rs : List Int}
theorem ST.s (h : ST w w' g0 g kd P rv v n rs) : w'.cell? ⟨g0, 0, none⟩ = some (.int .i64 kd) ∧ w'.cell? ⟨g0, 1, none⟩ = some (.int .i64 P) ∧ w'.cell? ⟨g0, 2, none⟩ = some rv ∧ w'.cell? ⟨g0, 3, none⟩ = some (.int .i64 n) ∧ w'.cell? ⟨g, 0, none⟩ = some (.int .i64 kd) ∧ w'.cell? ⟨g, 1, none⟩ = some (.int .i64 P) ∧ w'.cell? ⟨g, 2, none⟩ = some v ∧ w'.cell? ⟨g, 3, none⟩ = some (.int .i64 n) ∧ Hid (ST w w' g0 g kd P rv v n rs) :=
  ⟨h.t24.c0, h.t24.c1, h.t24.c2, h.t24.c3, h.t27.c0, h.t27.c1, h.t27.c2, h.t27.c3, hide h⟩
theorem ST.keep (h : ST w w' g0 g kd P rv v n rs) (hb : Below w'.heap.size w' w2) : ST w w2 g0 g kd P rv v n rs := ⟨h.t24.keep hb, h.t27.keep hb, h.r24.below hb (Nat.le_refl _), h.r27.below hb (Nat.le_refl _), below_via h.bel hb⟩
theorem ST.drewN (h : ST w w' g0 g kd P rv v n rs) (m : Nat) : ST w (w'.drewN m) g0 g kd P rv v n rs := ⟨h.t24.drewN m, h.t27.drewN m, h.r24.drewN m, h.r27.drewN m, below_drewN h.bel m⟩
theorem ST.drew (h : ST w w' g0 g kd P rv v n rs) : ST w w'.drew g0 g kd P rv v n rs := h.drewN 1
end
theorem w_great (kd P : Int) (a : Option Addr) (len cap : Nat) (n : Int) (hal : Hid Alive) (HG : Hid (∀ w : World, Calls Try.prog 10 #[.agg #[.int .i64 kd, .int .i64 P, .slice a len cap, .int .i64 n]] w fun e w' => e = .returned (.bool true) ∧ Below w.heap.size w w')) (w : World) : Calls Try.prog 3 #[.agg #[.int .i64 kd, .int .i64 P, .slice a len cap, .int .i64 n]] w fun e w' => e = .returned (.bool true) ∧ Below w.heap.size w w' := by
  unfold Alive at hal
  have HT := hide (Tm.new w 24 kd P (.slice a len cap) n)
  have HB := hide (below1 w (.cells #[.int .i64 kd, .int .i64 P, .slice a len cap, .int .i64 n] 24))
  go_enter Try.func3, Try.ntmps3
  go_wp2_with fail
  refine (unhide hal _).mono ?_
  rintro e1 w1 ⟨rfl, hb⟩
  replace HT := hide ((unhide HT).keep hb)
  replace HB := hide (below_via (unhide HB) hb)
  clear hb
  have c0 := (unhide HT).c0
  have c1 := (unhide HT).c1
  have c2 := (unhide HT).c2
  have c3 := (unhide HT).c3
  go_wp2_with fail
  refine (unhide HG w1).mono ?_
  rintro e1 w2 ⟨rfl, hb⟩
  replace HT := hide ((unhide HT).keep hb)
  replace HB := hide (below_via (unhide HB) hb)
  clear hb HG c0 c1 c2 c3
  go_wp2_with fail
  go_ret
  exact ⟨rfl, unhide HB⟩
set_option maxRecDepth 20000 in
set_option maxHeartbeats 8000000 in
theorem w_main (kd P : Int) (a : Option Addr) (len cap : Nat) (n : Int) (rs : List Int) (l : List (List Int)) (E ec : Int) (hl : rs.length = len) (h60 : len ≤ 60) (hn : a = none → cap = 0) (h61 : l.length ≤ 1000) (hin : ∀ y ∈ rs, In64 y) (hal : Hid Alive) (HG : Hid (∀ w : World, Calls Try.prog 10 #[.agg #[.int .i64 kd, .int .i64 P, .slice a len cap, .int .i64 n]] w fun e w' => e = .returned (.bool false) ∧ Below w.heap.size w w')) (w : World) (HR : Hid (Row w (.slice a len cap) rs)) (HB1 : Hid (∀ (W : World) (rv : Value), Row W rv rs → BuildA 11 W kd P rv n l E)) (HB2 : Hid (∀ (W : World) (rv : Value), Row W rv rs → BuildA 12 W kd P rv n l E)) (HCk : Hid (∀ (f : Nat) (rv : Value) (w : World), f = 15 ∨ f = 16 → Row w rv rs → ChkA f w kd P rv n ec)) : Calls Try.prog 3 #[.agg #[.int .i64 kd, .int .i64 P, .slice a len cap, .int .i64 n]] w fun e w' => e = .returned (.bool true) ∧ Below w.heap.size w w' := by
  have HL := hide hl
  have HN := hide hn
  have HIn := hide hin
  clear hl hn hin
  unfold BuildA at HB1 HB2
  unfold ChkA at HCk
  unfold Alive at hal
  have HT := hide (Tm.new w 24 kd P (.slice a len cap) n)
  have HB := hide (below1 w (.cells #[.int .i64 kd, .int .i64 P, .slice a len cap, .int .i64 n] 24))
  go_enter Try.func3, Try.ntmps3
  go_wp2_with fail
  refine (unhide hal _).mono ?_
  rintro e1 w1 ⟨rfl, hb⟩
  replace HT := hide ((unhide HT).keep hb)
  replace HB := hide (below_via (unhide HB) hb)
  clear hb
  have c0 := (unhide HT).c0
  have c1 := (unhide HT).c1
  have c2 := (unhide HT).c2
  have c3 := (unhide HT).c3
  go_wp2_with fail
  refine (unhide HG w1).mono ?_
  rintro e1 w2 ⟨rfl, hb⟩
  replace HT := hide ((unhide HT).keep hb)
  replace HB := hide (below_via (unhide HB) hb)
  clear hb HG c0 c1 c2 c3
  have c0 := (unhide HT).c0
  have c1 := (unhide HT).c1
  have c2 := (unhide HT).c2
  have c3 := (unhide HT).c3
  replace HR := hide ((unhide HR).below (unhide HB) (Nat.le_refl _))
  have hgl := (unhide HT).lt
  have HFa := hide (fun (W : World) (hb : Below w2.heap.size w2 W) => from_of ((unhide HR).below hb (Nat.le_refl _)) (unhide HN))
  go_upto_region 5 with fail
  go_cut [3] from 12 to 48 (fun t wx => ∃ g v, t = .pointer (some ⟨g, 0, none⟩) ∧ Hid (Tm wx g 27 kd P v n) ∧ Hid (Row wx v rs) ∧ Hid (Below w2.heap.size w2 wx))
  case first =>
    have HLn : Hid (([] : List Int).length + rs.length ≤ 1000000) := hide (by rw [unhide HL]; simp; omega)
    have G1 : Hid (Grow 2 w2 (w2.alloc (.cells #[] 2)).drew (.slice (some ⟨w2.heap.size, 0, none⟩) 0 0) []) := hide (by have h := grow_empty w2 w2 (Below.refl _ _); exact ⟨h.below.drew, h.owns, h.small⟩)
    have G2 : Hid (Grow 2 w2 ((w2.alloc (.cells #[] 2)).alloc (.cells #[.int .i64 0, .int .i64 0, .slice none 0 0, .int .i64 0] 27)).drew (.slice (some ⟨w2.heap.size, 0, none⟩) 0 0) []) := hide (by have h := (grow_empty w2 w2 (Below.refl _ _)).keep (below1 _ (.cells #[.int .i64 0, .int .i64 0, .slice none 0 0, .int .i64 0] 27)); exact ⟨h.below.drew, h.owns, h.small⟩)
    have G3 : Hid (Grow 2 w2 ((w2.alloc (.cells #[.int .i64 0, .int .i64 0, .slice none 0 0, .int .i64 0] 27)).alloc (.cells #[] 2)).drew (.slice (some ⟨w2.heap.size + 1, 0, none⟩) 0 0) []) := hide (by
      have h := grow_empty w2 (w2.alloc (.cells #[.int .i64 0, .int .i64 0, .slice none 0 0, .int .i64 0] 27)) (below1 _ _)
      rw [show (w2.alloc (.cells #[.int .i64 0, .int .i64 0, .slice none 0 0, .int .i64 0] 27)).heap.size = w2.heap.size + 1 from by simp] at h
      exact ⟨h.below.drew, h.owns, h.small⟩)
    have Z2 : Hid (Tm ((w2.alloc (.cells #[] 2)).alloc (.cells #[.int .i64 0, .int .i64 0, .slice none 0 0, .int .i64 0] 27)).drew (w2.heap.size + 1) 27 0 0 (.slice none 0 0) 0) := hide (by
      have h := Tm.new (w2.alloc (.cells #[] 2)) 27 0 0 (.slice none 0 0) 0
      rw [show (w2.alloc (.cells #[] 2)).heap.size = w2.heap.size + 1 from by simp] at h
      exact h)
    have Z3 : Hid (Tm ((w2.alloc (.cells #[.int .i64 0, .int .i64 0, .slice none 0 0, .int .i64 0] 27)).alloc (.cells #[] 2)).drew w2.heap.size 27 0 0 (.slice none 0 0) 0) := hide ((Tm.new w2 27 0 0 (.slice none 0 0) 0).alloc _)
    have hne1 : w.heap.size ≠ w2.heap.size := by omega
    have hne2 : w.heap.size ≠ w2.heap.size + 1 := by omega
    go_region_held3 (fun w' => w'.cell? ⟨w.heap.size, 0, none⟩ = some (.int .i64 kd) ∧ w'.cell? ⟨w.heap.size, 1, none⟩ = some (.int .i64 P) ∧ w'.cell? ⟨w.heap.size, 2, none⟩ = some (.slice a len cap) ∧ w'.cell? ⟨w.heap.size, 3, none⟩ = some (.int .i64 n))
      (first
        | with_reducible exact ⟨far4 (keptW hG.below c0) hne1, far4 (keptW hG.below c1) hne1, far4 (keptW hG.below c2) hne1, far4 (keptW hG.below c3) hne1⟩
        | with_reducible exact ⟨far4 (keptW hG.below c0) hne2, far4 (keptW hG.below c1) hne2, far4 (keptW hG.below c2) hne2, far4 (keptW hG.below c3) hne2⟩
        | with_reducible exact ⟨keptW hG.below c0, keptW hG.below c1, keptW hG.below c2, keptW hG.below c3⟩
        | with_reducible exact ⟨cell_old (keptW hG.below c0) _, cell_old (keptW hG.below c1) _, cell_old (keptW hG.below c2) _, cell_old (keptW hG.below c3) _⟩
        | exact ⟨c0, c1, c2, c3⟩
        | exact ⟨cell_old c0 _, cell_old c1 _, cell_old c2 _, cell_old c3 _⟩
        | exact ⟨cell_old (cell_old c0 _) _, cell_old (cell_old c1 _) _, cell_old (cell_old c2 _) _, cell_old (cell_old c3 _) _⟩)
      (first
        | (refine step_from (by rfl) (.tmp 16) (.tmp 18) (by rfl) w2 _ _ _ [] rs (unhide G1) (unhide HFa _ (unhide G1).below) (by rfl) (by rfl) (unhide HLn) (unhide HIn) ?_; intro v' W' hG hgw; obtain ⟨va, vl, vcc, rfl⟩ := grow_slice hG)
        | (refine step_from (by rfl) (.tmp 16) (.tmp 18) (by rfl) w2 _ _ _ [] rs (unhide G2) (unhide HFa _ (unhide G2).below) (by rfl) (by rfl) (unhide HLn) (unhide HIn) ?_; intro v' W' hG hgw; obtain ⟨va, vl, vcc, rfl⟩ := grow_slice hG; have HZ := hide (show Tm W' (w2.heap.size + 1) 27 0 0 (.slice none 0 0) 0 from (hgw.block _ (unhide Z2).lt (own_ne (by omega))).trans (unhide Z2)); have z0 := (unhide HZ).c0; have z1 := (unhide HZ).c1; have z2 := (unhide HZ).c2; have z3 := (unhide HZ).c3; have y0 := tm_fz (unhide HZ) 0; have y1 := tm_fz (unhide HZ) 1; have y2 := tm_fz (unhide HZ) 2; have y3 := tm_fz (unhide HZ) 3)
        | (refine step_from (by rfl) (.tmp 16) (.tmp 18) (by rfl) w2 _ _ _ [] rs (unhide G3) (unhide HFa _ (unhide G3).below) (by rfl) (by rfl) (unhide HLn) (unhide HIn) ?_; intro v' W' hG hgw; obtain ⟨va, vl, vcc, rfl⟩ := grow_slice hG; have HZ := hide (show Tm W' w2.heap.size 27 0 0 (.slice none 0 0) 0 from (hgw.block _ (unhide Z3).lt (own_ne (by omega))).trans (unhide Z3)); have z0 := (unhide HZ).c0; have z1 := (unhide HZ).c1; have z2 := (unhide HZ).c2; have z3 := (unhide HZ).c3; have y0 := tm_fz (unhide HZ) 0; have y1 := tm_fz (unhide HZ) 1; have y2 := tm_fz (unhide HZ) 2; have y3 := tm_fz (unhide HZ) 3))
    · go_wp2_with fail
      go_meet
      have hG' : Grow 2 w2 W' _ rs := hG
      exact ⟨_, _, rfl, hide (Tm.new W' 27 kd P _ n), hide ((hG'.row (by rw [unhide HL]; unfold maxLen; omega)).alloc _), hide (hG'.below.alloc hG'.below.size _)⟩
    · go_wp2_with fail
      go_meet
      have hp := put_all (kd := kd) (P := P) (n := n) (show Grow 2 w2 W' _ rs from hG) (by rw [unhide HL]; unfold maxLen; omega) (unhide HZ) (by omega)
      exact ⟨_, _, rfl, hide hp.1, hide hp.2.1, hide hp.2.2⟩
    · go_wp2_with fail
      go_meet
      have hp := put_all (kd := kd) (P := P) (n := n) (show Grow 2 w2 W' _ rs from hG) (by rw [unhide HL]; unfold maxLen; omega) (unhide HZ) (by omega)
      exact ⟨_, _, rfl, hide hp.1, hide hp.2.1, hide hp.2.2⟩
  case rest =>
    obtain ⟨g, v, rfl, H27, HRv, hbc⟩ := hcut
    replace HT := hide ((unhide HT).keep (unhide hbc))
    replace HR := hide ((unhide HR).below (unhide hbc) (Nat.le_refl _))
    replace HB := hide (below_via (unhide HB) (unhide hbc))
    clear hbc c0 c1 c2 c3 hgl HFa
    obtain ⟨va, vcc, rfl⟩ := row_slice (unhide HRv)
    have e0 := (unhide H27).c0
    have e1 := (unhide H27).c1
    have e2 := (unhide H27).c2
    have e3 := (unhide H27).c3
    go_wp2_with fail
    refine (unhide HB1 _ _ (unhide HRv)).mono ?_
    rintro e1' w5 ⟨u1, rfl, hu1, hb⟩
    replace HT := hide ((unhide HT).keep hb)
    replace HR := hide ((unhide HR).below hb (Nat.le_refl _))
    replace HRv := hide ((unhide HRv).below hb (Nat.le_refl _))
    replace H27 := hide ((unhide H27).keep hb)
    replace HB := hide (below_via (unhide HB) hb)
    have HU1 := hide hu1
    clear hu1 hb e0 e1 e2 e3 HB1
    have c0 := (unhide HT).c0
    have c1 := (unhide HT).c1
    have c2 := (unhide HT).c2
    have c3 := (unhide HT).c3
    go_wp2_with fail
    refine (unhide HB2 _ _ (unhide HR)).mono ?_
    rintro e1' w6 ⟨u2, rfl, hu2, hb⟩
    replace HT := hide ((unhide HT).keep hb)
    replace HR := hide ((unhide HR).below hb (Nat.le_refl _))
    replace HRv := hide ((unhide HRv).below hb (Nat.le_refl _))
    replace H27 := hide ((unhide H27).keep hb)
    replace HU1 := hide ((unhide HU1).keep hb)
    replace HB := hide (below_via (unhide HB) hb)
    have HU2 := hide hu2
    clear hu2 hb c0 c1 c2 c3 HB2
    have s2 : (E == E) = true := by simp
    have s3 : (ec == ec) = true := by simp
    have HST : Hid (ST w w6 w.heap.size g kd P (.slice a len cap) (.slice va rs.length vcc) n rs) := hide ⟨unhide HT, unhide H27, unhide HR, unhide HRv, unhide HB⟩
    have HSd := hide (unhide HST).drew
    have HU1d : Hid (RowN 4 w6.drew u1 l) := hide ((unhide HU1).later (fun _ _ h => h))
    have HU2d : Hid (RowN 4 w6.drew u2 l) := hide ((unhide HU2).later (fun _ _ h => h))
    have H61 := hide h61
    clear HT HR HRv H27 HB HU1 HU2 h61
    go_wp2_with fail
    go_region_held3 (fun w' => w'.cell? ⟨w.heap.size, 0, none⟩ = some (.int .i64 kd) ∧ w'.cell? ⟨w.heap.size, 1, none⟩ = some (.int .i64 P) ∧ w'.cell? ⟨w.heap.size, 2, none⟩ = some (.slice a len cap) ∧ w'.cell? ⟨w.heap.size, 3, none⟩ = some (.int .i64 n) ∧ w'.cell? ⟨g, 0, none⟩ = some (.int .i64 kd) ∧ w'.cell? ⟨g, 1, none⟩ = some (.int .i64 P) ∧ w'.cell? ⟨g, 2, none⟩ = some (.slice va rs.length vcc) ∧ w'.cell? ⟨g, 3, none⟩ = some (.int .i64 n) ∧ Hid (ST w w' w.heap.size g kd P (.slice a len cap) (.slice va rs.length vcc) n rs))
      (first
        | with_reducible exact (unhide HSa).s
        | with_reducible exact (unhide HSb).s
        | with_reducible exact (unhide HSc).s
        | with_reducible exact (unhide HSe).s
        | exact (unhide HSd).s
        | exact (unhide HST).s)
      (first
        | (go_at_call 14; refine (from_any u1 l _ (unhide HU1d) (unhide H61)).mono ?_; rintro z wa ⟨u3, rfl, hga⟩; have HSa := hide ((unhide HSd).keep hga.below); have HUa := hide hga.row; have HUb := hide ((unhide HU2d).keep hga.below))
        | (go_at_call 13; refine (same_any u3 u2 l _ (unhide H61) (unhide HUa) (unhide HUb)).mono ?_; rintro z wb ⟨rfl, mb, rfl⟩; have HSb := hide ((unhide HSa).drewN mb))
        | (go_at_call 15; refine (unhide HCk 15 _ _ (Or.inl rfl) (unhide HSb).r27).mono ?_; rintro z wcc ⟨rfl, hbc⟩; have HSc := hide ((unhide HSb).keep hbc))
        | (go_at_call 16; refine (unhide HCk 16 _ _ (Or.inr rfl) (unhide HSc).r24).mono ?_; rintro z we ⟨rfl, hbe⟩; have HSe := hide ((unhide HSc).keep hbe)))
    rename_i hH
    clear hH
    go_wp2_with fail
    go_ret
    exact ⟨rfl, (unhide HSe).bel⟩
theorem walk (kd P : Int) (a : Option Addr) (len cap : Nat) (n : Int) (rs : List Int) (w : World) (hR : Row w (.slice a len cap) rs) (hn : a = none → cap = 0) : Calls Try.prog 3 #[.agg #[.int .i64 kd, .int .i64 P, .slice a len cap, .int .i64 n]] w fun e w' => e = .returned (.bool true) ∧ Below w.heap.size w w' := by
  have hl : rs.length = len := by
    obtain ⟨x, c, h⟩ := row_slice hR
    cases h; rfl
  have hin : ∀ y ∈ rs, In64 y := by
    rcases hR with ⟨x, c, _, h⟩ | ⟨b, off, c, _, _, _, _, h⟩
    · rw [h]; intro y hy; cases hy
    · exact h
  have hg := great_any kd P n a len cap
  cases hq : grB len n with
  | true =>
    rw [hq] at hg
    exact w_great kd P a len cap n (hide alive_any) (hide hg) w
  | false =>
    rw [hq] at hg
    have h6 := grB_no hq
    obtain ⟨l, e, hr⟩ := res_ex kd P rs n
    obtain ⟨ec, hc⟩ := chk_any kd P n rs
    have h61 : l.length ≤ 1000 := by
      by_cases he : e = 0
      · obtain ⟨m, _, hT, rfl, _⟩ := hr.fine he
        rw [rowsUp_len]
        have := hT.n1
        omega
      · rw [hr.none he]; decide
    exact w_main kd P a len cap n rs l e ec hl h6.1 hn h61 hin (hide alive_any) (hide hg) w (hide hR) (hide (fun W rv h => build_any hr h)) (hide (fun W rv h => rbuild_any hr h)) (hide hc)
theorem own : ownKnob Try.prog.godebug = none := by kernel_rfl
theorem laidOut : laidOutB Try.prog = true := by kernel_rfl
set_option linter.unusedVariables false in
set_option maxRecDepth 100000 in
theorem lifted (os : Os) (started : os.Started) (H : Type) (enc : TypeId × Value → H) :
    ReturnsInHanded {} Try.checked os 3 .any (Rows.schedBuildsSpec.pre6 enc Try.prog Try.f3 Rows.schedBuildsRow.domain false) (Rows.schedBuildsSpec.post enc Try.prog Try.f3 false true false false) := by
  refine returnsInHanded_of_change (C := Try.checked) own started (by kernel_rfl) Try.func3
    (ChangeSpec.witness6 (enc := enc) (C := Try.checked) false ⟨#[], #[.agg #[.int .i64 0, .int .i64 0, .slice none 0 0, .int .i64 0]], []⟩ 8 (by kernel_rfl) (by kernel_rfl) (by kernel_rfl) (by kernel_rfl)) ?_
  intro W base args ds gs before hval0 hW hcnd _
  have hval : ∀ (j : Nat) t v, Try.f3.params[j]? = some t → args[j]? = some v → Value.okWide Try.prog W .any base t v := hval0
  have hW' := hW
  obtain ⟨p, q, hA0, hV, rfl, hfz, hnd⟩ := hW
  have hA : DataW.TrodAll enc Try.prog W 0 (fun _ => true) true Try.f3.params.toList args.toList ds p := hA0
  rw [Try.params3] at hA hval
  obtain ⟨v0, vs0, d0, ds0, p0, q0, hargs, rfl, rfl, h0, r0⟩ := trodAll_cons hA
  obtain ⟨rfl, rfl, rfl⟩ := trodAll_nil r0
  obtain rfl : args = #[v0] := by cases args; simp_all
  obtain ⟨rfl, rfl⟩ := trodVars_none hV
  have k0 := h0
  have lt0 : ∀ x ∈ p0, x.block < W.heap.size := by obtain ⟨m, hm⟩ := k0; exact DataW.trod_lt m _ _ _ hm
  obtain ⟨kd0, pp0, a0, len0, cap0, n0, z0, rfl, _, _, _, w0, _, nn0⟩ := open_terms (E := 2) Try.underlying24 (by kernel_rfl) rfl rfl rfl rfl (by kernel_rfl) (by kernel_rfl) (by kernel_rfl) (by kernel_rfl) Try.underlying3 Try.underlying2 Try.underlying22 Try.underlying3 Try.underlying2 (by kernel_rfl) (hval 0 24 v0 rfl rfl) h0
  clear hA0 hval0
  refine (walk kd0 pp0 a0 len0 cap0 n0 z0 W w0 nn0).mono fun e W' ⟨he, bel⟩ => ?_
  subst he
  exact ⟨_, rfl, _, _, _, [], _, [], hW', trodAll_mk1 (shut_bool Try.underlying4 _), (trodAll_cons_mk (Below.trod laidOut (by kernel_rfl) (of_decide_eq_true (by kernel_rfl)) k0 bel lt0) trodAll_mk0), rfl, bel.frame _, fun h => by cases h⟩
theorem over : Rows.schedBuildsRow.holds Try.pinned (OpenSpec.ofChange Rows.schedBuildsSpec) :=
  OpenClaim.holds_of_wide 3 Try.f3 rfl rfl rfl rfl rfl rfl rfl ⟨rfl, rfl, rfl, rfl, rfl⟩ rfl rfl rfl rfl rfl (by kernel_rfl) Try.func3 (by kernel_rfl)
    (of_decide_eq_true (by kernel_rfl)) (by unfold Func.isWrapper; first | (rw [if_pos (by decide +kernel)]; kernel_rfl) | (rw [if_neg (by decide +kernel)]; exact ⟨rfl, rfl⟩))
    (fun os started H enc _ => lifted os started H enc)
/-- The statement. -/
theorem proved : Rows.SchedBuildsSaid := over
#print axioms proved
end Go.Proofs.Ytgnhnffmojjncaa.Mn.schedBuilds
namespace Go.Proofs.Ytgnhnffmojjncaa
theorem schedBuilds_holds : Rows.SchedBuildsSaid := Mn.schedBuilds.proved
end Go.Proofs.Ytgnhnffmojjncaa
