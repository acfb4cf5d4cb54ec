/- TableSolved, lone. -/
import Derived.Test.YtpeoabopeihadaaWTSp
set_option linter.unusedVariables false
set_option linter.unusedSimpArgs false
set_option linter.unusedSectionVars false
namespace Go.Proofs.Ytpeoabopeihadaa.Mn
open Go.RowKit
attribute [local simp] Tri.typeInfo Tri.sizeOf Tri.underlying Tri.runUnderlying Tri.isAgg Tri.zeroValue Tri.depth Tri.stoodInHeld Tri.eqGuardType Tri.call15 Tri.call22 Tri.call23 Tri.call24 Tri.call25 Tri.call46 Tri.call49 Tri.call52 Tri.call54 Tri.call58 Tri.call59 Tri.call60 Tri.call61 Tri.call62 Tri.call63 Tri.call64 Tri.call65 Tri.call66 Tri.call67 Tri.call95 Tri.call106 Tri.call115 Tri.call116 Tri.call117 Tri.call118 Tri.call119 Tri.call120 Tri.call121 Tri.call122 Tri.call142 Tri.call143 Tri.call144 Tri.call145 Tri.call146 Tri.call147 Tri.call156 Tri.call157 Tri.call159 Tri.call160 Tri.call161 Tri.call162 Tri.call163 Tri.call164 Tri.call165 Tri.call175 Tri.call176 Tri.call186 Tri.call188 Tri.call205
theorem all_any {w : World} {v : Value} {l : List Int} (r : Int) (hR : Row w v l) : Calls (Tri Try.prog) 24 #[v, .int .i64 r] w (WorPost w 1 l r) := by
  have H := hide (wor_any (r := r) (Or.inl rfl : (1 : Int) = 1 ∨ (1 : Int) = 1000) hR)
  unfold WorA at H
  have HS : Hid (∀ e w', WorPost w 1 l r e w' → ∃ (v : Value) (E : Int), e = .returned (.tuple #[v, .int .i64 E])) := hide (fun e w' h => by
    obtain ⟨u, he, _⟩ := h
    exact ⟨u, _, he⟩)
  show Calls _ _ _ _ (fun e w' => WorPost w 1 l r e w')
  go_enter (Tri.at (by decide) Try.func24), Try.ntmps24
  go_wp2_with fail
  refine (unhide H).mono ?_
  intro e w1 hq
  obtain ⟨u, E, rfl⟩ := unhide HS _ _ hq
  replace hq := hide hq
  clear H HS
  go_wp2_with fail
  go_ret2
  exact unhide hq
structure TsI (w wr : World) (b3 o3 c3 b4 o4 c4 K : Nat) (rows : List (List Int)) (ws : List Int) : Prop where
  rows : RowN 4 wr (.slice (some ⟨b3, o3, none⟩) (K + 1) c3) rows
  wor : Row wr (.slice (some ⟨b4, o4, none⟩) (K + 2) c4) ws
  bel : Below w.heap.size w wr
theorem TsI.alloc {w wr : World} {b3 o3 c3 b4 o4 c4 K : Nat} {rows : List (List Int)} {ws : List Int} (h : TsI w wr b3 o3 c3 b4 o4 c4 K rows ws) (o : Obj) : TsI w (wr.alloc o) b3 o3 c3 b4 o4 c4 K rows ws := ⟨h.rows.keep (below1 _ _), h.wor.alloc _, below_via h.bel (below1 _ _)⟩
theorem TsI.drew {w wr : World} {b3 o3 c3 b4 o4 c4 K : Nat} {rows : List (List Int)} {ws : List Int} (h : TsI w wr b3 o3 c3 b4 o4 c4 K rows ws) : TsI w wr.drew b3 o3 c3 b4 o4 c4 K rows ws := ⟨h.rows.keep (below_drew (Below.refl _ _)), h.wor.drew, below_drew h.bel⟩
def SolvedL (w : World) (out : Int) (v : Value) : Prop := Calls (Tri Try.prog) 5 #[.int .i64 out, v] w fun z w' => z = .returned (.bool true) ∧ Below w.heap.size w w'
theorem ts_long (out : Int) (a : Option Addr) (n c : Nat) (w : World) (t0 : decide ((20 : Int) < (n : Int)) = true) : SolvedL w out (.slice a n c) := by
  unfold SolvedL
  have HA := hide talive_any
  unfold Alive at HA
  go_enter (Tri.at (by decide) Try.func5), Try.ntmps5
  go_wp2_with fail
  refine (unhide HA _).mono ?_
  rintro z w1 ⟨rfl, hb⟩
  have HB := hide hb
  clear HA
  clear hb
  go_wp2_with fail
  go_ret
  exact ⟨rfl, unhide HB⟩
set_option maxHeartbeats 8000000 in
set_option maxRecDepth 20000 in
theorem ts_go (out : Int) (b off cap : Nat) (l : List Int) (w : World) (ho : In64 out) (hR : Row w (.slice (some ⟨b, off, none⟩) l.length cap) l) (t0 : decide ((20 : Int) < (l.length : Int)) = false) (hl : l.length ≤ 20) (hc : ∀ j, j < l.length → w.cell? ⟨b, off + j, none⟩ = some (.int .i64 (l.getD j 0))) : SolvedL w out (.slice (some ⟨b, off, none⟩) l.length cap) := by
  unfold SolvedL
  have HA := hide talive_any
  unfold Alive at HA
  go_enter (Tri.at (by decide) Try.func5), Try.ntmps5
  go_wp2_with fail
  refine (unhide HA _).mono ?_
  rintro z w1 ⟨rfl, hb⟩
  have HB := hide hb
  clear HA
  have HC : Hid (∀ j, j < l.length → w1.cell? ⟨b, off + j, none⟩ = some (.int .i64 (l.getD j 0))) := hide (fun j hj => (hb.cell (p := ⟨b, off + j, none⟩) (lt_of_cell (hc j hj))).trans (hc j hj))
  have HR := hide (hR.below hb (Nat.le_refl _))
  have HO := hide ho
  clear hb hc hR ho
  have HX : Hid (∀ j, j < l.length → l.getD j 0 ∈ l) := hide (fun j hj => by rw [show l.getD j 0 = l[j] by simp [List.getD, hj]]; exact List.getElem_mem hj)
  have HY : Hid ((∀ j, j < l.length → l.getD j 0 ≤ 1000000) → ∀ x ∈ l, x ≤ 1000000) := hide (fun h x hx => by
    obtain ⟨j, hj, rfl⟩ := List.getElem_of_mem hx
    have := h j hj
    rwa [show l.getD j 0 = l[j] by simp [List.getD, hj]] at this)
  have HL : Hid (∃ n, l.length = n) := hide ⟨_, rfl⟩
  obtain ⟨len, hlen⟩ := unhide HL
  have HLe := hide hlen
  rw [hlen] at t0 hl HC HX HY HR ⊢
  clear hlen HL
  go_wp2_with fail
  go_loop [26] (fun i => ∃ k : Nat, k ≤ len ∧ i = .int .i64 k ∧ Hid (∀ j, j < k → l.getD j 0 ≤ 1000000)) (fun i => len - (intOf i).toNat)
  case atStart => exact ⟨0, Nat.zero_le _, rfl, hide (fun j hj => absurd hj (Nat.not_lt_zero j))⟩
  case round =>
    obtain ⟨k, hk, rfl, HM⟩ := hrel
    by_cases hlt : k < len
    · have ck := unhide HC k hlt
      have HS : Hid (l.getD k 0 ≤ 1000000 → ∀ j, j < k + 1 → l.getD j 0 ≤ 1000000) := hide (fun h j hj => by
        by_cases e : j = k
        · rw [e]; exact h
        · exact unhide HM j (by omega))
      generalize l.getD k 0 = z at *
      by_cases hz : z ≤ 1000000
      · replace HS := hide (unhide HS hz)
        have e1 : decide (1000000 < z) = false := decide_eq_false (by omega)
        clear hz
        go_wp2_with fail
        go_round
        case rel => exact ⟨k + 1, by omega, by go_num, HS⟩
        case measure => simp [intOf]; omega
      · have e1 : decide (1000000 < z) = true := decide_eq_true (by omega)
        clear hz HS
        go_wp2_with fail
        go_ret
        exact ⟨rfl, unhide HB⟩
    · have hk2 : k = len := by omega
      subst hk2
      have HAll := hide (unhide HY (unhide HM))
      clear HM HY HX HC hlt hk
      have HSo := hide (s9_any (unhide HO) (unhide HR))
      unfold SolA9 at HSo
      go_wp2_with fail
      refine (unhide HSo).mono ?_
      rintro z w2 ⟨r, e, hE, rfl, hb⟩
      have HE := hide hE
      replace HB := hide (below_via (unhide HB) hb)
      replace HR := hide ((unhide HR).below hb (Nat.le_refl _))
      clear hb HSo hE
      by_cases he : e = 0
      case neg =>
        have d1 : (e != 0) = true := by simpa using he
        clear he
        go_wp2_with fail
        go_ret
        exact ⟨rfl, unhide HB⟩
      subst he
      by_cases hr0 : r < 0
      · have d2 : decide (r < 0) = true := decide_eq_true hr0
        clear hr0
        go_wp2_with fail
        go_ret
        exact ⟨rfl, unhide HB⟩
      by_cases hr1 : 200000000000 < r
      · have d2 : decide (r < 0) = false := decide_eq_false hr0
        have d3 : decide (200000000000 < r) = true := decide_eq_true hr1
        clear hr0 hr1
        go_wp2_with fail
        go_ret
        exact ⟨rfl, unhide HB⟩
      have d2 : decide (r < 0) = false := decide_eq_false hr0
      have d3 : decide (200000000000 < r) = false := decide_eq_false hr1
      have HT := hide (tso_of (unhide HE) (by omega) (by omega) (unhide HAll) (by rw [unhide HLe]; exact hl))
      clear HE HAll
      have HRo : Hid (RollA 23 w2 out (.slice (some ⟨b, off, none⟩) k cap) r (rowsUp out r l k) 0) := hide (by have := roll_any (unhide HR) (unhide HT).res; rwa [unhide HLe] at this)
      unfold RollA at HRo
      go_wp2_with fail
      refine (unhide HRo).mono ?_
      rintro z w3 ⟨u, rfl, hN, hb⟩
      have hk1 : 1 ≤ k := by have := (unhide HT).n0; rw [unhide HLe] at this; exact this
      obtain ⟨b3, o3, c3, rfl, hc3⟩ : ∃ b3 o3 c3, u = .slice (some ⟨b3, o3, none⟩) k c3 ∧ k ≤ c3 := by
        obtain ⟨b3, o3, c3, e1, e2, _⟩ := hN.open (by rw [rowsUp_len]; exact hk1)
        rw [rowsUp_len] at e1 e2
        exact ⟨b3, o3, c3, e1, e2⟩
      replace HB := hide (below_via (unhide HB) hb)
      replace HR := hide ((unhide HR).below hb (Nat.le_refl _))
      have HN := hide hN
      clear hb HRo hN
      have HV := hide (all_any r (unhide HR))
      unfold WorPost at HV
      rw [(unhide HT).val.1, (unhide HT).val.2] at HV
      go_wp2_with fail
      refine (unhide HV).mono ?_
      rintro z w4 ⟨u, rfl, hW, hb⟩
      replace HB := hide (below_via (unhide HB) hb)
      replace HN := hide ((unhide HN).keep hb)
      have HW := hide hW
      clear hW HV HR hb
      obtain ⟨K, rfl⟩ : ∃ K, k = K + 1 := ⟨k - 1, by omega⟩
      have i1 : ((K + 1 : Nat) : Int) - 1 = (K : Int) := by omega
      go_wp2_with fail
      obtain ⟨b4, o4, c4, rfl⟩ : ∃ b4 o4 c4, u = .slice (some ⟨b4, o4, none⟩) (K + 2) c4 := by
        obtain ⟨b4, o4, c4, e⟩ := row_open' (unhide HW) (by rw [worths_len]; omega)
        rw [worths_len, unhide HLe] at e
        exact ⟨b4, o4, c4, e⟩
      have HI : Hid (TsI w w4 b3 o3 c3 b4 o4 c4 K (rowsUp out r l (K + 1)) (worths r l)) := hide ⟨unhide HN, unhide HW, unhide HB⟩
      clear HB HN HW d2 d3 hr0 hr1
      have f0 : (K : Int) + 1 + 2 = farAt (K + 1) 0 := by simp only [farAt]; omega
      go_loopw [13, 77] (fun f i wr => ∃ k : Nat, k ≤ K ∧ i = .int .i64 k ∧ f = .int .i64 (farAt (K + 1) k) ∧ Hid (TsI w wr b3 o3 c3 b4 o4 c4 K (rowsUp out r l (K + 1)) (worths r l))) (fun _ i _ => K - (intOf i).toNat)
      case atStart => exact ⟨0, Nat.zero_le _, rfl, by simp only [farAt]; congr 1, HI⟩
      case round =>
        clear HI
        obtain ⟨k, hk, rfl, rfl, HI⟩ := hrel
        have HFa := hide ((unhide HT).far k (by rw [unhide HLe]; omega))
        rw [unhide HLe] at HFa
        by_cases hlt : k < K
        · have d0 := (unhide HI).rows.cells (j := k) (t := 0) (by rw [rowsUp_len]; omega) (by decide)
          have d1 := (unhide HI).rows.cells (j := k) (t := 1) (by rw [rowsUp_len]; omega) (by decide)
          have d2 := (unhide HI).rows.cells (j := k) (t := 2) (by rw [rowsUp_len]; omega) (by decide)
          have d3 := (unhide HI).rows.cells (j := k) (t := 3) (by rw [rowsUp_len]; omega) (by decide)
          rw [Nat.add_zero] at d0
          rw [getN_rows (by omega)] at d0 d1 d2 d3
          have d4 := row_cell (unhide HI).wor (j := k + 1) (by rw [worths_len, unhide HLe]; omega)
          rw [worths_get _ _ _ (by rw [unhide HLe]; omega)] at d4
          have HCl := hide ((unhide HT).close k (by rw [unhide HLe]; omega))
          have HF2 := hide ((unhide HT).far (k + 1) (by rw [unhide HLe]; omega))
          rw [unhide HLe] at HCl HF2
          have HSt := hide ((unhide HT).left (k + 1) (by rw [unhide HLe]; omega))
          have hFs : farAt (K + 1) (k + 1) = farAt (K + 1) k + (farAt (K + 1) k / 4 + 2) := rfl
          simp only [rowAt, List.getD_cons_zero, List.getD_cons_succ] at d0 d1 d2 d3
          generalize st out r l k = A at *
          generalize Mn.inr out r l k = B at *
          generalize l.getD k 0 = C at *
          generalize st out r l (k + 1) = D at *
          generalize worth r (l.drop (k + 1)) = V at *
          obtain ⟨c0, c1⟩ := unhide HCl
          obtain ⟨c2, c3'⟩ := unhide HF2
          obtain ⟨c4', c5⟩ := unhide HSt
          obtain ⟨c6, c7⟩ := unhide HFa
          generalize hF2 : farAt (K + 1) (k + 1) = F2 at *
          have HE2 := hide hF2
          clear hF2
          generalize farAt (K + 1) k = F at *
          have q1 : F.tdiv 4 = F / 4 := Int.tdiv_eq_ediv_of_nonneg (by omega)
          have q2 : F / 4 + 2 + F = F2 := by omega
          have q3 : F + (F / 4 + 2) = F2 := by omega
          have e1 : decide (F2 < D - V) = false := decide_eq_false (by omega)
          have e2 : decide (D - V < -F2) = false := decide_eq_false (by omega)
          have HX := hide ((unhide HI).alloc (.cells #[.int .i64 A, .int .i64 B, .int .i64 C, .int .i64 D] 49)).drew
          have d5 : ((wr.alloc (.cells #[.int .i64 A, .int .i64 B, .int .i64 C, .int .i64 D] 49)).drew).cell? ⟨b4, o4 + (k + 1), none⟩ = some (.int .i64 V) := cell_old d4 _
          clear HCl HF2 HSt HFa hFs
          go_wp2_with fail
          go_region
          all_goals (try go_wp2_with fail)
          all_goals go_roundw
          all_goals first | exact ⟨k + 1, by omega, by go_num, by rw [unhide HE2], HX⟩ | (simp [intOf]; omega)
        · have hk2 : k = K := by omega
          subst hk2
          have HPl := hide (plug_any r (unhide HI).rows (by rw [rowsUp_len]; omega))
          unfold PlugA at HPl
          have HPp := hide (unhide HT).plug
          rw [unhide HLe, Nat.add_sub_cancel] at HPp
          obtain ⟨p0, p1, p2⟩ := unhide HPp
          rw [p0] at HPl
          generalize plugN (rowsUp out r l (k + 1)) r = n at *
          obtain ⟨c6, c7⟩ := unhide HFa
          generalize farAt (k + 1) k = F at *
          have g1 : decide (n ≤ 2 * F) = true := decide_eq_true p2
          have g2 : decide (-2 * F ≤ n) = true := decide_eq_true (by omega)
          clear p0 HPp HFa
          go_wp2_with fail
          refine (unhide HPl).mono ?_
          rintro z w9 ⟨rfl, hb⟩
          have HB := hide (below_via (unhide HI).bel hb)
          clear hb HPl
          go_wp2_with fail
          go_ret
          exact ⟨rfl, unhide HB⟩
theorem ts_none (out : Int) (a : Option Addr) (c : Nat) (w : World) (ho : In64 out) : SolvedL w out (.slice a 0 c) := by
  unfold SolvedL
  have HA := hide talive_any
  unfold Alive at HA
  go_enter (Tri.at (by decide) Try.func5), Try.ntmps5
  go_wp2_with fail
  refine (unhide HA _).mono ?_
  rintro z w1 ⟨rfl, hb⟩
  have HB := hide hb
  clear HA
  have HSo := hide (s9_any (w := w1) (v := .slice a 0 c) (l := []) ho (.inl ⟨_, _, rfl, rfl⟩))
  unfold SolA9 at HSo
  clear hb ho
  go_wp2_with fail
  refine wp_loop_rounds 1 ?_
  rw [rounds_succ]
  go_wp2_with fail
  refine (unhide HSo).mono ?_
  rintro z w2 ⟨r, e, hE, rfl, hb⟩
  replace HB := hide (below_via (unhide HB) hb)
  have d1 : (e != 0) = true := by
    rcases hE with ⟨_, _, h⟩ | ⟨h, _⟩
    · rw [h]; rfl
    · rw [maySo_nil] at h; cases h
  clear hb HSo hE
  go_wp2_with fail
  go_ret
  exact ⟨rfl, unhide HB⟩
theorem tsolved_any {w : World} {a : Option Addr} {n c : Nat} {l : List Int} {out : Int} (ho : In64 out) (hR : Row w (.slice a n c) l) : SolvedL w out (.slice a n c) := by
  have hn := row_len hR
  subst hn
  by_cases h0 : 20 < l.length
  · exact ts_long out a _ c w (decide_eq_true (by omega))
  rcases hR with ⟨a', c', h1, h2⟩ | ⟨b, off, c', h1, h3, hm, hc, hin⟩
  · subst h2
    exact ts_none out a c w ho
  · cases h1
    exact ts_go out b off c l w ho (.inr ⟨b, off, c, rfl, h3, hm, hc, hin⟩) (decide_eq_false (by omega)) (by omega) hc
end Go.Proofs.Ytpeoabopeihadaa.Mn
