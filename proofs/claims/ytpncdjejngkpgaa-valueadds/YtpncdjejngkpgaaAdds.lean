/- Proved here: ValueAdds: two rows of amounts together are worth what both are, but for two of each period on the way, at a rate of 0 or more; their negatives are worth the negative. No condition. -/
import Derived.Test.YtpncdjejngkpgaaMGrow
import Derived.Deep.CutRange
import Derived.Deep.CutBlock
import Derived.Deep.QuietTactic
import Derived.BigQuiet
import Derived.Below
namespace Go.Proofs.Ytpncdjejngkpgaa.Mn.valueAdds
open Go.ChangeShapes Go.WideShapes Go.ChangeAt Go.RowKit
set_option linter.unusedSimpArgs false
/-- An amount, from -10^9 to 10^9. -/
def cl (x : Int) : Int := if x < -1000000000 then -1000000000 else if x ≤ 1000000000 then x else 1000000000
theorem cl_bd (x : Int) : -1000000000 ≤ cl x ∧ cl x ≤ 1000000000 := by unfold cl; split <;> (try split) <;> omega
def rA (l : List Int) (k : Nat) : List Int := (List.range k).map (fun i => cl (l.getD i 0))
def rC (l m : List Int) (k : Nat) : List Int := (List.range k).map (fun i => cl (l.getD i 0) + cl (m.getD i 0))
def rD (l : List Int) (k : Nat) : List Int := (List.range k).map (fun i => -cl (l.getD i 0))
theorem rA_succ (l : List Int) (k : Nat) : rA l (k + 1) = rA l k ++ [cl (l.getD k 0)] := by unfold rA; rw [List.range_succ, List.map_append]; rfl
theorem rC_succ (l m : List Int) (k : Nat) : rC l m (k + 1) = rC l m k ++ [cl (l.getD k 0) + cl (m.getD k 0)] := by unfold rC; rw [List.range_succ, List.map_append]; rfl
theorem rD_succ (l : List Int) (k : Nat) : rD l (k + 1) = rD l k ++ [-cl (l.getD k 0)] := by unfold rD; rw [List.range_succ, List.map_append]; rfl
theorem rA_len (l : List Int) (k : Nat) : (rA l k).length = k := by simp [rA]
theorem rC_len (l m : List Int) (k : Nat) : (rC l m k).length = k := by simp [rC]
theorem rD_len (l : List Int) (k : Nat) : (rD l k).length = k := by simp [rD]
theorem rC_both (l m : List Int) (k : Nat) : rC l m k = both (rA l k) (rA m k) := by
  unfold rC rA
  induction List.range k with
  | nil => rfl
  | cons i R ih => simp only [List.map_cons, both, ih]
theorem rD_neg (l : List Int) (k : Nat) : rD l k = (rA l k).map (fun x => -x) := by simp [rD, rA]
theorem fine_row {r : Int} (r0 : 0 ≤ r) (r1 : r ≤ 1000000000000) {L : List Int} (hn : L.length ≤ 60) (hL : ∀ x ∈ L, -2000000000 ≤ x ∧ x ≤ 2000000000) : valE 1 L r = 0 ∧ valN 1 L r = worth r L ∧ -120000000000 ≤ worth r L ∧ worth r L ≤ 120000000000 := by
  have m : May r := ⟨by omega, by omega⟩
  have ha : L.all may = true := List.all_eq_true.2 (fun x hx => by have := hL x hx; unfold may; rw [decide_eq_true (by omega), decide_eq_true (by omega)]; rfl)
  have hf := fits_within m r0 (M := 2000000000) (by omega) hL (by omega)
  have hw := worth_within m r0 (M := 2000000000) hL
  have e : valE 1 L r = 0 := by rw [valE1_of (by omega) ha m, hf]; rfl
  exact ⟨e, valN1 e, by omega, by omega⟩
/-- All that the law asks of the four rows. -/
structure Add (l m : List Int) (k : Nat) (r p q s : Int) : Prop where
  a : ∀ w v, Row w v (rA l k) → NowA 11 w #[v, .int .i64 r] p 0
  b : ∀ w v, Row w v (rA m k) → NowA 11 w #[v, .int .i64 r] q 0
  c : ∀ w v, Row w v (rC l m k) → NowA 11 w #[v, .int .i64 r] s 0
  d : ∀ w v, Row w v (rD l k) → NowA 11 w #[v, .int .i64 r] (-p) 0
  pb : -120000000000 ≤ p ∧ p ≤ 120000000000
  qb : -120000000000 ≤ q ∧ q ≤ 120000000000
  sb : -120000000000 ≤ s ∧ s ≤ 120000000000
  lo : -(2 * (k : Int)) ≤ s - p - q
  hi : s - p - q ≤ 2 * (k : Int)
theorem add_of (l m : List Int) {k : Nat} (hk : k ≤ 60) {r : Int} (r0 : 0 ≤ r) (r1 : r ≤ 1000000000000) : Add l m k r (worth r (rA l k)) (worth r (rA m k)) (worth r (rC l m k)) := by
  have fa : ∀ l, ∀ x ∈ rA l k, -2000000000 ≤ x ∧ x ≤ 2000000000 := fun l x hx => by
    obtain ⟨i, _, rfl⟩ := List.mem_map.1 hx
    have := cl_bd (l.getD i 0)
    omega
  have fc : ∀ x ∈ rC l m k, -2000000000 ≤ x ∧ x ≤ 2000000000 := fun x hx => by
    obtain ⟨i, _, rfl⟩ := List.mem_map.1 hx
    have h1 := cl_bd (l.getD i 0)
    have h2 := cl_bd (m.getD i 0)
    omega
  have fd : ∀ x ∈ rD l k, -2000000000 ≤ x ∧ x ≤ 2000000000 := fun x hx => by
    obtain ⟨i, _, rfl⟩ := List.mem_map.1 hx
    have h1 := cl_bd (l.getD i 0)
    omega
  obtain ⟨a1, a2, a3, a4⟩ := fine_row r0 r1 (by rw [rA_len]; exact hk) (fa l)
  obtain ⟨b1, b2, b3, b4⟩ := fine_row r0 r1 (by rw [rA_len]; exact hk) (fa m)
  obtain ⟨c1, c2, c3, c4⟩ := fine_row r0 r1 (by rw [rC_len]; exact hk) fc
  obtain ⟨d1, d2, _, _⟩ := fine_row r0 r1 (by rw [rD_len]; exact hk) fd
  have hd : worth r (rD l k) = -worth r (rA l k) := by rw [rD_neg]; exact worth_neg ⟨by omega, by omega⟩ _
  have hb := worth_both r0 (rA l k) (rA m k) (by rw [rA_len, rA_len])
  rw [rA_len, ← rC_both] at hb
  refine ⟨fun w v h => ?_, fun w v h => ?_, fun w v h => ?_, fun w v h => ?_, ⟨a3, a4⟩, ⟨b3, b4⟩, ⟨c3, c4⟩, hb.1, hb.2⟩
  · have := of_any r h; rwa [a1, a2] at this
  · have := of_any r h; rwa [b1, b2] at this
  · have := of_any r h; rwa [c1, c2] at this
  · have := of_any r h; rwa [d1, d2, hd] at this
theorem s_long1 (a0 : Option Addr) (l0 c0 : Nat) (a1 : Option Addr) (m0 c1 : Nat) (r : Int) (d1 : decide ((60 : Int) < (l0 : Int)) = true) (hal : Hid Alive) (w : World) : Calls Try.prog 6 #[.slice a0 l0 c0, .slice a1 m0 c1, .int .i64 r] w fun e w' => e = .returned (.bool true) ∧ Below w.heap.size w w' := by
  go_enter Try.func6, Try.ntmps6
  go_wp2_with fail
  refine (unhide hal _).mono ?_
  rintro e w1 ⟨rfl, hb⟩
  replace hb := hide hb
  go_wp2_with fail
  go_ret
  exact ⟨rfl, unhide hb⟩
theorem s_long2 (a0 : Option Addr) (l0 c0 : Nat) (a1 : Option Addr) (m0 c1 : Nat) (r : Int) (d1 : decide ((60 : Int) < (l0 : Int)) = false) (d2 : decide ((60 : Int) < (m0 : Int)) = true) (hal : Hid Alive) (w : World) : Calls Try.prog 6 #[.slice a0 l0 c0, .slice a1 m0 c1, .int .i64 r] w fun e w' => e = .returned (.bool true) ∧ Below w.heap.size w w' := by
  go_enter Try.func6, Try.ntmps6
  go_wp2_with fail
  refine (unhide hal _).mono ?_
  rintro e w1 ⟨rfl, hb⟩
  replace hb := hide hb
  go_wp2_with fail
  go_ret
  exact ⟨rfl, unhide hb⟩
set_option maxRecDepth 100000 in
set_option maxHeartbeats 4000000 in
theorem s_one (a0 : Option Addr) (l0 c0 : Nat) (l : List Int) (a1 : Option Addr) (m0 c1 : Nat) (m : List Int) (r : Int) (d1 : decide ((60 : Int) < (l0 : Int)) = false) (d2 : decide ((60 : Int) < (m0 : Int)) = false) (hle : (l0 : Int) ≤ (m0 : Int)) (hal : Hid Alive) (w : World) (hR : Hid (Row w (.slice a0 l0 c0) l)) (hS : Hid (Row w (.slice a1 m0 c1) m)) : Calls Try.prog 6 #[.slice a0 l0 c0, .slice a1 m0 c1, .int .i64 r] w fun e w' => e = .returned (.bool true) ∧ Below w.heap.size w w' := by
  have hl := hide (row_len (unhide hR))
  have hm := hide (row_len (unhide hS))
  have k3 : (l0 : Int) ≤ 60 := by have := of_decide_eq_false d1; have := of_decide_eq_false d2; omega
  have HF : Hid (∀ R : Int, 0 ≤ R → R ≤ 1000000000000 → Add l m l0 R (worth R (rA l l0)) (worth R (rA m l0)) (worth R (rC l m l0))) := hide (fun R h0 h1 => add_of l m (by omega) h0 h1)
  go_enter Try.func6, Try.ntmps6
  go_wp2_with fail
  refine (unhide hal _).mono ?_
  rintro e w1 ⟨rfl, hb⟩
  replace hR := hide ((unhide hR).below hb (Nat.le_refl _))
  replace hS := hide ((unhide hS).below hb (Nat.le_refl _))
  have HB := hide hb
  clear hb hal
  go_upto_region 5 with fail
  go_cut [2] from 33 to 136 (fun p wx => ∃ R : Int, p = .int .i64 R ∧ 0 ≤ R ∧ R ≤ 1000000000000 ∧ w1 = wx)
  case first =>
    clear HF hl hm k3 HB hR hS
    by_cases h1 : r < 0
    · go_wp2_with fail
      go_meet
      exact ⟨_, rfl, by omega, by omega, rfl⟩
    · by_cases h2 : r ≤ 1000000000000
      · go_wp2_with fail
        go_meet
        exact ⟨_, rfl, by omega, by omega, rfl⟩
      · have h3 : 1000000000000 < r := by omega
        go_wp2_with fail
        go_meet
        exact ⟨_, rfl, by omega, by omega, rfl⟩
  case rest =>
    obtain ⟨R, rfl, r0, r1, rfl⟩ := hcut
    have hF := hide (unhide HF R r0 r1)
    clear HF r0 r1
    go_wp2_with fail
    go_loopw [7, 8, 9, 10, 41] (fun v1 v2 v3 v4 i wr => ∃ k : Nat, k ≤ l0 ∧ i = .int .i64 k ∧ Hid (Four w1 wr v1 v2 v3 v4 (rA l k) (rA m k) (rC l m k) (rD l k))) (fun _ _ _ _ i _ => l0 - (intOf i).toNat)
    case atStart => exact ⟨0, Nat.zero_le _, rfl, hide (Four.none _ _ (Below.refl _ _))⟩
    case round =>
      obtain ⟨k, hk, rfl, HG⟩ := hrel
      by_cases hlt : k < l0
      · obtain ⟨b, off, cap, e⟩ := row_open' (unhide hR) (by rw [← unhide hl]; omega)
        injection e with e1 e2 e3
        subst e1
        obtain ⟨b2, off2, cap2, e⟩ := row_open' (unhide hS) (by rw [← unhide hm]; omega)
        injection e with e1 e4 e5
        subst e1
        clear e2 e3 e4 e5
        have hlow := (unhide HG).g1.below
        have cx := row_cell ((unhide hR).below hlow (Nat.le_refl _)) (j := k) (by rw [← unhide hl]; omega)
        have cy := row_cell ((unhide hS).below hlow (Nat.le_refl _)) (j := k) (by rw [← unhide hm]; omega)
        have HA := hide (rA_succ l k)
        have HBb := hide (rA_succ m k)
        have HC := hide (rC_succ l m k)
        have HD := hide (rD_succ l k)
        have N1 : Hid ((rA l k).length ≤ 1000000) := hide (by rw [rA_len]; omega)
        have N2 : Hid ((rA m k).length ≤ 1000000) := hide (by rw [rA_len]; omega)
        have N3 : Hid ((rC l m k).length ≤ 1000000) := hide (by rw [rC_len]; omega)
        have N4 : Hid ((rD l k).length ≤ 1000000) := hide (by rw [rD_len]; omega)
        clear hlow
        have i1 : (0 : Int) ≤ (k : Int) := by omega
        have i2 : (k : Int) < (l0 : Int) := by omega
        have i3 : (k : Int) < (m0 : Int) := by omega
        have i4 : k < l0 := by omega
        have i5 : k < m0 := by omega
        generalize l.getD k 0 = x at *
        generalize m.getD k 0 = y at *
        generalize rA l k = L1 at *
        generalize rA m k = L2 at *
        generalize rC l m k = L3 at *
        generalize rD l k = L4 at *
        go_upto_region 10 with fail
        go_cut [12, 13] from 44 to 75 (fun p q wx => p = .int .i64 (cl x) ∧ q = .int .i64 (cl y) ∧ Hid (Four w1 wx u7 u8 u9 u10 L1 L2 L3 L4))
        case first =>
          clear hF hR hS HB HA HBb HC HD N1 N2 N3 N4 hl hm
          by_cases qx1 : x < -1000000000
          · by_cases qy1 : y < -1000000000
            · have HX : Hid (cl x = -1000000000) := hide (if_pos qx1)
              have HY : Hid (cl y = -1000000000) := hide (if_pos qy1)
              go_quiet (fail)
              go_wp2_with fail
              go_meet
              exact ⟨by rw [unhide HX], by rw [unhide HY], hide ((unhide HG).drewN _)⟩
            · by_cases qy2 : y ≤ 1000000000
              · have HX : Hid (cl x = -1000000000) := hide (if_pos qx1)
                have HY : Hid (cl y = y) := hide ((if_neg qy1).trans (if_pos qy2))
                go_quiet (fail)
                go_wp2_with fail
                go_meet
                exact ⟨by rw [unhide HX], by rw [unhide HY], hide ((unhide HG).drewN _)⟩
              · have qy3 : 1000000000 < y := by omega
                have HX : Hid (cl x = -1000000000) := hide (if_pos qx1)
                have HY : Hid (cl y = 1000000000) := hide ((if_neg qy1).trans (if_neg qy2))
                go_quiet (fail)
                go_wp2_with fail
                go_meet
                exact ⟨by rw [unhide HX], by rw [unhide HY], hide ((unhide HG).drewN _)⟩
          · by_cases qx2 : x ≤ 1000000000
            · by_cases qy1 : y < -1000000000
              · have HX : Hid (cl x = x) := hide ((if_neg qx1).trans (if_pos qx2))
                have HY : Hid (cl y = -1000000000) := hide (if_pos qy1)
                go_quiet (fail)
                go_wp2_with fail
                go_meet
                exact ⟨by rw [unhide HX], by rw [unhide HY], hide ((unhide HG).drewN _)⟩
              · by_cases qy2 : y ≤ 1000000000
                · have HX : Hid (cl x = x) := hide ((if_neg qx1).trans (if_pos qx2))
                  have HY : Hid (cl y = y) := hide ((if_neg qy1).trans (if_pos qy2))
                  go_quiet (fail)
                  go_wp2_with fail
                  go_meet
                  exact ⟨by rw [unhide HX], by rw [unhide HY], hide ((unhide HG).drewN _)⟩
                · have qy3 : 1000000000 < y := by omega
                  have HX : Hid (cl x = x) := hide ((if_neg qx1).trans (if_pos qx2))
                  have HY : Hid (cl y = 1000000000) := hide ((if_neg qy1).trans (if_neg qy2))
                  go_quiet (fail)
                  go_wp2_with fail
                  go_meet
                  exact ⟨by rw [unhide HX], by rw [unhide HY], hide ((unhide HG).drewN _)⟩
            · have qx3 : 1000000000 < x := by omega
              by_cases qy1 : y < -1000000000
              · have HX : Hid (cl x = 1000000000) := hide ((if_neg qx1).trans (if_neg qx2))
                have HY : Hid (cl y = -1000000000) := hide (if_pos qy1)
                go_quiet (fail)
                go_wp2_with fail
                go_meet
                exact ⟨by rw [unhide HX], by rw [unhide HY], hide ((unhide HG).drewN _)⟩
              · by_cases qy2 : y ≤ 1000000000
                · have HX : Hid (cl x = 1000000000) := hide ((if_neg qx1).trans (if_neg qx2))
                  have HY : Hid (cl y = y) := hide ((if_neg qy1).trans (if_pos qy2))
                  go_quiet (fail)
                  go_wp2_with fail
                  go_meet
                  exact ⟨by rw [unhide HX], by rw [unhide HY], hide ((unhide HG).drewN _)⟩
                · have qy3 : 1000000000 < y := by omega
                  have HX : Hid (cl x = 1000000000) := hide ((if_neg qx1).trans (if_neg qx2))
                  have HY : Hid (cl y = 1000000000) := hide ((if_neg qy1).trans (if_neg qy2))
                  go_quiet (fail)
                  go_wp2_with fail
                  go_meet
                  exact ⟨by rw [unhide HX], by rw [unhide HY], hide ((unhide HG).drewN _)⟩
        case rest =>
          obtain ⟨rfl, rfl, H4⟩ := hcut
          clear cx cy HG i1 i2 i3 i4 i5
          have x1 := (cl_bd x).1
          have x2 := (cl_bd x).2
          have y1 := (cl_bd y).1
          have y2 := (cl_bd y).2
          generalize cl x = X at *
          generalize cl y = Y at *
          have j1 : IntKind.i64.wrap (-X) = -X := by rw [IntKind.wrap_i64]; omega
          go_wp2_with (at_builtin; refine push4 rfl _ _ rfl w1 _ _ _ _ _ L1 L2 L3 L4 X (unhide H4) rfl rfl (unhide N1) ⟨by omega, by omega⟩ ?_)
          intro v1 w2 h5
          replace H4 := hide h5
          clear h5
          go_wp2_with (at_builtin; refine push4 rfl _ _ rfl w1 _ _ _ _ _ L2 L3 L4 (L1 ++ [X]) Y (unhide H4) rfl rfl (unhide N2) ⟨by omega, by omega⟩ ?_)
          intro v2 w3 h5
          replace H4 := hide h5
          clear h5
          go_wp2_with (at_builtin; refine push4 rfl _ _ rfl w1 _ _ _ _ _ L3 L4 (L1 ++ [X]) (L2 ++ [Y]) (X + Y) (unhide H4) rfl rfl (unhide N3) ⟨by omega, by omega⟩ ?_)
          intro v3 w4 h5
          replace H4 := hide h5
          clear h5
          go_wp2_with (at_builtin; refine push4 rfl _ _ rfl w1 _ _ _ _ _ L4 (L1 ++ [X]) (L2 ++ [Y]) (L3 ++ [X + Y]) (-X) (unhide H4) rfl rfl (unhide N4) ⟨by omega, by omega⟩ ?_)
          intro v4 w5 h5
          replace H4 := hide h5
          clear h5
          go_wp2_with fail
          go_roundw
          case rel => exact ⟨k + 1, by omega, by go_num, by rw [unhide HA, unhide HBb, unhide HC, unhide HD]; exact H4⟩
          case measure => simp [intOf]; omega
      · have hk2 : k = l0 := by omega
        subst hk2
        obtain ⟨hF⟩ : Nonempty (Add l m k R (worth R (rA l k)) (worth R (rA m k)) (worth R (rC l m k))) := ⟨unhide hF⟩
        have H1 := hide hF.a
        have H2 := hide hF.b
        have H3 := hide hF.c
        have H5 := hide hF.d
        obtain ⟨p1, p2⟩ := hF.pb
        obtain ⟨q1, q2⟩ := hF.qb
        obtain ⟨s1, s2⟩ := hF.sb
        have lo := hF.lo
        have hi := hF.hi
        have O1 := hide ((unhide HG).g1.row (by rw [rA_len]; unfold maxLen; omega))
        have O2 := hide ((unhide HG).g2.row (by rw [rA_len]; unfold maxLen; omega))
        have O3 := hide ((unhide HG).g3.row (by rw [rC_len]; unfold maxLen; omega))
        have O4 := hide ((unhide HG).g4.row (by rw [rD_len]; unfold maxLen; omega))
        obtain ⟨a', c', hu⟩ := row_slice (unhide O1)
        rw [rA_len] at hu
        subst hu
        have HB2 := hide (below_via (unhide HB) (unhide HG).g1.below)
        clear HB HG hR hS hl hm hF d1 d2 hlt hk
        generalize worth R (rA l k) = p at *
        generalize worth R (rA m k) = q at *
        generalize worth R (rC l m k) = s at *
        generalize rA l k = L1 at *
        generalize rA m k = L2 at *
        generalize rC l m k = L3 at *
        generalize rD l k = L4 at *
        have j1 : IntKind.i64.wrap (-p) = -p := by rw [IntKind.wrap_i64]; omega
        have j2 : (-p != -p) = false := by simp
        have j3 : decide (s - p - q ≤ 2 * (k : Int)) = true := decide_eq_true hi
        have j4 : decide (-2 * (k : Int) ≤ s - p - q) = true := decide_eq_true (by omega)
        unfold NowA at H1 H2 H3 H5
        go_wp2_with fail
        refine (unhide H1 _ _ (unhide O1)).mono ?_
        rintro e w2 ⟨rfl, hb⟩
        replace O2 := hide ((unhide O2).below hb (Nat.le_refl _))
        replace O3 := hide ((unhide O3).below hb (Nat.le_refl _))
        replace O4 := hide ((unhide O4).below hb (Nat.le_refl _))
        replace HB2 := hide (below_via (unhide HB2) hb)
        clear hb H1 O1
        go_wp2_with fail
        refine (unhide H2 _ _ (unhide O2)).mono ?_
        rintro e w3 ⟨rfl, hb⟩
        replace O3 := hide ((unhide O3).below hb (Nat.le_refl _))
        replace O4 := hide ((unhide O4).below hb (Nat.le_refl _))
        replace HB2 := hide (below_via (unhide HB2) hb)
        clear hb H2 O2
        go_wp2_with fail
        refine (unhide H3 _ _ (unhide O3)).mono ?_
        rintro e w4 ⟨rfl, hb⟩
        replace O4 := hide ((unhide O4).below hb (Nat.le_refl _))
        replace HB2 := hide (below_via (unhide HB2) hb)
        clear hb H3 O3
        go_wp2_with fail
        refine (unhide H5 _ _ (unhide O4)).mono ?_
        rintro e w5 ⟨rfl, hb⟩
        replace HB2 := hide (below_via (unhide HB2) hb)
        clear hb H5 O4
        go_wp2_with fail
        go_ret
        exact ⟨rfl, unhide HB2⟩
set_option maxRecDepth 100000 in
set_option maxHeartbeats 4000000 in
theorem s_two (a0 : Option Addr) (l0 c0 : Nat) (l : List Int) (a1 : Option Addr) (m0 c1 : Nat) (m : List Int) (r : Int) (d1 : decide ((60 : Int) < (l0 : Int)) = false) (d2 : decide ((60 : Int) < (m0 : Int)) = false) (hle : ¬ (l0 : Int) ≤ (m0 : Int)) (hal : Hid Alive) (w : World) (hR : Hid (Row w (.slice a0 l0 c0) l)) (hS : Hid (Row w (.slice a1 m0 c1) m)) : Calls Try.prog 6 #[.slice a0 l0 c0, .slice a1 m0 c1, .int .i64 r] w fun e w' => e = .returned (.bool true) ∧ Below w.heap.size w w' := by
  have hl := hide (row_len (unhide hR))
  have hm := hide (row_len (unhide hS))
  have k3 : (m0 : Int) ≤ 60 := by have := of_decide_eq_false d1; have := of_decide_eq_false d2; omega
  have HF : Hid (∀ R : Int, 0 ≤ R → R ≤ 1000000000000 → Add l m m0 R (worth R (rA l m0)) (worth R (rA m m0)) (worth R (rC l m m0))) := hide (fun R h0 h1 => add_of l m (by omega) h0 h1)
  go_enter Try.func6, Try.ntmps6
  go_wp2_with fail
  refine (unhide hal _).mono ?_
  rintro e w1 ⟨rfl, hb⟩
  replace hR := hide ((unhide hR).below hb (Nat.le_refl _))
  replace hS := hide ((unhide hS).below hb (Nat.le_refl _))
  have HB := hide hb
  clear hb hal
  go_upto_region 5 with fail
  go_cut [2] from 33 to 136 (fun p wx => ∃ R : Int, p = .int .i64 R ∧ 0 ≤ R ∧ R ≤ 1000000000000 ∧ w1 = wx)
  case first =>
    clear HF hl hm k3 HB hR hS
    by_cases h1 : r < 0
    · go_wp2_with fail
      go_meet
      exact ⟨_, rfl, by omega, by omega, rfl⟩
    · by_cases h2 : r ≤ 1000000000000
      · go_wp2_with fail
        go_meet
        exact ⟨_, rfl, by omega, by omega, rfl⟩
      · have h3 : 1000000000000 < r := by omega
        go_wp2_with fail
        go_meet
        exact ⟨_, rfl, by omega, by omega, rfl⟩
  case rest =>
    obtain ⟨R, rfl, r0, r1, rfl⟩ := hcut
    have hF := hide (unhide HF R r0 r1)
    clear HF r0 r1
    go_wp2_with fail
    go_loopw [7, 8, 9, 10, 41] (fun v1 v2 v3 v4 i wr => ∃ k : Nat, k ≤ m0 ∧ i = .int .i64 k ∧ Hid (Four w1 wr v1 v2 v3 v4 (rA l k) (rA m k) (rC l m k) (rD l k))) (fun _ _ _ _ i _ => m0 - (intOf i).toNat)
    case atStart => exact ⟨0, Nat.zero_le _, rfl, hide (Four.none _ _ (Below.refl _ _))⟩
    case round =>
      obtain ⟨k, hk, rfl, HG⟩ := hrel
      by_cases hlt : k < m0
      · obtain ⟨b, off, cap, e⟩ := row_open' (unhide hR) (by rw [← unhide hl]; omega)
        injection e with e1 e2 e3
        subst e1
        obtain ⟨b2, off2, cap2, e⟩ := row_open' (unhide hS) (by rw [← unhide hm]; omega)
        injection e with e1 e4 e5
        subst e1
        clear e2 e3 e4 e5
        have hlow := (unhide HG).g1.below
        have cx := row_cell ((unhide hR).below hlow (Nat.le_refl _)) (j := k) (by rw [← unhide hl]; omega)
        have cy := row_cell ((unhide hS).below hlow (Nat.le_refl _)) (j := k) (by rw [← unhide hm]; omega)
        have HA := hide (rA_succ l k)
        have HBb := hide (rA_succ m k)
        have HC := hide (rC_succ l m k)
        have HD := hide (rD_succ l k)
        have N1 : Hid ((rA l k).length ≤ 1000000) := hide (by rw [rA_len]; omega)
        have N2 : Hid ((rA m k).length ≤ 1000000) := hide (by rw [rA_len]; omega)
        have N3 : Hid ((rC l m k).length ≤ 1000000) := hide (by rw [rC_len]; omega)
        have N4 : Hid ((rD l k).length ≤ 1000000) := hide (by rw [rD_len]; omega)
        clear hlow
        have i1 : (0 : Int) ≤ (k : Int) := by omega
        have i2 : (k : Int) < (l0 : Int) := by omega
        have i3 : (k : Int) < (m0 : Int) := by omega
        have i4 : k < l0 := by omega
        have i5 : k < m0 := by omega
        generalize l.getD k 0 = x at *
        generalize m.getD k 0 = y at *
        generalize rA l k = L1 at *
        generalize rA m k = L2 at *
        generalize rC l m k = L3 at *
        generalize rD l k = L4 at *
        go_upto_region 10 with fail
        go_cut [12, 13] from 44 to 75 (fun p q wx => p = .int .i64 (cl x) ∧ q = .int .i64 (cl y) ∧ Hid (Four w1 wx u7 u8 u9 u10 L1 L2 L3 L4))
        case first =>
          clear hF hR hS HB HA HBb HC HD N1 N2 N3 N4 hl hm
          by_cases qx1 : x < -1000000000
          · by_cases qy1 : y < -1000000000
            · have HX : Hid (cl x = -1000000000) := hide (if_pos qx1)
              have HY : Hid (cl y = -1000000000) := hide (if_pos qy1)
              go_quiet (fail)
              go_wp2_with fail
              go_meet
              exact ⟨by rw [unhide HX], by rw [unhide HY], hide ((unhide HG).drewN _)⟩
            · by_cases qy2 : y ≤ 1000000000
              · have HX : Hid (cl x = -1000000000) := hide (if_pos qx1)
                have HY : Hid (cl y = y) := hide ((if_neg qy1).trans (if_pos qy2))
                go_quiet (fail)
                go_wp2_with fail
                go_meet
                exact ⟨by rw [unhide HX], by rw [unhide HY], hide ((unhide HG).drewN _)⟩
              · have qy3 : 1000000000 < y := by omega
                have HX : Hid (cl x = -1000000000) := hide (if_pos qx1)
                have HY : Hid (cl y = 1000000000) := hide ((if_neg qy1).trans (if_neg qy2))
                go_quiet (fail)
                go_wp2_with fail
                go_meet
                exact ⟨by rw [unhide HX], by rw [unhide HY], hide ((unhide HG).drewN _)⟩
          · by_cases qx2 : x ≤ 1000000000
            · by_cases qy1 : y < -1000000000
              · have HX : Hid (cl x = x) := hide ((if_neg qx1).trans (if_pos qx2))
                have HY : Hid (cl y = -1000000000) := hide (if_pos qy1)
                go_quiet (fail)
                go_wp2_with fail
                go_meet
                exact ⟨by rw [unhide HX], by rw [unhide HY], hide ((unhide HG).drewN _)⟩
              · by_cases qy2 : y ≤ 1000000000
                · have HX : Hid (cl x = x) := hide ((if_neg qx1).trans (if_pos qx2))
                  have HY : Hid (cl y = y) := hide ((if_neg qy1).trans (if_pos qy2))
                  go_quiet (fail)
                  go_wp2_with fail
                  go_meet
                  exact ⟨by rw [unhide HX], by rw [unhide HY], hide ((unhide HG).drewN _)⟩
                · have qy3 : 1000000000 < y := by omega
                  have HX : Hid (cl x = x) := hide ((if_neg qx1).trans (if_pos qx2))
                  have HY : Hid (cl y = 1000000000) := hide ((if_neg qy1).trans (if_neg qy2))
                  go_quiet (fail)
                  go_wp2_with fail
                  go_meet
                  exact ⟨by rw [unhide HX], by rw [unhide HY], hide ((unhide HG).drewN _)⟩
            · have qx3 : 1000000000 < x := by omega
              by_cases qy1 : y < -1000000000
              · have HX : Hid (cl x = 1000000000) := hide ((if_neg qx1).trans (if_neg qx2))
                have HY : Hid (cl y = -1000000000) := hide (if_pos qy1)
                go_quiet (fail)
                go_wp2_with fail
                go_meet
                exact ⟨by rw [unhide HX], by rw [unhide HY], hide ((unhide HG).drewN _)⟩
              · by_cases qy2 : y ≤ 1000000000
                · have HX : Hid (cl x = 1000000000) := hide ((if_neg qx1).trans (if_neg qx2))
                  have HY : Hid (cl y = y) := hide ((if_neg qy1).trans (if_pos qy2))
                  go_quiet (fail)
                  go_wp2_with fail
                  go_meet
                  exact ⟨by rw [unhide HX], by rw [unhide HY], hide ((unhide HG).drewN _)⟩
                · have qy3 : 1000000000 < y := by omega
                  have HX : Hid (cl x = 1000000000) := hide ((if_neg qx1).trans (if_neg qx2))
                  have HY : Hid (cl y = 1000000000) := hide ((if_neg qy1).trans (if_neg qy2))
                  go_quiet (fail)
                  go_wp2_with fail
                  go_meet
                  exact ⟨by rw [unhide HX], by rw [unhide HY], hide ((unhide HG).drewN _)⟩
        case rest =>
          obtain ⟨rfl, rfl, H4⟩ := hcut
          clear cx cy HG i1 i2 i3 i4 i5
          have x1 := (cl_bd x).1
          have x2 := (cl_bd x).2
          have y1 := (cl_bd y).1
          have y2 := (cl_bd y).2
          generalize cl x = X at *
          generalize cl y = Y at *
          have j1 : IntKind.i64.wrap (-X) = -X := by rw [IntKind.wrap_i64]; omega
          go_wp2_with (at_builtin; refine push4 rfl _ _ rfl w1 _ _ _ _ _ L1 L2 L3 L4 X (unhide H4) rfl rfl (unhide N1) ⟨by omega, by omega⟩ ?_)
          intro v1 w2 h5
          replace H4 := hide h5
          clear h5
          go_wp2_with (at_builtin; refine push4 rfl _ _ rfl w1 _ _ _ _ _ L2 L3 L4 (L1 ++ [X]) Y (unhide H4) rfl rfl (unhide N2) ⟨by omega, by omega⟩ ?_)
          intro v2 w3 h5
          replace H4 := hide h5
          clear h5
          go_wp2_with (at_builtin; refine push4 rfl _ _ rfl w1 _ _ _ _ _ L3 L4 (L1 ++ [X]) (L2 ++ [Y]) (X + Y) (unhide H4) rfl rfl (unhide N3) ⟨by omega, by omega⟩ ?_)
          intro v3 w4 h5
          replace H4 := hide h5
          clear h5
          go_wp2_with (at_builtin; refine push4 rfl _ _ rfl w1 _ _ _ _ _ L4 (L1 ++ [X]) (L2 ++ [Y]) (L3 ++ [X + Y]) (-X) (unhide H4) rfl rfl (unhide N4) ⟨by omega, by omega⟩ ?_)
          intro v4 w5 h5
          replace H4 := hide h5
          clear h5
          go_wp2_with fail
          go_roundw
          case rel => exact ⟨k + 1, by omega, by go_num, by rw [unhide HA, unhide HBb, unhide HC, unhide HD]; exact H4⟩
          case measure => simp [intOf]; omega
      · have hk2 : k = m0 := by omega
        subst hk2
        obtain ⟨hF⟩ : Nonempty (Add l m k R (worth R (rA l k)) (worth R (rA m k)) (worth R (rC l m k))) := ⟨unhide hF⟩
        have H1 := hide hF.a
        have H2 := hide hF.b
        have H3 := hide hF.c
        have H5 := hide hF.d
        obtain ⟨p1, p2⟩ := hF.pb
        obtain ⟨q1, q2⟩ := hF.qb
        obtain ⟨s1, s2⟩ := hF.sb
        have lo := hF.lo
        have hi := hF.hi
        have O1 := hide ((unhide HG).g1.row (by rw [rA_len]; unfold maxLen; omega))
        have O2 := hide ((unhide HG).g2.row (by rw [rA_len]; unfold maxLen; omega))
        have O3 := hide ((unhide HG).g3.row (by rw [rC_len]; unfold maxLen; omega))
        have O4 := hide ((unhide HG).g4.row (by rw [rD_len]; unfold maxLen; omega))
        obtain ⟨a', c', hu⟩ := row_slice (unhide O1)
        rw [rA_len] at hu
        subst hu
        have HB2 := hide (below_via (unhide HB) (unhide HG).g1.below)
        clear HB HG hR hS hl hm hF d1 d2 hlt hk
        generalize worth R (rA l k) = p at *
        generalize worth R (rA m k) = q at *
        generalize worth R (rC l m k) = s at *
        generalize rA l k = L1 at *
        generalize rA m k = L2 at *
        generalize rC l m k = L3 at *
        generalize rD l k = L4 at *
        have j1 : IntKind.i64.wrap (-p) = -p := by rw [IntKind.wrap_i64]; omega
        have j2 : (-p != -p) = false := by simp
        have j3 : decide (s - p - q ≤ 2 * (k : Int)) = true := decide_eq_true hi
        have j4 : decide (-2 * (k : Int) ≤ s - p - q) = true := decide_eq_true (by omega)
        unfold NowA at H1 H2 H3 H5
        go_wp2_with fail
        refine (unhide H1 _ _ (unhide O1)).mono ?_
        rintro e w2 ⟨rfl, hb⟩
        replace O2 := hide ((unhide O2).below hb (Nat.le_refl _))
        replace O3 := hide ((unhide O3).below hb (Nat.le_refl _))
        replace O4 := hide ((unhide O4).below hb (Nat.le_refl _))
        replace HB2 := hide (below_via (unhide HB2) hb)
        clear hb H1 O1
        go_wp2_with fail
        refine (unhide H2 _ _ (unhide O2)).mono ?_
        rintro e w3 ⟨rfl, hb⟩
        replace O3 := hide ((unhide O3).below hb (Nat.le_refl _))
        replace O4 := hide ((unhide O4).below hb (Nat.le_refl _))
        replace HB2 := hide (below_via (unhide HB2) hb)
        clear hb H2 O2
        go_wp2_with fail
        refine (unhide H3 _ _ (unhide O3)).mono ?_
        rintro e w4 ⟨rfl, hb⟩
        replace O4 := hide ((unhide O4).below hb (Nat.le_refl _))
        replace HB2 := hide (below_via (unhide HB2) hb)
        clear hb H3 O3
        go_wp2_with fail
        refine (unhide H5 _ _ (unhide O4)).mono ?_
        rintro e w5 ⟨rfl, hb⟩
        replace HB2 := hide (below_via (unhide HB2) hb)
        clear hb H5 O4
        go_wp2_with fail
        go_ret
        exact ⟨rfl, unhide HB2⟩
theorem walk (a0 : Option Addr) (l0 c0 : Nat) (l : List Int) (a1 : Option Addr) (m0 c1 : Nat) (m : List Int) (r : Int) (w : World) (h0 : Row w (.slice a0 l0 c0) l) (_hc0 : l0 ≤ c0) (h1 : Row w (.slice a1 m0 c1) m) (_hc1 : m0 ≤ c1) (_h2 : (Lit.int .i64 r).wf = true) : Calls Try.prog 6 #[.slice a0 l0 c0, .slice a1 m0 c1, .int .i64 r] w fun e w' => e = .returned (.bool true) ∧ Below w.heap.size w w' := by
  have hal := hide alive_any
  by_cases q : (60 : Int) < (l0 : Int)
  · exact s_long1 a0 l0 c0 a1 m0 c1 r (decide_eq_true q) hal w
  · by_cases q2 : (60 : Int) < (m0 : Int)
    · exact s_long2 a0 l0 c0 a1 m0 c1 r (decide_eq_false q) (decide_eq_true q2) hal w
    · by_cases q3 : (l0 : Int) ≤ (m0 : Int)
      · exact s_one a0 l0 c0 l a1 m0 c1 m r (decide_eq_false q) (decide_eq_false q2) q3 hal w (hide h0) (hide h1)
      · exact s_two a0 l0 c0 l a1 m0 c1 m r (decide_eq_false q) (decide_eq_false q2) q3 hal w (hide h0) (hide h1)
theorem own : ownKnob Try.prog.godebug = none := by kernel_rfl
theorem laidOut : laidOutB Try.prog = true := by kernel_rfl
set_option linter.unusedVariables false in
set_option maxRecDepth 100000 in
theorem lifted (os : Os) (started : os.Started) (H : Type) (enc : TypeId × Value → H) :
    ReturnsInHanded {} Try.checked os 6 .any (Rows.valueAddsSpec.pre6 enc Try.prog Try.f6 Rows.valueAddsRow.domain false) (Rows.valueAddsSpec.post enc Try.prog Try.f6 false true false false) := by
  refine returnsInHanded_of_change (C := Try.checked) own started (by kernel_rfl) Try.func6
    (ChangeSpec.witness6 (enc := enc) (C := Try.checked) false ⟨#[], #[.slice none 0 0, .slice none 0 0, .int .i64 0], []⟩ 8 (by kernel_rfl) (by kernel_rfl) (by kernel_rfl) (by kernel_rfl)) ?_
  intro W base args ds gs before hval0 hW hcnd _
  have hval : ∀ (j : Nat) t v, Try.f6.params[j]? = some t → args[j]? = some v → Value.okWide Try.prog W .any base t v := hval0
  have hW' := hW
  obtain ⟨p, q, hA0, hV, rfl, hfz, hnd⟩ := hW
  have hA : DataW.TrodAll enc Try.prog W 0 (fun _ => true) true Try.f6.params.toList args.toList ds p := hA0
  rw [Try.params6] at hA hval
  obtain ⟨v0, vs0, d0, ds0, p0, q0, hargs, rfl, rfl, h0, r0⟩ := trodAll_cons hA
  obtain ⟨v1, vs1, d1, ds1, p1, q1, rfl, rfl, rfl, h1, r1⟩ := trodAll_cons r0
  obtain ⟨v2, vs2, d2, ds2, p2, q2, rfl, rfl, rfl, h2, r2⟩ := trodAll_cons r1
  obtain ⟨rfl, rfl, rfl⟩ := trodAll_nil r2
  obtain rfl : args = #[v0, v1, v2] := by cases args; simp_all
  obtain ⟨rfl, rfl⟩ := trodVars_none hV
  obtain ⟨a0, len0, cap0, rfl⟩ := okWide_slice Try.underlying22 (hval 0 22 v0 rfl rfl)
  have k0 := h0
  have lt0 : ∀ x ∈ p0, x.block < W.heap.size := by obtain ⟨m, hm⟩ := k0; exact DataW.trod_lt m _ _ _ hm
  obtain ⟨z0, w0, cc0⟩ : ∃ zs : List Int, Row W (.slice a0 len0 cap0) zs ∧ len0 ≤ cap0 := by
    obtain ⟨fuel, hf⟩ := h0
    rcases open_ints Try.underlying22 Try.underlying2 (by kernel_rfl) hf with ⟨hcs, _⟩ | ⟨x, l, c, zs, hcs, _, hl, hm, hz, _, hcell, hwz⟩
    · simp [Value.cells] at hcs
      obtain ⟨rfl, rfl, rfl⟩ := hcs
      exact ⟨[], .inl ⟨_, _, rfl, rfl⟩, Nat.le_refl _⟩
    · simp [Value.cells] at hcs
      obtain ⟨rfl, rfl, rfl⟩ := hcs
      obtain ⟨ys, hy⟩ := row_open hl hm (by simpa using hz) hcell hwz
      exact ⟨ys, hy, hl⟩
  obtain ⟨a1, len1, cap1, rfl⟩ := okWide_slice Try.underlying22 (hval 1 22 v1 rfl rfl)
  have k1 := h1
  have lt1 : ∀ x ∈ p1, x.block < W.heap.size := by obtain ⟨m, hm⟩ := k1; exact DataW.trod_lt m _ _ _ hm
  obtain ⟨z1, w1, cc1⟩ : ∃ zs : List Int, Row W (.slice a1 len1 cap1) zs ∧ len1 ≤ cap1 := by
    obtain ⟨fuel, hf⟩ := h1
    rcases open_ints Try.underlying22 Try.underlying2 (by kernel_rfl) hf with ⟨hcs, _⟩ | ⟨x, l, c, zs, hcs, _, hl, hm, hz, _, hcell, hwz⟩
    · simp [Value.cells] at hcs
      obtain ⟨rfl, rfl, rfl⟩ := hcs
      exact ⟨[], .inl ⟨_, _, rfl, rfl⟩, Nat.le_refl _⟩
    · simp [Value.cells] at hcs
      obtain ⟨rfl, rfl, rfl⟩ := hcs
      obtain ⟨ys, hy⟩ := row_open hl hm (by simpa using hz) hcell hwz
      exact ⟨ys, hy, hl⟩
  obtain ⟨a2, rfl, rfl, rfl, w2⟩ := open_int Try.underlying2 (hval 2 2 v2 rfl rfl) h2
  clear hA0 hval0
  refine (walk a0 len0 cap0 z0 a1 len1 cap1 z1 a2 W w0 cc0 w1 cc1 w2).mono fun e W' ⟨he, bel⟩ => ?_
  subst he
  exact ⟨_, rfl, _, _, _, [], _, [], hW', trodAll_mk1 (shut_bool Try.underlying4 _), (trodAll_cons_mk (Below.trod laidOut (by kernel_rfl) (of_decide_eq_true (by kernel_rfl)) k0 bel lt0) (trodAll_cons_mk (Below.trod laidOut (by kernel_rfl) (of_decide_eq_true (by kernel_rfl)) k1 bel lt1) (trodAll_cons_mk (shut_int Try.underlying2 w2) trodAll_mk0))), rfl, bel.frame _, fun h => by cases h⟩
theorem over : Rows.valueAddsRow.holds Try.pinned (OpenSpec.ofChange Rows.valueAddsSpec) :=
  OpenClaim.holds_of_wide 6 Try.f6 rfl rfl rfl rfl rfl rfl rfl ⟨rfl, rfl, rfl, rfl, rfl⟩ rfl rfl rfl rfl rfl (by kernel_rfl) Try.func6 (by kernel_rfl)
    (of_decide_eq_true (by kernel_rfl)) (by unfold Func.isWrapper; first | (rw [if_pos (by decide +kernel)]; kernel_rfl) | (rw [if_neg (by decide +kernel)]; exact ⟨rfl, rfl⟩))
    (fun os started H enc _ => lifted os started H enc)
/-- The statement. -/
theorem proved : Rows.ValueAddsSaid := over
#print axioms proved
end Go.Proofs.Ytpncdjejngkpgaa.Mn.valueAdds
namespace Go.Proofs.Ytpncdjejngkpgaa
theorem valueAdds_holds : Rows.ValueAddsSaid := Mn.valueAdds.proved
end Go.Proofs.Ytpncdjejngkpgaa
