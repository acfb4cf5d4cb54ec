/- Proved here: ValueLater: of a later start amounts are worth what All tells there, and each worth is the next one's with its amount, discounted. No condition. -/
import Derived.Test.YtpncdjejngkpgaaVFacts
import Derived.Below
namespace Go.Proofs.Ytpncdjejngkpgaa.Mn.valueLater
open Go.ChangeShapes Go.WideShapes Go.ChangeAt Go.RowKit
set_option linter.unusedSimpArgs false
theorem s_long (a0 : Option Addr) (l0 c0 : Nat) (r : Int) (n : Nat) (d1 : decide ((100 : Int) < (l0 : Int)) = true) (hal : Hid Alive) (w : World) : Calls Try.prog 5 #[.slice a0 l0 c0, .int .i64 r, .int .u8 (n : Int)] w fun e w' => e = .returned (.bool true) ∧ Below w.heap.size w w' := by
  go_enter Try.func5, Try.ntmps5
  go_wp2_with fail
  refine (unhide hal _).mono ?_
  rintro e w1 ⟨rfl, hb⟩
  replace hb := hide hb
  go_wp2_with fail
  go_ret
  exact ⟨rfl, unhide hb⟩
theorem s_err (a0 : Option Addr) (l0 c0 : Nat) (z0 : List Int) (r : Int) (n : Nat) (d1 : decide ((100 : Int) < (l0 : Int)) = false) (hal : Hid Alive) (w : World) (hR : Hid (Row w (.slice a0 l0 c0) z0)) (he : valE 1 z0 r ≠ 0) : Calls Try.prog 5 #[.slice a0 l0 c0, .int .i64 r, .int .u8 (n : Int)] w fun e w' => e = .returned (.bool true) ∧ Below w.heap.size w w' := by
  have hE : (valE 1 z0 r != 0) = true := by simpa using he
  have HA : Hid (∀ w', Row w' (.slice a0 l0 c0) z0 → Calls Try.prog 9 #[.slice a0 l0 c0, .int .i64 r] w' fun z w2 => ∃ u c, z = .returned (.tuple #[.slice u 0 c, .int .i64 (valE 1 z0 r)]) ∧ Below w'.heap.size w' w2) := hide (fun w' h => (all_any r h).mono fun e w2 ⟨v, h1, h2, h3⟩ => by
    rw [valL1_no he] at h2
    obtain ⟨a, c, rfl⟩ := row_slice h2
    exact ⟨a, c, h1, h3⟩)
  clear he
  generalize valE 1 z0 r = E at *
  go_enter Try.func5, Try.ntmps5
  go_wp2_with fail
  refine (unhide hal _).mono ?_
  rintro e w1 ⟨rfl, hb⟩
  replace hR := hide ((unhide hR).below hb (Nat.le_refl _))
  have HB := hide hb
  clear hb
  go_wp2_with fail
  refine (unhide HA _ (unhide hR)).mono ?_
  rintro e w2 ⟨u, c, rfl, hb⟩
  replace HB := hide (below_via (unhide HB) hb)
  clear hb
  go_wp2_with fail
  go_ret
  exact ⟨rfl, unhide HB⟩
set_option maxHeartbeats 1000000 in
theorem s_none (a0 : Option Addr) (c0 : Nat) (r : Int) (n : Nat) (hal : Hid Alive) (w : World) (he : valE 1 [] r = 0) : Calls Try.prog 5 #[.slice a0 0 c0, .int .i64 r, .int .u8 (n : Int)] w fun e w' => e = .returned (.bool true) ∧ Below w.heap.size w w' := by
  have HA : Hid (∀ w', Calls Try.prog 9 #[.slice a0 0 c0, .int .i64 r] w' fun z w2 => ∃ b o c, z = .returned (.tuple #[.slice (some ⟨b, o, none⟩) 1 c, .int .i64 0]) ∧ w2.cell? ⟨b, o, none⟩ = some (.int .i64 0) ∧ Below w'.heap.size w' w2) := hide (fun w' => (all_any r (l := []) (Or.inl ⟨a0, c0, rfl, rfl⟩)).mono fun e w2 ⟨v, h1, h2, h3⟩ => by
    rw [he] at h1
    rw [valL1 he] at h2
    obtain ⟨b, o, c, rfl⟩ := row_open' h2 (show 0 < 1 by decide)
    have := row_cell h2 (j := 0) (show 0 < 1 by decide)
    exact ⟨b, o, c, h1, this, h3⟩)
  have HO : Hid (∀ (a : Option Addr) (c : Nat) (w' : World), NowA 11 w' #[.slice a 0 c, .int .i64 r] 0 0) := hide (fun a c w' => by
    have := of_any r (l := []) (w := w') (v := .slice a 0 c) (Or.inl ⟨a, c, rfl, rfl⟩)
    rwa [valN1 he, he] at this)
  unfold NowA at HO
  clear he
  go_enter Try.func5, Try.ntmps5
  go_wp2_with fail
  refine (unhide hal _).mono ?_
  rintro e w1 ⟨rfl, hb⟩
  have HB := hide hb
  clear hb
  go_wp2_with fail
  refine (unhide HA _).mono ?_
  rintro e w2 ⟨b, o, c, rfl, ca, hb⟩
  replace HB := hide (below_via (unhide HB) hb)
  clear hb
  go_wp2_with fail
  refine (unhide HO _ _ _).mono ?_
  rintro e w3 ⟨rfl, hb⟩
  replace ca := (hb.cell (p := ⟨b, o, none⟩) (lt_of_cell ca)).trans ca
  replace HB := hide (below_via (unhide HB) hb)
  clear hb
  go_wp2_with fail
  refine wp_loop_rounds 1 ?_
  rw [rounds_succ]
  go_wp2_with fail
  go_ret
  exact ⟨rfl, unhide HB⟩
set_option maxHeartbeats 2000000 in
theorem s_far (b off l0 c0 : Nat) (z0 : List Int) (r : Int) (n : Nat) (d1 : decide ((100 : Int) < (l0 : Int)) = false) (hn : (n : Int) ≤ 255) (h0 : 0 < l0) (hal : Hid Alive) (w : World) (hR : Hid (Row w (.slice (some ⟨b, off, none⟩) l0 c0) z0)) (he : valE 1 z0 r = 0) (hne : ¬ c0 = n % (l0 + 1)) : Calls Try.prog 5 #[.slice (some ⟨b, off, none⟩) l0 c0, .int .i64 r, .int .u8 (n : Int)] w fun e w' => e = .returned (.bool true) ∧ Below w.heap.size w w' := by
  have hl := row_len (unhide hR)
  have HA : Hid (∀ w', Row w' (.slice (some ⟨b, off, none⟩) l0 c0) z0 → Calls Try.prog 9 #[.slice (some ⟨b, off, none⟩) l0 c0, .int .i64 r] w' fun z w2 => ∃ vb vo vc, z = .returned (.tuple #[.slice (some ⟨vb, vo, none⟩) (l0 + 1) vc, .int .i64 0]) ∧ Row w2 (.slice (some ⟨vb, vo, none⟩) (l0 + 1) vc) (worths r z0) ∧ Below w'.heap.size w' w2) := hide (fun w' h => (all_any r h).mono fun e w2 ⟨v, h1, h2, h3⟩ => by
    rw [he] at h1
    rw [valL1 he] at h2
    obtain ⟨b, o, c, rfl⟩ := row_open' h2 (by rw [worths_len]; omega)
    rw [worths_len, ← hl] at h1 h2
    exact ⟨b, o, c, h1, h2, h3⟩)
  obtain ⟨K, hK⟩ : ∃ K, n % (l0 + 1) = K := ⟨_, rfl⟩
  rw [hK] at hne
  have hKl : K ≤ l0 := by rw [← hK]; have := Nat.mod_lt n (show l0 + 1 > 0 by omega); omega
  have hT : (n : Int) % ((l0 : Int) + 1) = (K : Int) := by
    have e := Int.natCast_emod n (l0 + 1)
    rw [hK] at e
    exact e.symm
  have k1 : (0 : Int) ≤ (K : Int) := by omega
  have k2 : (K : Int) ≤ (l0 : Int) := by omega
  have k3 : (l0 : Int) ≤ 100 := by have := of_decide_eq_false d1; omega
  obtain ⟨Q, hQ⟩ : ∃ Q, worth r (z0.drop K) = Q := ⟨_, rfl⟩
  have HO : Hid (∀ w' v, Row w' v (z0.drop K) → NowA 11 w' #[v, .int .i64 r] Q 0) := hide (fun w' v h => by
    have := of_any r h
    rwa [valN1 (valE1_drop he K), valE1_drop he K, hQ] at this)
  have HQ := hide hQ
  clear hQ
  have HD := hide (fun k (hk : k < z0.length) => disc_at he hk)
  have HWl := hide (worths_get r z0)
  have HWn := hide (worths_len r z0)
  have HWe := hide (worths_last r z0)
  unfold NowA at HO
  unfold Ans at HD
  clear he hK
  rw [← hl] at HD HWl HWn HWe
  have Hl := hide hl
  clear hl
  go_enter Try.func5, Try.ntmps5
  go_wp2_with fail
  refine (unhide hal _).mono ?_
  rintro e w1 ⟨rfl, hb⟩
  replace hR := hide ((unhide hR).below hb (Nat.le_refl _))
  have HB := hide hb
  clear hb
  go_wp2_with fail
  refine (unhide HA _ (unhide hR)).mono ?_
  rintro e w2 ⟨vb, vo, vc, rfl, hv, hb⟩
  replace hR := hide ((unhide hR).below hb (Nat.le_refl _))
  have HV := hide hv
  replace HB := hide (below_via (unhide HB) hb)
  clear hb hv HA
  go_wp2_with fail
  refine (unhide HO _ _ (row_drop (unhide hR) hKl)).mono ?_
  rintro e w3 ⟨rfl, hb⟩
  replace hR := hide ((unhide hR).below hb (Nat.le_refl _))
  replace HV := hide ((unhide HV).below hb (Nat.le_refl _))
  replace HB := hide (below_via (unhide HB) hb)
  clear hb
  have vK := row_cell (unhide HV) (j := K) (by rw [unhide HWn]; omega)
  rw [unhide HWl K (by omega), unhide HQ] at vK
  have vq : (Q != Q) = false := by simp
  have k4 : (K : Int) < (l0 : Int) + 1 := by omega
  have k5 : K < l0 + 1 := by omega
  have vE := row_cell (unhide HV) (j := l0) (by rw [unhide HWn]; omega)
  rw [unhide HWe] at vE
  clear HO HWe
  have hb0 : b < w3.heap.size := lt_of_cell (row_cell (unhide hR) (j := 0) (by rw [← unhide Hl]; exact h0))
  go_wp2_with fail
  clear vK vq k1 k2 k4 k5 hT hKl hne vE
  go_loopw [73] (fun i wr => ∃ k : Nat, k ≤ l0 ∧ i = .int .i64 k ∧ Hid (Row wr (.slice (some ⟨b, off, none⟩) l0 c0) z0) ∧ Hid (Row wr (.slice (some ⟨vb, vo, none⟩) (l0 + 1) vc) (worths r z0)) ∧ Hid (Below w.heap.size w wr)) (fun i _ => l0 - (intOf i).toNat)
  case atStart => exact ⟨0, Nat.zero_le _, rfl, hR, HV, HB⟩
  case round =>
    clear hR HV HB hb0
    obtain ⟨k, hk, rfl, hR, HV, HB⟩ := hrel
    by_cases hlt : k < l0
    · have cx := row_cell (unhide hR) (j := k) (by rw [← unhide Hl]; exact hlt)
      have cn := row_cell (unhide HV) (j := k + 1) (by rw [unhide HWn]; omega)
      rw [unhide HWl (k + 1) (by omega)] at cn
      have ch := row_cell (unhide HV) (j := k) (by rw [unhide HWn]; omega)
      rw [unhide HWl k (by omega)] at ch
      obtain ⟨hs, hd⟩ := unhide HD k hlt
      have HC := hide hd
      clear hd
      generalize worth r (z0.drop (k + 1)) = t at *
      generalize worth r (z0.drop k) = q at *
      generalize z0.getD k 0 = x at *
      have i0 : IntKind.i64.wrap (t + x) = t + x := by
        have h1 := hs.lo
        have h2 := hs.hi
        rw [IntKind.wrap_i64]; omega
      have i1 : (0 : Int) ≤ (k : Int) := by omega
      have i2 : (k : Int) < (l0 : Int) := by omega
      have i3 : (0 : Int) ≤ (k : Int) + 1 := by omega
      have i4 : (k : Int) + 1 < (l0 : Int) + 1 := by omega
      have i5 : IntKind.i64.wrap ((k : Int) + 1) = (k : Int) + 1 := by rw [IntKind.wrap_i64]; omega
      have i6 : k + 1 < l0 + 1 := by omega
      have i7 : (k : Int) < (l0 : Int) + 1 := by omega
      have i8 : k < l0 + 1 := by omega
      have i9 : (q != q) = false := by simp
      clear hs
      go_wp2_with fail
      go_region_held3 (fun w' => w'.cell? ⟨vb, vo + (k + 1), none⟩ = some (.int .i64 t) ∧ w'.cell? ⟨b, off + k, none⟩ = some (.int .i64 x) ∧ w'.cell? ⟨vb, vo + k, none⟩ = some (.int .i64 q) ∧ Hid (Row w' (.slice (some ⟨b, off, none⟩) l0 c0) z0) ∧ Hid (Row w' (.slice (some ⟨vb, vo, none⟩) (l0 + 1) vc) (worths r z0)) ∧ Hid (Below w.heap.size w w'))
        (first
          | exact ⟨(hb.cell (p := ⟨vb, vo + (k + 1), none⟩) (lt_of_cell cn)).trans cn, (hb.cell (p := ⟨b, off + k, none⟩) (lt_of_cell cx)).trans cx, (hb.cell (p := ⟨vb, vo + k, none⟩) (lt_of_cell ch)).trans ch, hide ((unhide hR).drew.below hb (Nat.le_refl _)), hide ((unhide HV).drew.below hb (Nat.le_refl _)), hide (below_via (below_drew (unhide HB)) hb)⟩
          | exact ⟨cn, cx, ch, hR, HV, HB⟩
          | exact ⟨cn, cx, ch, hide (unhide hR).drew, hide (unhide HV).drew, hide (below_drew (unhide HB))⟩)
        ((go_at_call 18; refine (unhide HC _).mono ?_; rintro e w4 ⟨rfl, hb⟩))
      rename_i hH
      obtain ⟨_, _, c1, gR, gV, gB⟩ := hH
      clear hR HV HB hb HC cx cn ch
      go_wp2_with fail
      go_roundw
      case rel => exact ⟨k + 1, by omega, by go_num, gR, gV, gB⟩
      case measure => simp [intOf]; omega
    · have hk2 : k = l0 := by omega
      subst hk2
      go_wp2_with fail
      go_ret
      exact ⟨rfl, unhide HB⟩
set_option maxHeartbeats 2000000 in
theorem s_cap (b off l0 : Nat) (z0 : List Int) (r : Int) (n : Nat) (d1 : decide ((100 : Int) < (l0 : Int)) = false) (hn : (n : Int) ≤ 255) (h0 : 0 < l0) (hal : Hid Alive) (w : World) (hR : Hid (Row w (.slice (some ⟨b, off, none⟩) l0 l0) z0)) (he : valE 1 z0 r = 0) (hK : n % (l0 + 1) = l0) : Calls Try.prog 5 #[.slice (some ⟨b, off, none⟩) l0 l0, .int .i64 r, .int .u8 (n : Int)] w fun e w' => e = .returned (.bool true) ∧ Below w.heap.size w w' := by
  have hl := row_len (unhide hR)
  have HA : Hid (∀ w', Row w' (.slice (some ⟨b, off, none⟩) l0 l0) z0 → Calls Try.prog 9 #[.slice (some ⟨b, off, none⟩) l0 l0, .int .i64 r] w' fun z w2 => ∃ vb vo vc, z = .returned (.tuple #[.slice (some ⟨vb, vo, none⟩) (l0 + 1) vc, .int .i64 0]) ∧ Row w2 (.slice (some ⟨vb, vo, none⟩) (l0 + 1) vc) (worths r z0) ∧ Below w'.heap.size w' w2) := hide (fun w' h => (all_any r h).mono fun e w2 ⟨v, h1, h2, h3⟩ => by
    rw [he] at h1
    rw [valL1 he] at h2
    obtain ⟨b, o, c, rfl⟩ := row_open' h2 (by rw [worths_len]; omega)
    rw [worths_len, ← hl] at h1 h2
    exact ⟨b, o, c, h1, h2, h3⟩)
  have hT : (n : Int) % ((l0 : Int) + 1) = (l0 : Int) := by
    have e := Int.natCast_emod n (l0 + 1)
    rw [hK] at e
    exact e.symm
  have k1 : (0 : Int) ≤ (l0 : Int) := by omega
  have k2 : (l0 : Int) ≤ (l0 : Int) := by omega
  have k3 : (l0 : Int) ≤ 100 := by have := of_decide_eq_false d1; omega
  have HO : Hid (∀ w' v, Row w' v (z0.drop l0) → NowA 11 w' #[v, .int .i64 r] 0 0) := hide (fun w' v h => by
    have := of_any r h
    have e : worth r (z0.drop l0) = 0 := by rw [List.drop_eq_nil_of_le (by omega)]; rfl
    rwa [valN1 (valE1_drop he l0), valE1_drop he l0, e] at this)
  have HD := hide (fun k (hk : k < z0.length) => disc_at he hk)
  have HWl := hide (worths_get r z0)
  have HWn := hide (worths_len r z0)
  have HWe := hide (worths_last r z0)
  unfold NowA at HO
  unfold Ans at HD
  clear he hK
  rw [← hl] at HD HWl HWn HWe
  have Hl := hide hl
  clear hl
  go_enter Try.func5, Try.ntmps5
  go_wp2_with fail
  refine (unhide hal _).mono ?_
  rintro e w1 ⟨rfl, hb⟩
  replace hR := hide ((unhide hR).below hb (Nat.le_refl _))
  have HB := hide hb
  clear hb
  go_wp2_with fail
  refine (unhide HA _ (unhide hR)).mono ?_
  rintro e w2 ⟨vb, vo, vc, rfl, hv, hb⟩
  replace hR := hide ((unhide hR).below hb (Nat.le_refl _))
  have HV := hide hv
  replace HB := hide (below_via (unhide HB) hb)
  clear hb hv HA
  go_wp2_with fail
  refine (unhide HO _ _ (row_end _ _ (by rw [← unhide Hl]; exact Nat.le_refl _))).mono ?_
  rintro e w3 ⟨rfl, hb⟩
  replace hR := hide ((unhide hR).below hb (Nat.le_refl _))
  replace HV := hide ((unhide HV).below hb (Nat.le_refl _))
  replace HB := hide (below_via (unhide HB) hb)
  clear hb
  have vE := row_cell (unhide HV) (j := l0) (by rw [unhide HWn]; omega)
  rw [unhide HWe] at vE
  clear HO HWe
  have hb0 : b < w3.heap.size := lt_of_cell (row_cell (unhide hR) (j := 0) (by rw [← unhide Hl]; exact h0))
  go_wp2_with fail
  clear k1 k2 hT vE
  go_loopw [73] (fun i wr => ∃ k : Nat, k ≤ l0 ∧ i = .int .i64 k ∧ Hid (Row wr (.slice (some ⟨b, off, none⟩) l0 l0) z0) ∧ Hid (Row wr (.slice (some ⟨vb, vo, none⟩) (l0 + 1) vc) (worths r z0)) ∧ Hid (Below w.heap.size w wr)) (fun i _ => l0 - (intOf i).toNat)
  case atStart => exact ⟨0, Nat.zero_le _, rfl, hR, HV, HB⟩
  case round =>
    clear hR HV HB hb0
    obtain ⟨k, hk, rfl, hR, HV, HB⟩ := hrel
    by_cases hlt : k < l0
    · have cx := row_cell (unhide hR) (j := k) (by rw [← unhide Hl]; exact hlt)
      have cn := row_cell (unhide HV) (j := k + 1) (by rw [unhide HWn]; omega)
      rw [unhide HWl (k + 1) (by omega)] at cn
      have ch := row_cell (unhide HV) (j := k) (by rw [unhide HWn]; omega)
      rw [unhide HWl k (by omega)] at ch
      obtain ⟨hs, hd⟩ := unhide HD k hlt
      have HC := hide hd
      clear hd
      generalize worth r (z0.drop (k + 1)) = t at *
      generalize worth r (z0.drop k) = q at *
      generalize z0.getD k 0 = x at *
      have i0 : IntKind.i64.wrap (t + x) = t + x := by
        have h1 := hs.lo
        have h2 := hs.hi
        rw [IntKind.wrap_i64]; omega
      have i1 : (0 : Int) ≤ (k : Int) := by omega
      have i2 : (k : Int) < (l0 : Int) := by omega
      have i3 : (0 : Int) ≤ (k : Int) + 1 := by omega
      have i4 : (k : Int) + 1 < (l0 : Int) + 1 := by omega
      have i5 : IntKind.i64.wrap ((k : Int) + 1) = (k : Int) + 1 := by rw [IntKind.wrap_i64]; omega
      have i6 : k + 1 < l0 + 1 := by omega
      have i7 : (k : Int) < (l0 : Int) + 1 := by omega
      have i8 : k < l0 + 1 := by omega
      have i9 : (q != q) = false := by simp
      clear hs
      go_wp2_with fail
      go_region_held3 (fun w' => w'.cell? ⟨vb, vo + (k + 1), none⟩ = some (.int .i64 t) ∧ w'.cell? ⟨b, off + k, none⟩ = some (.int .i64 x) ∧ w'.cell? ⟨vb, vo + k, none⟩ = some (.int .i64 q) ∧ Hid (Row w' (.slice (some ⟨b, off, none⟩) l0 l0) z0) ∧ Hid (Row w' (.slice (some ⟨vb, vo, none⟩) (l0 + 1) vc) (worths r z0)) ∧ Hid (Below w.heap.size w w'))
        (first
          | exact ⟨(hb.cell (p := ⟨vb, vo + (k + 1), none⟩) (lt_of_cell cn)).trans cn, (hb.cell (p := ⟨b, off + k, none⟩) (lt_of_cell cx)).trans cx, (hb.cell (p := ⟨vb, vo + k, none⟩) (lt_of_cell ch)).trans ch, hide ((unhide hR).drew.below hb (Nat.le_refl _)), hide ((unhide HV).drew.below hb (Nat.le_refl _)), hide (below_via (below_drew (unhide HB)) hb)⟩
          | exact ⟨cn, cx, ch, hR, HV, HB⟩
          | exact ⟨cn, cx, ch, hide (unhide hR).drew, hide (unhide HV).drew, hide (below_drew (unhide HB))⟩)
        ((go_at_call 18; refine (unhide HC _).mono ?_; rintro e w4 ⟨rfl, hb⟩))
      rename_i hH
      obtain ⟨_, _, c1, gR, gV, gB⟩ := hH
      clear hR HV HB hb HC cx cn ch
      go_wp2_with fail
      go_roundw
      case rel => exact ⟨k + 1, by omega, by go_num, gR, gV, gB⟩
      case measure => simp [intOf]; omega
    · have hk2 : k = l0 := by omega
      subst hk2
      go_wp2_with fail
      go_ret
      exact ⟨rfl, unhide HB⟩
theorem walk (a0 : Option Addr) (l0 c0 : Nat) (z0 : List Int) (r at' : Int) (w : World) (h0 : Row w (.slice a0 l0 c0) z0) (hc0 : l0 ≤ c0) (_h1 : (Lit.int .i64 r).wf = true) (h2 : (Lit.int .u8 at').wf = true) : Calls Try.prog 5 #[.slice a0 l0 c0, .int .i64 r, .int .u8 at'] w fun e w' => e = .returned (.bool true) ∧ Below w.heap.size w w' := by
  have hal := hide alive_any
  have hat : 0 ≤ at' ∧ at' ≤ 255 := by
    simp [Lit.wf, IntKind.min, IntKind.max, IntKind.signed, IntKind.bits] at h2
    omega
  obtain ⟨n, rfl⟩ : ∃ n : Nat, at' = (n : Int) := ⟨at'.toNat, by omega⟩
  by_cases q : (100 : Int) < (l0 : Int)
  · exact s_long a0 l0 c0 r n (decide_eq_true q) hal w
  · have d1 := decide_eq_false q
    by_cases he : valE 1 z0 r = 0
    · have hl := row_len h0
      by_cases hz : 0 < l0
      · obtain ⟨b, off, cap, e⟩ := row_open' h0 (by omega)
        injection e with e1 e2 e3
        subst e1
        by_cases hK : c0 = n % (l0 + 1)
        · have := Nat.mod_lt n (show l0 + 1 > 0 by omega)
          obtain rfl : c0 = l0 := by omega
          exact s_cap b off c0 z0 r n d1 hat.2 hz hal w (hide h0) he hK.symm
        · exact s_far b off l0 c0 z0 r n d1 hat.2 hz hal w (hide h0) he hK
      · obtain rfl : l0 = 0 := by omega
        obtain rfl : z0 = [] := List.eq_nil_of_length_eq_zero hl.symm
        exact s_none a0 c0 r n hal w he
    · exact s_err a0 l0 c0 z0 r n d1 hal w (hide h0) he
theorem own : ownKnob Try.prog.godebug = none := by kernel_rfl
theorem laidOut : laidOutB Try.prog = true := by kernel_rfl
set_option linter.unusedVariables false in
set_option maxRecDepth 100000 in
theorem lifted (os : Os) (started : os.Started) (H : Type) (enc : TypeId × Value → H) :
    ReturnsInHanded {} Try.checked os 5 .any (Rows.valueLaterSpec.pre6 enc Try.prog Try.f5 Rows.valueLaterRow.domain false) (Rows.valueLaterSpec.post enc Try.prog Try.f5 false true false false) := by
  refine returnsInHanded_of_change (C := Try.checked) own started (by kernel_rfl) Try.func5
    (ChangeSpec.witness6 (enc := enc) (C := Try.checked) false ⟨#[], #[.slice none 0 0, .int .i64 0, .int .u8 0], []⟩ 8 (by kernel_rfl) (by kernel_rfl) (by kernel_rfl) (by kernel_rfl)) ?_
  intro W base args ds gs before hval0 hW hcnd _
  have hval : ∀ (j : Nat) t v, Try.f5.params[j]? = some t → args[j]? = some v → Value.okWide Try.prog W .any base t v := hval0
  have hW' := hW
  obtain ⟨p, q, hA0, hV, rfl, hfz, hnd⟩ := hW
  have hA : DataW.TrodAll enc Try.prog W 0 (fun _ => true) true Try.f5.params.toList args.toList ds p := hA0
  rw [Try.params5] at hA hval
  obtain ⟨v0, vs0, d0, ds0, p0, q0, hargs, rfl, rfl, h0, r0⟩ := trodAll_cons hA
  obtain ⟨v1, vs1, d1, ds1, p1, q1, rfl, rfl, rfl, h1, r1⟩ := trodAll_cons r0
  obtain ⟨v2, vs2, d2, ds2, p2, q2, rfl, rfl, rfl, h2, r2⟩ := trodAll_cons r1
  obtain ⟨rfl, rfl, rfl⟩ := trodAll_nil r2
  obtain rfl : args = #[v0, v1, v2] := by cases args; simp_all
  obtain ⟨rfl, rfl⟩ := trodVars_none hV
  obtain ⟨a0, len0, cap0, rfl⟩ := okWide_slice Try.underlying22 (hval 0 22 v0 rfl rfl)
  have k0 := h0
  have lt0 : ∀ x ∈ p0, x.block < W.heap.size := by obtain ⟨m, hm⟩ := k0; exact DataW.trod_lt m _ _ _ hm
  obtain ⟨z0, w0, cc0⟩ : ∃ zs : List Int, Row W (.slice a0 len0 cap0) zs ∧ len0 ≤ cap0 := by
    obtain ⟨fuel, hf⟩ := h0
    rcases open_ints Try.underlying22 Try.underlying2 (by kernel_rfl) hf with ⟨hcs, _⟩ | ⟨x, l, c, zs, hcs, _, hl, hm, hz, _, hcell, hwz⟩
    · simp [Value.cells] at hcs
      obtain ⟨rfl, rfl, rfl⟩ := hcs
      exact ⟨[], .inl ⟨_, _, rfl, rfl⟩, Nat.le_refl _⟩
    · simp [Value.cells] at hcs
      obtain ⟨rfl, rfl, rfl⟩ := hcs
      obtain ⟨ys, hy⟩ := row_open hl hm (by simpa using hz) hcell hwz
      exact ⟨ys, hy, hl⟩
  obtain ⟨a1, rfl, rfl, rfl, w1⟩ := open_int Try.underlying2 (hval 1 2 v1 rfl rfl) h1
  obtain ⟨a2, rfl, rfl, rfl, w2⟩ := open_int Try.underlying5 (hval 2 5 v2 rfl rfl) h2
  clear hA0 hval0
  refine (walk a0 len0 cap0 z0 a1 a2 W w0 cc0 w1 w2).mono fun e W' ⟨he, bel⟩ => ?_
  subst he
  exact ⟨_, rfl, _, _, _, [], _, [], hW', trodAll_mk1 (shut_bool Try.underlying4 _), (trodAll_cons_mk (Below.trod laidOut (by kernel_rfl) (of_decide_eq_true (by kernel_rfl)) k0 bel lt0) (trodAll_cons_mk (shut_int Try.underlying2 w1) (trodAll_cons_mk (shut_int Try.underlying5 w2) trodAll_mk0))), rfl, bel.frame _, fun h => by cases h⟩
theorem over : Rows.valueLaterRow.holds Try.pinned (OpenSpec.ofChange Rows.valueLaterSpec) :=
  OpenClaim.holds_of_wide 5 Try.f5 rfl rfl rfl rfl rfl rfl rfl ⟨rfl, rfl, rfl, rfl, rfl⟩ rfl rfl rfl rfl rfl (by kernel_rfl) Try.func5 (by kernel_rfl)
    (of_decide_eq_true (by kernel_rfl)) (by unfold Func.isWrapper; first | (rw [if_pos (by decide +kernel)]; kernel_rfl) | (rw [if_neg (by decide +kernel)]; exact ⟨rfl, rfl⟩))
    (fun os started H enc _ => lifted os started H enc)
/-- The statement. -/
theorem proved : Rows.ValueLaterSaid := over
#print axioms proved
end Go.Proofs.Ytpncdjejngkpgaa.Mn.valueLater
namespace Go.Proofs.Ytpncdjejngkpgaa
theorem valueLater_holds : Rows.ValueLaterSaid := Mn.valueLater.proved
end Go.Proofs.Ytpncdjejngkpgaa
