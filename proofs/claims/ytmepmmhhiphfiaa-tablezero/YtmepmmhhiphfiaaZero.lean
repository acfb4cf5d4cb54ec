/- Proved here: TableZero: at the rate 0 there is no interest but the last one; a table in two parts, the second one from where the first one stands, ends as the whole. No condition. -/
import Derived.Test.YtmepmmhhiphfiaaTFacts
import Derived.Below
namespace Go.Proofs.Ytmepmmhhiphfiaa.Mn.tableZero
open Go.ChangeShapes Go.WideShapes Go.ChangeAt Go.RowKit
set_option linter.unusedSimpArgs false
/-- Block b is the struct, of a number, a slice, a number and a byte. -/
def Zr (w : World) (b : Nat) (o : Int) (v : Value) (r : Int) (T : Nat) : Prop := w.heap[b]? = some (.cells #[.int .i64 o, v, .int .i64 r, .int .u8 (T : Int)] 46 (0, 0))
section
variable {w w' : World} {b : Nat} {o : Int} {v : Value} {r : Int} {T : Nat}
theorem Zr.c0 (h : Zr w b o v r T) : w.cell? ⟨b, 0, none⟩ = some (.int .i64 o) := by rw [cell_of_row w b 0 _ _ _ h]; rfl
theorem Zr.c1 (h : Zr w b o v r T) : w.cell? ⟨b, 1, none⟩ = some v := by rw [cell_of_row w b 1 _ _ _ h]; rfl
theorem Zr.c2 (h : Zr w b o v r T) : w.cell? ⟨b, 2, none⟩ = some (.int .i64 r) := by rw [cell_of_row w b 2 _ _ _ h]; rfl
theorem Zr.c3 (h : Zr w b o v r T) : w.cell? ⟨b, 3, none⟩ = some (.int .u8 (T : Int)) := by rw [cell_of_row w b 3 _ _ _ h]; rfl
theorem Zr.lt (h : Zr w b o v r T) : b < w.heap.size := (Array.getElem?_eq_some_iff.1 h).1
theorem Zr.keep (h : Zr w b o v r T) (hb : Below w.heap.size w w') : Zr w' b o v r T := (hb.block b h.lt).trans h
theorem Zr.new (w : World) (o : Int) (v : Value) (r : Int) (T : Nat) : Zr (w.alloc (.cells #[.int .i64 o, v, .int .i64 r, .int .u8 (T : Int)] 46)) w.heap.size o v r T := heap_alloc_new w _
end
set_option maxHeartbeats 1000000 in
theorem z_long (o : Int) (a0 : Option Addr) (l0 c0 : Nat) (r : Int) (T : Nat) (d1 : decide ((100 : Int) < (l0 : Int)) = true) (hal : Hid Alive) (w : World) : Calls Try.prog 6 #[.agg #[.int .i64 o, .slice a0 l0 c0, .int .i64 r, .int .u8 (T : Int)]] w fun e w' => e = .returned (.bool true) ∧ Below w.heap.size w w' := by
  have HZ := hide (Zr.new w o (.slice a0 l0 c0) r T)
  have HB := hide (below1 w (.cells #[.int .i64 o, .slice a0 l0 c0, .int .i64 r, .int .u8 (T : Int)] 46))
  go_enter Try.func6, Try.ntmps6
  go_wp2_with fail
  refine (unhide hal _).mono ?_
  rintro e w1 ⟨rfl, hb⟩
  replace HZ := hide ((unhide HZ).keep hb)
  replace HB := hide (below_via (unhide HB) hb)
  have c0' := (unhide HZ).c0
  have c1' := (unhide HZ).c1
  have c2' := (unhide HZ).c2
  have c3' := (unhide HZ).c3
  clear hb
  go_wp2_with fail
  go_quiet (fail)
  clear c0' c1' c2' c3'
  obtain ⟨w2, hw2⟩ : ∃ x, x = w1.drewN nq := ⟨_, rfl⟩
  have HB2 : Hid (Below w.heap.size w w2) := hide (by rw [hw2]; exact below_drewN (unhide HB) _)
  rw [← hw2]
  clear hw2 HB HZ
  go_wp2_with fail
  go_ret
  exact ⟨rfl, unhide HB2⟩
set_option maxHeartbeats 1000000 in
theorem z_err0 (o : Int) (a0 : Option Addr) (l0 c0 : Nat) (l : List Int) (r : Int) (T : Nat) (E : Int) (d1 : decide ((100 : Int) < (l0 : Int)) = false) (hal : Hid Alive) (w : World) (HRow : Hid (Row w (.slice a0 l0 c0) l)) (he : E ≠ 0) (hres : Res o l 0 [] E) : Calls Try.prog 6 #[.agg #[.int .i64 o, .slice a0 l0 c0, .int .i64 r, .int .u8 (T : Int)]] w fun e w' => e = .returned (.bool true) ∧ Below w.heap.size w w' := by
  have hE : (E != 0) = true := by simpa using he
  have HA : Hid (∀ w', Row w' (.slice a0 l0 c0) l → Calls Try.prog 8 #[.int .i64 o, .slice a0 l0 c0, .int .i64 0] w' fun z w2 => ∃ u c, z = .returned (.tuple #[.slice u 0 c, .int .i64 E]) ∧ Below w'.heap.size w' w2) := hide (fun w' h => (roll_any h hres).mono fun e w2 ⟨v, h1, h2, h3⟩ => by
    obtain ⟨a, c, rfl⟩ := rowN_slice h2
    exact ⟨a, c, h1, h3⟩)
  clear he hres
  have HZ := hide (Zr.new w o (.slice a0 l0 c0) r T)
  have HB := hide (below1 w (.cells #[.int .i64 o, .slice a0 l0 c0, .int .i64 r, .int .u8 (T : Int)] 46))
  have hR := hide ((unhide HRow).alloc (.cells #[.int .i64 o, .slice a0 l0 c0, .int .i64 r, .int .u8 (T : Int)] 46))
  go_enter Try.func6, Try.ntmps6
  go_wp2_with fail
  refine (unhide hal _).mono ?_
  rintro e w1 ⟨rfl, hb⟩
  replace HZ := hide ((unhide HZ).keep hb)
  replace HB := hide (below_via (unhide HB) hb)
  replace hR := hide ((unhide hR).below hb (Nat.le_refl _))
  have c0' := (unhide HZ).c0
  have c1' := (unhide HZ).c1
  have c2' := (unhide HZ).c2
  have c3' := (unhide HZ).c3
  clear hb
  go_wp2_with fail
  go_quiet (fail)
  clear c0' c1' c2' c3'
  obtain ⟨w2, hw2⟩ : ∃ x, x = w1.drewN nq := ⟨_, rfl⟩
  have HB2 : Hid (Below w.heap.size w w2) := hide (by rw [hw2]; exact below_drewN (unhide HB) _)
  have HR2 : Hid (Row w2 (.slice a0 l0 c0) l) := hide (by rw [hw2]; exact (unhide hR).drewN _)
  rw [← hw2]
  clear hw2 HB HZ
  go_wp2_with fail
  refine (unhide HA _ (unhide HR2)).mono ?_
  rintro e w3 ⟨u, c, rfl, hb⟩
  replace HB2 := hide (below_via (unhide HB2) hb)
  clear hb
  go_wp2_with fail
  go_ret
  exact ⟨rfl, unhide HB2⟩
set_option maxRecDepth 100000 in
set_option maxHeartbeats 4000000 in
theorem z_err1 (o : Int) (ab ao l0 c0 : Nat) (l : List Int) (r : Int) (T : Nat) (d1 : decide ((100 : Int) < (l0 : Int)) = false) (hal : Hid Alive) (w : World) (hl : l.length = l0) (hl0 : 0 < l0) (HRow : Hid (Row w (.slice (some ⟨ab, ao, none⟩) l0 c0) l)) (hk : RollOk o l 0) (ho : ∀ j, j < l.length → ¬ over o 0 l j) (E : Int) (he : E ≠ 0) (hres : Res o l r [] E) : Calls Try.prog 6 #[.agg #[.int .i64 o, .slice (some ⟨ab, ao, none⟩) l0 c0, .int .i64 r, .int .u8 (T : Int)]] w fun e w' => e = .returned (.bool true) ∧ Below w.heap.size w w' := by
  have hE : (E != 0) = true := by simpa using he
  have HA2 : Hid (∀ w', Row w' (.slice (some ⟨ab, ao, none⟩) l0 c0) l → Calls Try.prog 8 #[.int .i64 o, .slice (some ⟨ab, ao, none⟩) l0 c0, .int .i64 r] w' fun z w2 => ∃ u c, z = .returned (.tuple #[.slice u 0 c, .int .i64 E]) ∧ Below w'.heap.size w' w2) := hide (fun w' h => (roll_any h hres).mono fun e w2 ⟨v, h1, h2, h3⟩ => by
    obtain ⟨a, c, rfl⟩ := rowN_slice h2
    exact ⟨a, c, h1, h3⟩)
  clear he hres
  have HA : Hid (∀ w', Row w' (.slice (some ⟨ab, ao, none⟩) l0 c0) l → Calls Try.prog 8 #[.int .i64 o, .slice (some ⟨ab, ao, none⟩) l0 c0, .int .i64 0] w' fun z w2 => ∃ b off c, z = .returned (.tuple #[.slice (some ⟨b, off, none⟩) l0 c, .int .i64 0]) ∧ RowN 4 w2 (.slice (some ⟨b, off, none⟩) l0 c) (rowsUp o 0 l l0) ∧ Below w'.heap.size w' w2) := hide (fun w' h => (roll_any h (Or.inr ⟨hk, Or.inl ⟨rfl, rfl, ho⟩⟩)).mono fun e w2 ⟨v, h1, h2, h3⟩ => by
    rw [hl] at h2
    obtain ⟨b, off, c, rfl, _⟩ := h2.open (by rw [rowsUp_len]; exact hl0)
    rw [rowsUp_len] at h1 h2
    exact ⟨b, off, c, h1, h2, h3⟩)
  have t1 : ((0 : Int) != 0) = false := rfl
  have HL := hide hl
  have HK := hide hk
  have HO := hide ho
  have hl1 : l0 ≤ 100 := by have := of_decide_eq_false d1; omega
  clear hl hk ho
  have HZ := hide (Zr.new w o (.slice (some ⟨ab, ao, none⟩) l0 c0) r T)
  have HB := hide (below1 w (.cells #[.int .i64 o, .slice (some ⟨ab, ao, none⟩) l0 c0, .int .i64 r, .int .u8 (T : Int)] 46))
  have hR := hide ((unhide HRow).alloc (.cells #[.int .i64 o, .slice (some ⟨ab, ao, none⟩) l0 c0, .int .i64 r, .int .u8 (T : Int)] 46))
  go_enter Try.func6, Try.ntmps6
  go_wp2_with fail
  refine (unhide hal _).mono ?_
  rintro e w1 ⟨rfl, hb⟩
  replace HZ := hide ((unhide HZ).keep hb)
  replace HB := hide (below_via (unhide HB) hb)
  replace hR := hide ((unhide hR).below hb (Nat.le_refl _))
  have c0' := (unhide HZ).c0
  have c1' := (unhide HZ).c1
  have c2' := (unhide HZ).c2
  have c3' := (unhide HZ).c3
  clear hb
  go_wp2_with fail
  go_quiet (fail)
  clear c0' c1' c2' c3'
  obtain ⟨w2, hw2⟩ : ∃ x, x = w1.drewN nq := ⟨_, rfl⟩
  have HB2 : Hid (Below w.heap.size w w2) := hide (by rw [hw2]; exact below_drewN (unhide HB) _)
  have HR2 : Hid (Row w2 (.slice (some ⟨ab, ao, none⟩) l0 c0) l) := hide (by rw [hw2]; exact (unhide hR).drewN _)
  rw [← hw2]
  clear hw2 HB HZ
  go_wp2_with fail
  refine (unhide HA _ (unhide HR2)).mono ?_
  rintro e w3 ⟨b, off, c, rfl, hu, hb⟩
  replace HB2 := hide (below_via (unhide HB2) hb)
  replace HR2 := hide ((unhide HR2).below hb (Nat.le_refl _))
  have HU := hide hu
  clear hb hu HA
  go_wp2_with fail
  go_loopw [39] (fun i wr => ∃ k : Nat, k ≤ l0 ∧ i = .int .i64 k ∧ Hid (Below w3.heap.size w3 wr)) (fun i _ => l0 - (intOf i).toNat)
  case atStart => exact ⟨0, Nat.zero_le _, rfl, hide (Below.refl _ _)⟩
  case round =>
    obtain ⟨k, hk, rfl, HW⟩ := hrel
    by_cases hlt : k < l0
    · have HUk := hide ((unhide HU).keep (unhide HW))
      have d0 := (unhide HUk).cells (j := k) (t := 0) (by rw [rowsUp_len]; exact hlt) (by decide)
      have d1 := (unhide HUk).cells (j := k) (t := 1) (by rw [rowsUp_len]; exact hlt) (by decide)
      have d2 := (unhide HUk).cells (j := k) (t := 2) (by rw [rowsUp_len]; exact hlt) (by decide)
      have d3 := (unhide HUk).cells (j := k) (t := 3) (by rw [rowsUp_len]; exact hlt) (by decide)
      rw [Nat.add_zero] at d0
      have HZe : Hid (¬ k + 1 = l0 → getN (rowsUp o 0 l l0) k 1 = 0) := hide (fun h => by
        rw [getN_rows hlt]
        show inr o 0 l k = 0
        rw [inr_mid (by rw [unhide HL]; exact h), qI_zero])
      generalize getN (rowsUp o 0 l l0) k 0 = A at *
      generalize getN (rowsUp o 0 l l0) k 1 = I at *
      generalize getN (rowsUp o 0 l l0) k 2 = P at *
      generalize getN (rowsUp o 0 l l0) k 3 = Cc at *
      have k1 : (k : Int) < (l0 : Int) := by omega
      have HW3 := hide (below_via (unhide HW) (below1 wr (.cells #[.int .i64 A, .int .i64 I, .int .i64 P, .int .i64 Cc] 43)))
      by_cases hla : k + 1 = l0
      · have e5 : decide ((k : Int) < (l0 : Int) - 1) = false := decide_eq_false (by omega)
        clear hla HZe
        go_wp2_with fail
        go_roundw
        case rel => exact ⟨k + 1, by omega, by go_num, HW3⟩
        case measure => simp [intOf]; omega
      · have e5 : decide ((k : Int) < (l0 : Int) - 1) = true := decide_eq_true (by omega)
        have hI := unhide HZe hla
        subst hI
        clear hla HZe
        go_wp2_with fail
        go_roundw
        case rel => exact ⟨k + 1, by omega, by go_num, HW3⟩
        case measure => simp [intOf]; omega
    · have ek : k = l0 := by omega
      subst ek
      replace HB2 := hide (below_via (unhide HB2) (unhide HW))
      replace HR2 := hide ((unhide HR2).below (unhide HW) (Nat.le_refl _))
      clear HU HW
      go_wp2_with fail
      refine (unhide HA2 _ (unhide HR2)).mono ?_
      rintro e w4 ⟨u, c, rfl, hb⟩
      replace HB2 := hide (below_via (unhide HB2) hb)
      clear hb
      go_wp2_with fail
      go_ret
      exact ⟨rfl, unhide HB2⟩
set_option maxRecDepth 100000 in
set_option maxHeartbeats 8000000 in
theorem z_lo (o : Int) (ab ao l0 c0 : Nat) (l : List Int) (r : Int) (T : Nat) (d1 : decide ((100 : Int) < (l0 : Int)) = false) (hal : Hid Alive) (w : World) (hl : l.length = l0) (hl0 : 0 < l0) (HRow : Hid (Row w (.slice (some ⟨ab, ao, none⟩) l0 c0) l)) (hk : RollOk o l 0) (ho : ∀ j, j < l.length → ¬ over o 0 l j) (K : Nat) (hK : T % l0 = K) (hT255 : (T : Int) ≤ 255) (hc0 : l0 ≤ c0) (hk2 : RollOk o l r) (ho2 : ∀ j, j < l.length → ¬ over o r l j) (hx : st o r l K < 1) : Calls Try.prog 6 #[.agg #[.int .i64 o, .slice (some ⟨ab, ao, none⟩) l0 c0, .int .i64 r, .int .u8 (T : Int)]] w fun e w' => e = .returned (.bool true) ∧ Below w.heap.size w w' := by
  have hKl : K < l0 := by rw [← hK]; exact Nat.mod_lt _ hl0
  have hT : (T : Int) % (l0 : Int) = (K : Int) := by
    have e := Int.natCast_emod T l0
    rw [hK] at e
    exact e.symm
  have hcK : ¬ c0 = K := by omega
  have kk1 : (0 : Int) ≤ (K : Int) := by omega
  have kk2 : (K : Int) < (l0 : Int) := by omega
  have kk3 : (K : Int) ≤ (l0 : Int) := by omega
  have kk4 : (l0 : Int) ≤ (c0 : Int) := by omega
  have HA2 : Hid (∀ w', Row w' (.slice (some ⟨ab, ao, none⟩) l0 c0) l → Calls Try.prog 8 #[.int .i64 o, .slice (some ⟨ab, ao, none⟩) l0 c0, .int .i64 r] w' fun z w2 => ∃ b off c, z = .returned (.tuple #[.slice (some ⟨b, off, none⟩) l0 c, .int .i64 0]) ∧ RowN 4 w2 (.slice (some ⟨b, off, none⟩) l0 c) (rowsUp o r l l0) ∧ Below w'.heap.size w' w2) := hide (fun w' h => (roll_any h (Or.inr ⟨hk2, Or.inl ⟨rfl, rfl, ho2⟩⟩)).mono fun e w2 ⟨v, h1, h2, h3⟩ => by
    rw [hl] at h2
    obtain ⟨b, off, c, rfl, _⟩ := h2.open (by rw [rowsUp_len]; exact hl0)
    rw [rowsUp_len] at h1 h2
    exact ⟨b, off, c, h1, h2, h3⟩)
  have hres : Res (st o r l K) (l.drop K) r [] 2 := Or.inl ⟨rfl, rfl, fun c => by have := c.o0; have := c.o1; omega⟩
  have HA3 : Hid (∀ w', Row w' (.slice (some ⟨ab, ao + K, none⟩) (l0 - K) (c0 - K)) (l.drop K) → RollA 8 w' (st o r l K) (.slice (some ⟨ab, ao + K, none⟩) (l0 - K) (c0 - K)) r [] 2) := hide (fun w' h => roll_any h hres)
  unfold RollA at HA3
  have hbd := st_bd hk2 K (fun j hj => ho2 j (by omega))
  have t2 : ((2 : Int) != 0) = true := rfl
  have e7 : decide (st o r l K < 1) = true := decide_eq_true hx
  clear hx hres hk2 ho2 hK
  have HA : Hid (∀ w', Row w' (.slice (some ⟨ab, ao, none⟩) l0 c0) l → Calls Try.prog 8 #[.int .i64 o, .slice (some ⟨ab, ao, none⟩) l0 c0, .int .i64 0] w' fun z w2 => ∃ b off c, z = .returned (.tuple #[.slice (some ⟨b, off, none⟩) l0 c, .int .i64 0]) ∧ RowN 4 w2 (.slice (some ⟨b, off, none⟩) l0 c) (rowsUp o 0 l l0) ∧ Below w'.heap.size w' w2) := hide (fun w' h => (roll_any h (Or.inr ⟨hk, Or.inl ⟨rfl, rfl, ho⟩⟩)).mono fun e w2 ⟨v, h1, h2, h3⟩ => by
    rw [hl] at h2
    obtain ⟨b, off, c, rfl, _⟩ := h2.open (by rw [rowsUp_len]; exact hl0)
    rw [rowsUp_len] at h1 h2
    exact ⟨b, off, c, h1, h2, h3⟩)
  have t1 : ((0 : Int) != 0) = false := rfl
  have HL := hide hl
  have HK := hide hk
  have HO := hide ho
  have hl1 : l0 ≤ 100 := by have := of_decide_eq_false d1; omega
  clear hl hk ho
  have HZ := hide (Zr.new w o (.slice (some ⟨ab, ao, none⟩) l0 c0) r T)
  have HB := hide (below1 w (.cells #[.int .i64 o, .slice (some ⟨ab, ao, none⟩) l0 c0, .int .i64 r, .int .u8 (T : Int)] 46))
  have hR := hide ((unhide HRow).alloc (.cells #[.int .i64 o, .slice (some ⟨ab, ao, none⟩) l0 c0, .int .i64 r, .int .u8 (T : Int)] 46))
  go_enter Try.func6, Try.ntmps6
  go_wp2_with fail
  refine (unhide hal _).mono ?_
  rintro e w1 ⟨rfl, hb⟩
  replace HZ := hide ((unhide HZ).keep hb)
  replace HB := hide (below_via (unhide HB) hb)
  replace hR := hide ((unhide hR).below hb (Nat.le_refl _))
  have c0' := (unhide HZ).c0
  have c1' := (unhide HZ).c1
  have c2' := (unhide HZ).c2
  have c3' := (unhide HZ).c3
  clear hb
  go_wp2_with fail
  go_quiet (fail)
  clear c0' c1' c2' c3'
  obtain ⟨w2, hw2⟩ : ∃ x, x = w1.drewN nq := ⟨_, rfl⟩
  have HB2 : Hid (Below w.heap.size w w2) := hide (by rw [hw2]; exact below_drewN (unhide HB) _)
  have HR2 : Hid (Row w2 (.slice (some ⟨ab, ao, none⟩) l0 c0) l) := hide (by rw [hw2]; exact (unhide hR).drewN _)
  rw [← hw2]
  clear hw2 HB HZ
  go_wp2_with fail
  refine (unhide HA _ (unhide HR2)).mono ?_
  rintro e w3 ⟨b, off, c, rfl, hu, hb⟩
  replace HB2 := hide (below_via (unhide HB2) hb)
  replace HR2 := hide ((unhide HR2).below hb (Nat.le_refl _))
  have HU := hide hu
  clear hb hu HA
  go_wp2_with fail
  go_loopw [39] (fun i wr => ∃ k : Nat, k ≤ l0 ∧ i = .int .i64 k ∧ Hid (Below w3.heap.size w3 wr)) (fun i _ => l0 - (intOf i).toNat)
  case atStart => exact ⟨0, Nat.zero_le _, rfl, hide (Below.refl _ _)⟩
  case round =>
    obtain ⟨k, hk, rfl, HW⟩ := hrel
    by_cases hlt : k < l0
    · have HUk := hide ((unhide HU).keep (unhide HW))
      have d0 := (unhide HUk).cells (j := k) (t := 0) (by rw [rowsUp_len]; exact hlt) (by decide)
      have d1 := (unhide HUk).cells (j := k) (t := 1) (by rw [rowsUp_len]; exact hlt) (by decide)
      have d2 := (unhide HUk).cells (j := k) (t := 2) (by rw [rowsUp_len]; exact hlt) (by decide)
      have d3 := (unhide HUk).cells (j := k) (t := 3) (by rw [rowsUp_len]; exact hlt) (by decide)
      rw [Nat.add_zero] at d0
      have HZe : Hid (¬ k + 1 = l0 → getN (rowsUp o 0 l l0) k 1 = 0) := hide (fun h => by
        rw [getN_rows hlt]
        show inr o 0 l k = 0
        rw [inr_mid (by rw [unhide HL]; exact h), qI_zero])
      generalize getN (rowsUp o 0 l l0) k 0 = A at *
      generalize getN (rowsUp o 0 l l0) k 1 = I at *
      generalize getN (rowsUp o 0 l l0) k 2 = P at *
      generalize getN (rowsUp o 0 l l0) k 3 = Cc at *
      have k1 : (k : Int) < (l0 : Int) := by omega
      have HW3 := hide (below_via (unhide HW) (below1 wr (.cells #[.int .i64 A, .int .i64 I, .int .i64 P, .int .i64 Cc] 43)))
      by_cases hla : k + 1 = l0
      · have e5 : decide ((k : Int) < (l0 : Int) - 1) = false := decide_eq_false (by omega)
        clear hla HZe
        go_wp2_with fail
        go_roundw
        case rel => exact ⟨k + 1, by omega, by go_num, HW3⟩
        case measure => simp [intOf]; omega
      · have e5 : decide ((k : Int) < (l0 : Int) - 1) = true := decide_eq_true (by omega)
        have hI := unhide HZe hla
        subst hI
        clear hla HZe
        go_wp2_with fail
        go_roundw
        case rel => exact ⟨k + 1, by omega, by go_num, HW3⟩
        case measure => simp [intOf]; omega
    · have ek : k = l0 := by omega
      subst ek
      replace HB2 := hide (below_via (unhide HB2) (unhide HW))
      replace HR2 := hide ((unhide HR2).below (unhide HW) (Nat.le_refl _))
      clear HU HW
      go_wp2_with fail
      refine (unhide HA2 _ (unhide HR2)).mono ?_
      rintro e w4 ⟨b2, off2, c2, rfl, hu, hb⟩
      replace HB2 := hide (below_via (unhide HB2) hb)
      replace HR2 := hide ((unhide HR2).below hb (Nat.le_refl _))
      have HU := hide hu
      have d0 := (unhide HU).cells (j := K) (t := 0) (by rw [rowsUp_len]; exact hKl) (by decide)
      rw [Nat.add_zero, getN_rows hKl] at d0
      replace d0 : w4.cell? ⟨b2, off2 + K * 4, none⟩ = some (.int .i64 (st o r l K)) := d0
      have HRd := hide (row_drop (unhide HR2) (Nat.le_of_lt hKl))
      have HRq : Hid (Row w4.drew (.slice (some ⟨ab, ao + K, none⟩) (k - K) (c0 - K)) (l.drop K)) := hide ((unhide HRd).drewN 1)
      clear hb hu HA2
      generalize st o r l K = X at *
      go_wp2_with fail
      go_region_held3 (fun w' => w'.cell? ⟨b2, off2 + K * 4, none⟩ = some (.int .i64 X))
        (first | with_reducible exact dk | exact d0)
        (first
          | (go_at_call 8; refine (unhide HA3 w4.drew (unhide HRq)).mono ?_; rintro e w5 ⟨u, rfl, hu, hb⟩; have dk : w5.cell? ⟨b2, off2 + K * 4, none⟩ = some (.int .i64 X) := (hb.cell (p := ⟨b2, off2 + K * 4, none⟩) (lt_of_cell d0)).trans d0; have HB5 := hide (below_via (below_drewN (unhide HB2) 1) hb); have HU5 := hide (((unhide HU).drewN 1).keep hb); have HV := hide hu; clear hb hu))
      rename_i hH
      clear hH
      go_wp2_with fail
      go_ret
      exact ⟨rfl, unhide HB5⟩
set_option maxRecDepth 100000 in
set_option maxHeartbeats 8000000 in
theorem z_hi (o : Int) (ab ao l0 c0 : Nat) (l : List Int) (r : Int) (T : Nat) (d1 : decide ((100 : Int) < (l0 : Int)) = false) (hal : Hid Alive) (w : World) (hl : l.length = l0) (hl0 : 0 < l0) (HRow : Hid (Row w (.slice (some ⟨ab, ao, none⟩) l0 c0) l)) (hk : RollOk o l 0) (ho : ∀ j, j < l.length → ¬ over o 0 l j) (K : Nat) (hK : T % l0 = K) (hT255 : (T : Int) ≤ 255) (hc0 : l0 ≤ c0) (hk2 : RollOk o l r) (ho2 : ∀ j, j < l.length → ¬ over o r l j) (_hx0 : 1 ≤ st o r l K) (hx : 10000000000000 < st o r l K) : Calls Try.prog 6 #[.agg #[.int .i64 o, .slice (some ⟨ab, ao, none⟩) l0 c0, .int .i64 r, .int .u8 (T : Int)]] w fun e w' => e = .returned (.bool true) ∧ Below w.heap.size w w' := by
  have hKl : K < l0 := by rw [← hK]; exact Nat.mod_lt _ hl0
  have hT : (T : Int) % (l0 : Int) = (K : Int) := by
    have e := Int.natCast_emod T l0
    rw [hK] at e
    exact e.symm
  have hcK : ¬ c0 = K := by omega
  have kk1 : (0 : Int) ≤ (K : Int) := by omega
  have kk2 : (K : Int) < (l0 : Int) := by omega
  have kk3 : (K : Int) ≤ (l0 : Int) := by omega
  have kk4 : (l0 : Int) ≤ (c0 : Int) := by omega
  have HA2 : Hid (∀ w', Row w' (.slice (some ⟨ab, ao, none⟩) l0 c0) l → Calls Try.prog 8 #[.int .i64 o, .slice (some ⟨ab, ao, none⟩) l0 c0, .int .i64 r] w' fun z w2 => ∃ b off c, z = .returned (.tuple #[.slice (some ⟨b, off, none⟩) l0 c, .int .i64 0]) ∧ RowN 4 w2 (.slice (some ⟨b, off, none⟩) l0 c) (rowsUp o r l l0) ∧ Below w'.heap.size w' w2) := hide (fun w' h => (roll_any h (Or.inr ⟨hk2, Or.inl ⟨rfl, rfl, ho2⟩⟩)).mono fun e w2 ⟨v, h1, h2, h3⟩ => by
    rw [hl] at h2
    obtain ⟨b, off, c, rfl, _⟩ := h2.open (by rw [rowsUp_len]; exact hl0)
    rw [rowsUp_len] at h1 h2
    exact ⟨b, off, c, h1, h2, h3⟩)
  have hres : Res (st o r l K) (l.drop K) r [] 2 := Or.inl ⟨rfl, rfl, fun c => by have := c.o0; have := c.o1; omega⟩
  have HA3 : Hid (∀ w', Row w' (.slice (some ⟨ab, ao + K, none⟩) (l0 - K) (c0 - K)) (l.drop K) → RollA 8 w' (st o r l K) (.slice (some ⟨ab, ao + K, none⟩) (l0 - K) (c0 - K)) r [] 2) := hide (fun w' h => roll_any h hres)
  unfold RollA at HA3
  have hbd := st_bd hk2 K (fun j hj => ho2 j (by omega))
  have t2 : ((2 : Int) != 0) = true := rfl
  have e7 : decide (st o r l K < 1) = false := decide_eq_false (by omega)
  have e8 : decide (10000000000000 < st o r l K) = true := decide_eq_true hx
  clear hx _hx0 hres hk2 ho2 hK
  have HA : Hid (∀ w', Row w' (.slice (some ⟨ab, ao, none⟩) l0 c0) l → Calls Try.prog 8 #[.int .i64 o, .slice (some ⟨ab, ao, none⟩) l0 c0, .int .i64 0] w' fun z w2 => ∃ b off c, z = .returned (.tuple #[.slice (some ⟨b, off, none⟩) l0 c, .int .i64 0]) ∧ RowN 4 w2 (.slice (some ⟨b, off, none⟩) l0 c) (rowsUp o 0 l l0) ∧ Below w'.heap.size w' w2) := hide (fun w' h => (roll_any h (Or.inr ⟨hk, Or.inl ⟨rfl, rfl, ho⟩⟩)).mono fun e w2 ⟨v, h1, h2, h3⟩ => by
    rw [hl] at h2
    obtain ⟨b, off, c, rfl, _⟩ := h2.open (by rw [rowsUp_len]; exact hl0)
    rw [rowsUp_len] at h1 h2
    exact ⟨b, off, c, h1, h2, h3⟩)
  have t1 : ((0 : Int) != 0) = false := rfl
  have HL := hide hl
  have HK := hide hk
  have HO := hide ho
  have hl1 : l0 ≤ 100 := by have := of_decide_eq_false d1; omega
  clear hl hk ho
  have HZ := hide (Zr.new w o (.slice (some ⟨ab, ao, none⟩) l0 c0) r T)
  have HB := hide (below1 w (.cells #[.int .i64 o, .slice (some ⟨ab, ao, none⟩) l0 c0, .int .i64 r, .int .u8 (T : Int)] 46))
  have hR := hide ((unhide HRow).alloc (.cells #[.int .i64 o, .slice (some ⟨ab, ao, none⟩) l0 c0, .int .i64 r, .int .u8 (T : Int)] 46))
  go_enter Try.func6, Try.ntmps6
  go_wp2_with fail
  refine (unhide hal _).mono ?_
  rintro e w1 ⟨rfl, hb⟩
  replace HZ := hide ((unhide HZ).keep hb)
  replace HB := hide (below_via (unhide HB) hb)
  replace hR := hide ((unhide hR).below hb (Nat.le_refl _))
  have c0' := (unhide HZ).c0
  have c1' := (unhide HZ).c1
  have c2' := (unhide HZ).c2
  have c3' := (unhide HZ).c3
  clear hb
  go_wp2_with fail
  go_quiet (fail)
  clear c0' c1' c2' c3'
  obtain ⟨w2, hw2⟩ : ∃ x, x = w1.drewN nq := ⟨_, rfl⟩
  have HB2 : Hid (Below w.heap.size w w2) := hide (by rw [hw2]; exact below_drewN (unhide HB) _)
  have HR2 : Hid (Row w2 (.slice (some ⟨ab, ao, none⟩) l0 c0) l) := hide (by rw [hw2]; exact (unhide hR).drewN _)
  rw [← hw2]
  clear hw2 HB HZ
  go_wp2_with fail
  refine (unhide HA _ (unhide HR2)).mono ?_
  rintro e w3 ⟨b, off, c, rfl, hu, hb⟩
  replace HB2 := hide (below_via (unhide HB2) hb)
  replace HR2 := hide ((unhide HR2).below hb (Nat.le_refl _))
  have HU := hide hu
  clear hb hu HA
  go_wp2_with fail
  go_loopw [39] (fun i wr => ∃ k : Nat, k ≤ l0 ∧ i = .int .i64 k ∧ Hid (Below w3.heap.size w3 wr)) (fun i _ => l0 - (intOf i).toNat)
  case atStart => exact ⟨0, Nat.zero_le _, rfl, hide (Below.refl _ _)⟩
  case round =>
    obtain ⟨k, hk, rfl, HW⟩ := hrel
    by_cases hlt : k < l0
    · have HUk := hide ((unhide HU).keep (unhide HW))
      have d0 := (unhide HUk).cells (j := k) (t := 0) (by rw [rowsUp_len]; exact hlt) (by decide)
      have d1 := (unhide HUk).cells (j := k) (t := 1) (by rw [rowsUp_len]; exact hlt) (by decide)
      have d2 := (unhide HUk).cells (j := k) (t := 2) (by rw [rowsUp_len]; exact hlt) (by decide)
      have d3 := (unhide HUk).cells (j := k) (t := 3) (by rw [rowsUp_len]; exact hlt) (by decide)
      rw [Nat.add_zero] at d0
      have HZe : Hid (¬ k + 1 = l0 → getN (rowsUp o 0 l l0) k 1 = 0) := hide (fun h => by
        rw [getN_rows hlt]
        show inr o 0 l k = 0
        rw [inr_mid (by rw [unhide HL]; exact h), qI_zero])
      generalize getN (rowsUp o 0 l l0) k 0 = A at *
      generalize getN (rowsUp o 0 l l0) k 1 = I at *
      generalize getN (rowsUp o 0 l l0) k 2 = P at *
      generalize getN (rowsUp o 0 l l0) k 3 = Cc at *
      have k1 : (k : Int) < (l0 : Int) := by omega
      have HW3 := hide (below_via (unhide HW) (below1 wr (.cells #[.int .i64 A, .int .i64 I, .int .i64 P, .int .i64 Cc] 43)))
      by_cases hla : k + 1 = l0
      · have e5 : decide ((k : Int) < (l0 : Int) - 1) = false := decide_eq_false (by omega)
        clear hla HZe
        go_wp2_with fail
        go_roundw
        case rel => exact ⟨k + 1, by omega, by go_num, HW3⟩
        case measure => simp [intOf]; omega
      · have e5 : decide ((k : Int) < (l0 : Int) - 1) = true := decide_eq_true (by omega)
        have hI := unhide HZe hla
        subst hI
        clear hla HZe
        go_wp2_with fail
        go_roundw
        case rel => exact ⟨k + 1, by omega, by go_num, HW3⟩
        case measure => simp [intOf]; omega
    · have ek : k = l0 := by omega
      subst ek
      replace HB2 := hide (below_via (unhide HB2) (unhide HW))
      replace HR2 := hide ((unhide HR2).below (unhide HW) (Nat.le_refl _))
      clear HU HW
      go_wp2_with fail
      refine (unhide HA2 _ (unhide HR2)).mono ?_
      rintro e w4 ⟨b2, off2, c2, rfl, hu, hb⟩
      replace HB2 := hide (below_via (unhide HB2) hb)
      replace HR2 := hide ((unhide HR2).below hb (Nat.le_refl _))
      have HU := hide hu
      have d0 := (unhide HU).cells (j := K) (t := 0) (by rw [rowsUp_len]; exact hKl) (by decide)
      rw [Nat.add_zero, getN_rows hKl] at d0
      replace d0 : w4.cell? ⟨b2, off2 + K * 4, none⟩ = some (.int .i64 (st o r l K)) := d0
      have HRd := hide (row_drop (unhide HR2) (Nat.le_of_lt hKl))
      have HRq : Hid (Row w4.drew (.slice (some ⟨ab, ao + K, none⟩) (k - K) (c0 - K)) (l.drop K)) := hide ((unhide HRd).drewN 1)
      clear hb hu HA2
      generalize st o r l K = X at *
      go_wp2_with fail
      go_region_held3 (fun w' => w'.cell? ⟨b2, off2 + K * 4, none⟩ = some (.int .i64 X))
        (first | with_reducible exact dk | exact d0)
        (first
          | (go_at_call 8; refine (unhide HA3 w4.drew (unhide HRq)).mono ?_; rintro e w5 ⟨u, rfl, hu, hb⟩; have dk : w5.cell? ⟨b2, off2 + K * 4, none⟩ = some (.int .i64 X) := (hb.cell (p := ⟨b2, off2 + K * 4, none⟩) (lt_of_cell d0)).trans d0; have HB5 := hide (below_via (below_drewN (unhide HB2) 1) hb); have HU5 := hide (((unhide HU).drewN 1).keep hb); have HV := hide hu; clear hb hu))
      rename_i hH
      clear hH
      go_wp2_with fail
      go_ret
      exact ⟨rfl, unhide HB5⟩
set_option maxRecDepth 100000 in
set_option maxHeartbeats 8000000 in
theorem z_in (o : Int) (ab ao l0 c0 : Nat) (l : List Int) (r : Int) (T : Nat) (d1 : decide ((100 : Int) < (l0 : Int)) = false) (hal : Hid Alive) (w : World) (hl : l.length = l0) (hl0 : 0 < l0) (HRow : Hid (Row w (.slice (some ⟨ab, ao, none⟩) l0 c0) l)) (hk : RollOk o l 0) (ho : ∀ j, j < l.length → ¬ over o 0 l j) (K : Nat) (hK : T % l0 = K) (hT255 : (T : Int) ≤ 255) (hc0 : l0 ≤ c0) (hk2 : RollOk o l r) (ho2 : ∀ j, j < l.length → ¬ over o r l j) (hx0 : 1 ≤ st o r l K) (hx : st o r l K ≤ 10000000000000) : Calls Try.prog 6 #[.agg #[.int .i64 o, .slice (some ⟨ab, ao, none⟩) l0 c0, .int .i64 r, .int .u8 (T : Int)]] w fun e w' => e = .returned (.bool true) ∧ Below w.heap.size w w' := by
  have hKl : K < l0 := by rw [← hK]; exact Nat.mod_lt _ hl0
  have hT : (T : Int) % (l0 : Int) = (K : Int) := by
    have e := Int.natCast_emod T l0
    rw [hK] at e
    exact e.symm
  have hcK : ¬ c0 = K := by omega
  have kk1 : (0 : Int) ≤ (K : Int) := by omega
  have kk2 : (K : Int) < (l0 : Int) := by omega
  have kk3 : (K : Int) ≤ (l0 : Int) := by omega
  have kk4 : (l0 : Int) ≤ (c0 : Int) := by omega
  have HA2 : Hid (∀ w', Row w' (.slice (some ⟨ab, ao, none⟩) l0 c0) l → Calls Try.prog 8 #[.int .i64 o, .slice (some ⟨ab, ao, none⟩) l0 c0, .int .i64 r] w' fun z w2 => ∃ b off c, z = .returned (.tuple #[.slice (some ⟨b, off, none⟩) l0 c, .int .i64 0]) ∧ RowN 4 w2 (.slice (some ⟨b, off, none⟩) l0 c) (rowsUp o r l l0) ∧ Below w'.heap.size w' w2) := hide (fun w' h => (roll_any h (Or.inr ⟨hk2, Or.inl ⟨rfl, rfl, ho2⟩⟩)).mono fun e w2 ⟨v, h1, h2, h3⟩ => by
    rw [hl] at h2
    obtain ⟨b, off, c, rfl, _⟩ := h2.open (by rw [rowsUp_len]; exact hl0)
    rw [rowsUp_len] at h1 h2
    exact ⟨b, off, c, h1, h2, h3⟩)
  have hres : Res (st o r l K) (l.drop K) r ((rowsUp o r l l0).drop K) 0 := Or.inr ⟨⟨hx0, hx, hk2.may, by rw [List.length_drop]; omega, by rw [List.length_drop]; have := hk2.n1; omega, fun p hp => hk2.pay p (List.mem_of_mem_drop hp)⟩, Or.inl ⟨rfl, by rw [rows_drop o r l (by rw [hl]; exact hKl), hl], fun j hj => by
    rw [List.length_drop] at hj
    rw [over_drop (by omega)]
    exact ho2 _ (by omega)⟩⟩
  have HA3 : Hid (∀ w', Row w' (.slice (some ⟨ab, ao + K, none⟩) (l0 - K) (c0 - K)) (l.drop K) → RollA 8 w' (st o r l K) (.slice (some ⟨ab, ao + K, none⟩) (l0 - K) (c0 - K)) r ((rowsUp o r l l0).drop K) 0) := hide (fun w' h => roll_any h hres)
  unfold RollA at HA3
  have hbd := st_bd hk2 K (fun j hj => ho2 j (by omega))
  have t2 : ((2 : Int) != 0) = true := rfl
  clear hx hx0 hres hk2 ho2 hK
  have HA : Hid (∀ w', Row w' (.slice (some ⟨ab, ao, none⟩) l0 c0) l → Calls Try.prog 8 #[.int .i64 o, .slice (some ⟨ab, ao, none⟩) l0 c0, .int .i64 0] w' fun z w2 => ∃ b off c, z = .returned (.tuple #[.slice (some ⟨b, off, none⟩) l0 c, .int .i64 0]) ∧ RowN 4 w2 (.slice (some ⟨b, off, none⟩) l0 c) (rowsUp o 0 l l0) ∧ Below w'.heap.size w' w2) := hide (fun w' h => (roll_any h (Or.inr ⟨hk, Or.inl ⟨rfl, rfl, ho⟩⟩)).mono fun e w2 ⟨v, h1, h2, h3⟩ => by
    rw [hl] at h2
    obtain ⟨b, off, c, rfl, _⟩ := h2.open (by rw [rowsUp_len]; exact hl0)
    rw [rowsUp_len] at h1 h2
    exact ⟨b, off, c, h1, h2, h3⟩)
  have t1 : ((0 : Int) != 0) = false := rfl
  have HL := hide hl
  have HK := hide hk
  have HO := hide ho
  have hl1 : l0 ≤ 100 := by have := of_decide_eq_false d1; omega
  clear hl hk ho
  have HZ := hide (Zr.new w o (.slice (some ⟨ab, ao, none⟩) l0 c0) r T)
  have HB := hide (below1 w (.cells #[.int .i64 o, .slice (some ⟨ab, ao, none⟩) l0 c0, .int .i64 r, .int .u8 (T : Int)] 46))
  have hR := hide ((unhide HRow).alloc (.cells #[.int .i64 o, .slice (some ⟨ab, ao, none⟩) l0 c0, .int .i64 r, .int .u8 (T : Int)] 46))
  go_enter Try.func6, Try.ntmps6
  go_wp2_with fail
  refine (unhide hal _).mono ?_
  rintro e w1 ⟨rfl, hb⟩
  replace HZ := hide ((unhide HZ).keep hb)
  replace HB := hide (below_via (unhide HB) hb)
  replace hR := hide ((unhide hR).below hb (Nat.le_refl _))
  have c0' := (unhide HZ).c0
  have c1' := (unhide HZ).c1
  have c2' := (unhide HZ).c2
  have c3' := (unhide HZ).c3
  clear hb
  go_wp2_with fail
  go_quiet (fail)
  clear c0' c1' c2' c3'
  obtain ⟨w2, hw2⟩ : ∃ x, x = w1.drewN nq := ⟨_, rfl⟩
  have HB2 : Hid (Below w.heap.size w w2) := hide (by rw [hw2]; exact below_drewN (unhide HB) _)
  have HR2 : Hid (Row w2 (.slice (some ⟨ab, ao, none⟩) l0 c0) l) := hide (by rw [hw2]; exact (unhide hR).drewN _)
  rw [← hw2]
  clear hw2 HB HZ
  go_wp2_with fail
  refine (unhide HA _ (unhide HR2)).mono ?_
  rintro e w3 ⟨b, off, c, rfl, hu, hb⟩
  replace HB2 := hide (below_via (unhide HB2) hb)
  replace HR2 := hide ((unhide HR2).below hb (Nat.le_refl _))
  have HU := hide hu
  clear hb hu HA
  go_wp2_with fail
  go_loopw [39] (fun i wr => ∃ k : Nat, k ≤ l0 ∧ i = .int .i64 k ∧ Hid (Below w3.heap.size w3 wr)) (fun i _ => l0 - (intOf i).toNat)
  case atStart => exact ⟨0, Nat.zero_le _, rfl, hide (Below.refl _ _)⟩
  case round =>
    obtain ⟨k, hk, rfl, HW⟩ := hrel
    by_cases hlt : k < l0
    · have HUk := hide ((unhide HU).keep (unhide HW))
      have d0 := (unhide HUk).cells (j := k) (t := 0) (by rw [rowsUp_len]; exact hlt) (by decide)
      have d1 := (unhide HUk).cells (j := k) (t := 1) (by rw [rowsUp_len]; exact hlt) (by decide)
      have d2 := (unhide HUk).cells (j := k) (t := 2) (by rw [rowsUp_len]; exact hlt) (by decide)
      have d3 := (unhide HUk).cells (j := k) (t := 3) (by rw [rowsUp_len]; exact hlt) (by decide)
      rw [Nat.add_zero] at d0
      have HZe : Hid (¬ k + 1 = l0 → getN (rowsUp o 0 l l0) k 1 = 0) := hide (fun h => by
        rw [getN_rows hlt]
        show inr o 0 l k = 0
        rw [inr_mid (by rw [unhide HL]; exact h), qI_zero])
      generalize getN (rowsUp o 0 l l0) k 0 = A at *
      generalize getN (rowsUp o 0 l l0) k 1 = I at *
      generalize getN (rowsUp o 0 l l0) k 2 = P at *
      generalize getN (rowsUp o 0 l l0) k 3 = Cc at *
      have k1 : (k : Int) < (l0 : Int) := by omega
      have HW3 := hide (below_via (unhide HW) (below1 wr (.cells #[.int .i64 A, .int .i64 I, .int .i64 P, .int .i64 Cc] 43)))
      by_cases hla : k + 1 = l0
      · have e5 : decide ((k : Int) < (l0 : Int) - 1) = false := decide_eq_false (by omega)
        clear hla HZe
        go_wp2_with fail
        go_roundw
        case rel => exact ⟨k + 1, by omega, by go_num, HW3⟩
        case measure => simp [intOf]; omega
      · have e5 : decide ((k : Int) < (l0 : Int) - 1) = true := decide_eq_true (by omega)
        have hI := unhide HZe hla
        subst hI
        clear hla HZe
        go_wp2_with fail
        go_roundw
        case rel => exact ⟨k + 1, by omega, by go_num, HW3⟩
        case measure => simp [intOf]; omega
    · have ek : k = l0 := by omega
      subst ek
      replace HB2 := hide (below_via (unhide HB2) (unhide HW))
      replace HR2 := hide ((unhide HR2).below (unhide HW) (Nat.le_refl _))
      clear HU HW
      go_wp2_with fail
      refine (unhide HA2 _ (unhide HR2)).mono ?_
      rintro e w4 ⟨b2, off2, c2, rfl, hu, hb⟩
      replace HB2 := hide (below_via (unhide HB2) hb)
      replace HR2 := hide ((unhide HR2).below hb (Nat.le_refl _))
      have HU := hide hu
      have d0 := (unhide HU).cells (j := K) (t := 0) (by rw [rowsUp_len]; exact hKl) (by decide)
      rw [Nat.add_zero, getN_rows hKl] at d0
      replace d0 : w4.cell? ⟨b2, off2 + K * 4, none⟩ = some (.int .i64 (st o r l K)) := d0
      have HRd := hide (row_drop (unhide HR2) (Nat.le_of_lt hKl))
      have HRq : Hid (Row w4.drew (.slice (some ⟨ab, ao + K, none⟩) (k - K) (c0 - K)) (l.drop K)) := hide ((unhide HRd).drewN 1)
      clear hb hu HA2
      generalize st o r l K = X at *
      go_wp2_with fail
      go_region_held3 (fun w' => w'.cell? ⟨b2, off2 + K * 4, none⟩ = some (.int .i64 X))
        (first | with_reducible exact dk | exact d0)
        (first
          | (go_at_call 8; refine (unhide HA3 w4.drew (unhide HRq)).mono ?_; rintro e w5 ⟨u, rfl, hu, hb⟩; have dk : w5.cell? ⟨b2, off2 + K * 4, none⟩ = some (.int .i64 X) := (hb.cell (p := ⟨b2, off2 + K * 4, none⟩) (lt_of_cell d0)).trans d0; have HB5 := hide (below_via (below_drewN (unhide HB2) 1) hb); have HU5 := hide (((unhide HU).drewN 1).keep hb); have HV := hide hu; clear hb hu))
      rename_i hH
      clear hH
      have hln : ((rowsUp o r l k).drop K).length ≤ 1000 := by rw [List.length_drop, rowsUp_len]; omega
      have HF1 := hide (from_any u _ _ (unhide HV) hln)
      have HLn := hide hln
      clear hln
      go_wp2_with fail
      refine (unhide HF1).mono ?_
      rintro e w6 ⟨u3, rfl, hg⟩
      replace HB5 := hide (below_via (unhide HB5) hg.below)
      have HV3 := hide hg.row
      have HF2 := hide (from_any _ _ _ ((unhide HU5).keep hg.below) (by rw [rowsUp_len]; omega))
      clear hg
      go_wp2_with fail
      refine (unhide HF2).mono ?_
      rintro e w7 ⟨u4, rfl, hg⟩
      replace HB5 := hide (below_via (unhide HB5) hg.below)
      replace HV3 := hide ((unhide HV3).keep hg.below)
      have hr4 := hg.row
      obtain ⟨b4, off4, c4, rfl, hc4, _⟩ := hr4.open (by rw [rowsUp_len]; omega)
      rw [rowsUp_len] at hr4 hc4
      rw [rowsUp_len]
      have hc5 : ¬ c4 = K := by omega
      have kk5 : (k : Int) ≤ (c4 : Int) := by omega
      have HV4 := hide (rowN_drop_if hr4 (Nat.le_of_lt hKl))
      rw [if_neg hc5] at HV4
      have HSm := hide (same_any u3 _ _ _ (unhide HLn) (unhide HV3) (unhide HV4))
      clear hg hr4
      go_wp2_with fail
      refine (unhide HSm).mono ?_
      rintro e w8 ⟨rfl, m, rfl⟩
      replace HB5 := hide (below_drewN (unhide HB5) m)
      go_wp2_with fail
      go_ret
      exact ⟨rfl, unhide HB5⟩
theorem walk (o : Int) (a0 : Option Addr) (l0 c0 : Nat) (r at' : Int) (l : List Int) (w : World) (hR : Row w (.slice a0 l0 c0) l) (hc0 : l0 ≤ c0) (hat : 0 ≤ at' ∧ at' ≤ 255) : Calls Try.prog 6 #[.agg #[.int .i64 o, .slice a0 l0 c0, .int .i64 r, .int .u8 at']] w fun e w' => e = .returned (.bool true) ∧ Below w.heap.size w w' := by
  have hl := row_len hR
  have hal := hide alive_any
  obtain ⟨T, rfl⟩ : ∃ n : Nat, at' = (n : Int) := ⟨at'.toNat, by omega⟩
  by_cases q : (100 : Int) < (l0 : Int)
  · exact z_long o a0 l0 c0 r T (decide_eq_true q) hal w
  · have d1 := decide_eq_false q
    obtain ⟨rows, e, hr⟩ := res_ex o l 0
    by_cases he : e = 0
    · subst he
      obtain ⟨hk, _, ho⟩ := hr.fine
      obtain ⟨b, off, cap, hv⟩ := row_open' hR hk.n0
      cases hv
      obtain ⟨rows2, e2, hr2⟩ := res_ex o l r
      by_cases he2 : e2 = 0
      · subst he2
        obtain ⟨hk2, _, ho2⟩ := hr2.fine
        by_cases hx : st o r l (T % l.length) < 1
        · exact z_lo o b off _ c0 l r T d1 hal w rfl hk.n0 (hide hR) hk ho _ rfl hat.2 hc0 hk2 ho2 hx
        · by_cases hy : 10000000000000 < st o r l (T % l.length)
          · exact z_hi o b off _ c0 l r T d1 hal w rfl hk.n0 (hide hR) hk ho _ rfl hat.2 hc0 hk2 ho2 (by omega) hy
          · exact z_in o b off _ c0 l r T d1 hal w rfl hk.n0 (hide hR) hk ho _ rfl hat.2 hc0 hk2 ho2 (by omega) (by omega)
      · obtain rfl := hr2.none he2
        exact z_err1 o b off _ c0 l r T d1 hal w rfl hk.n0 (hide hR) hk ho e2 he2 hr2
    · obtain rfl := hr.none he
      exact z_err0 o a0 l0 c0 l r T e d1 hal w (hide hR) he hr
theorem array4 {α : Type} {cs : Array α} (h : cs.size = 4) : ∃ c0 c1 c2 c3, cs = #[c0, c1, c2, c3] := by
  obtain ⟨l⟩ := cs
  match l, h with
  | [c0, c1, c2, c3], _ => exact ⟨c0, c1, c2, c3, rfl⟩
set_option maxRecDepth 100000 in
theorem open_zero {H : Type} {enc : TypeId × Value → H} {w : World} {r : Reach} {b0 base : Nat} {held : Bool} {v : Value} {d : DataW H} {p : List MemPlace} {T E : TypeId} {f0 f1 f2 f3 : Field}
    (hT : Try.prog.underlying T = some (.struct #[f0, f1, f2, f3])) (cT : Try.prog.cellsOf T = 4) (o0 : f0.offset = 0) (o1 : f1.offset = 1) (o2 : f2.offset = 2) (o3 : f3.offset = 3)
    (c0 : Try.prog.cellsOf f0.type = 1) (c1 : Try.prog.cellsOf f1.type = 1) (c2 : Try.prog.cellsOf f2.type = 1) (c3 : Try.prog.cellsOf f3.type = 1)
    (u0 : Try.prog.underlying f0.type = some (.int .i64)) (u1 : Try.prog.underlying f1.type = some (.slice E)) (u2 : Try.prog.underlying f2.type = some (.int .i64)) (u3 : Try.prog.underlying f3.type = some (.int .u8)) (uE : Try.prog.underlying E = some (.int .i64)) (cE : Try.prog.cellsOf E = 1)
    (hv : Value.okWide Try.prog w r b0 T v) (h : DataW.Trod enc Try.prog w base (fun _ => true) held T v d p) :
    ∃ (a0 : Int) (x : Option Addr) (len cap : Nat) (a2 a3 : Int) (zs : List Int), v = .agg #[.int .i64 a0, .slice x len cap, .int .i64 a2, .int .u8 a3] ∧ Row w (.slice x len cap) zs ∧ len ≤ cap ∧ 0 ≤ a3 ∧ a3 ≤ 255 := by
  obtain ⟨cs, rfl, hsz⟩ := okWide_struct hT hv
  obtain ⟨v0, v1, v2, v3, rfl⟩ := array4 (hsz.trans cT)
  obtain ⟨fuel, hf⟩ := h
  obtain ⟨xs, n, _, hx, _, hlen, hF⟩ := DataW.trod_struct hT hf
  match xs, hlen with
  | [y0, y1, y2, y3], _ =>
    have h0 : DataW.trod enc Try.prog w base (fun _ => true) held n f0.type [v0] = some y0 := by simpa [Value.cells, c0, o0] using hF 0 _ rfl
    have h1 : DataW.trod enc Try.prog w base (fun _ => true) held n f1.type [v1] = some y1 := by simpa [Value.cells, c1, o1] using hF 1 _ rfl
    have h2 : DataW.trod enc Try.prog w base (fun _ => true) held n f2.type [v2] = some y2 := by simpa [Value.cells, c2, o2] using hF 2 _ rfl
    have h3 : DataW.trod enc Try.prog w base (fun _ => true) held n f3.type [v3] = some y3 := by simpa [Value.cells, c3, o3] using hF 3 _ rfl
    obtain ⟨a0, e0, _, w0⟩ := DataW.trod_int u0 h0
    obtain ⟨a2, e2, _, w2⟩ := DataW.trod_int u2 h2
    obtain ⟨a3, e3, _, w3⟩ := DataW.trod_int u3 h3
    have hb : 0 ≤ a3 ∧ a3 ≤ 255 := by
      simp [Lit.wf, IntKind.min, IntKind.max, IntKind.signed, IntKind.bits] at w3
      omega
    simp at e0 e2 e3
    subst e0 e2 e3
    rcases open_ints u1 uE cE h1 with ⟨hcs, _⟩ | ⟨x, l, c, zs, hcs, _, hl, hm, hz, _, hcell, hwz⟩
    · simp at hcs
      subst hcs
      exact ⟨a0, none, 0, 0, a2, a3, [], rfl, Or.inl ⟨_, _, rfl, rfl⟩, Nat.le_refl _, hb.1, hb.2⟩
    · simp at hcs
      subst hcs
      obtain ⟨ys, hy⟩ := row_open hl hm (by simpa using hz) hcell hwz
      exact ⟨a0, some x, l, c, a2, a3, ys, rfl, hy, hl, hb.1, hb.2⟩
theorem own : ownKnob Try.prog.godebug = none := by kernel_rfl
theorem laidOut : laidOutB Try.prog = true := by kernel_rfl
set_option linter.unusedVariables false in
set_option maxRecDepth 100000 in
theorem lifted (os : Os) (started : os.Started) (H : Type) (enc : TypeId × Value → H) :
    ReturnsInHanded {} Try.checked os 6 .any (Rows.tableZeroSpec.pre6 enc Try.prog Try.f6 Rows.tableZeroRow.domain false) (Rows.tableZeroSpec.post enc Try.prog Try.f6 false true false false) := by
  refine returnsInHanded_of_change (C := Try.checked) own started (by kernel_rfl) Try.func6
    (ChangeSpec.witness6 (enc := enc) (C := Try.checked) false ⟨#[], #[.agg #[.int .i64 0, .slice none 0 0, .int .i64 0, .int .u8 0]], []⟩ 8 (by kernel_rfl) (by kernel_rfl) (by kernel_rfl) (by kernel_rfl)) ?_
  intro W base args ds gs before hval0 hW hcnd _
  have hval : ∀ (j : Nat) t v, Try.f6.params[j]? = some t → args[j]? = some v → Value.okWide Try.prog W .any base t v := hval0
  have hW' := hW
  obtain ⟨p, q, hA0, hV, rfl, hfz, hnd⟩ := hW
  have hA : DataW.TrodAll enc Try.prog W 0 (fun _ => true) true Try.f6.params.toList args.toList ds p := hA0
  rw [Try.params6] at hA hval
  obtain ⟨v0, vs0, d0, ds0, p0, q0, hargs, rfl, rfl, h0, r0⟩ := trodAll_cons hA
  obtain ⟨rfl, rfl, rfl⟩ := trodAll_nil r0
  obtain rfl : args = #[v0] := by cases args; simp_all
  obtain ⟨rfl, rfl⟩ := trodVars_none hV
  have k0 := h0
  have lt0 : ∀ x ∈ p0, x.block < W.heap.size := by obtain ⟨m, hm⟩ := k0; exact DataW.trod_lt m _ _ _ hm
  obtain ⟨o, a0, len, cap, r, at', z0, rfl, w0, hc, ha, hb⟩ := open_zero (E := 2) Try.underlying46 (by kernel_rfl) rfl rfl rfl rfl (by kernel_rfl) (by kernel_rfl) (by kernel_rfl) (by kernel_rfl) Try.underlying2 Try.underlying22 Try.underlying2 Try.underlying5 Try.underlying2 (by kernel_rfl) (hval 0 46 v0 rfl rfl) h0
  clear hA0 hval0
  refine (walk o a0 len cap r at' z0 W w0 hc ⟨ha, hb⟩).mono fun e W' ⟨he, bel⟩ => ?_
  subst he
  exact ⟨_, rfl, _, _, _, [], _, [], hW', trodAll_mk1 (shut_bool Try.underlying4 _), (trodAll_cons_mk (Below.trod laidOut (by kernel_rfl) (of_decide_eq_true (by kernel_rfl)) k0 bel lt0) trodAll_mk0), rfl, bel.frame _, fun h => by cases h⟩
theorem over : Rows.tableZeroRow.holds Try.pinned (OpenSpec.ofChange Rows.tableZeroSpec) :=
  OpenClaim.holds_of_wide 6 Try.f6 rfl rfl rfl rfl rfl rfl rfl ⟨rfl, rfl, rfl, rfl, rfl⟩ rfl rfl rfl rfl rfl (by kernel_rfl) Try.func6 (by kernel_rfl)
    (of_decide_eq_true (by kernel_rfl)) (by unfold Func.isWrapper; first | (rw [if_pos (by decide +kernel)]; kernel_rfl) | (rw [if_neg (by decide +kernel)]; exact ⟨rfl, rfl⟩))
    (fun os started H enc _ => lifted os started H enc)
/-- The statement. -/
theorem proved : Rows.TableZeroSaid := over
#print axioms proved
end Go.Proofs.Ytmepmmhhiphfiaa.Mn.tableZero
namespace Go.Proofs.Ytmepmmhhiphfiaa
theorem tableZero_holds : Rows.TableZeroSaid := Mn.tableZero.proved
end Go.Proofs.Ytmepmmhhiphfiaa
