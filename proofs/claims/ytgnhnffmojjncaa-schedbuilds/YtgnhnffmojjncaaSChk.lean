/- Whether terms may be: Check, the program's and the document's. -/
import Derived.Test.YtgnhnffmojjncaaSLoan
namespace Go.Proofs.Ytgnhnffmojjncaa.Mn
open Go.RowKit
set_option linter.unusedSimpArgs false
/-- Block b holds terms, of the type T. -/
def Tm (w : World) (b : Nat) (T : TypeId) (kd P : Int) (rv : Value) (n : Int) : Prop := w.heap[b]? = some (.cells #[.int .i64 kd, .int .i64 P, rv, .int .i64 n] T (0, 0))
section
variable {w w' : World} {b : Nat} {T : TypeId} {kd P n : Int} {rv : Value}
theorem Tm.c0 (h : Tm w b T kd P rv n) : w.cell? ⟨b, 0, none⟩ = some (.int .i64 kd) := by rw [cell_of_row w b 0 _ _ _ h]; rfl
theorem Tm.c1 (h : Tm w b T kd P rv n) : w.cell? ⟨b, 1, none⟩ = some (.int .i64 P) := by rw [cell_of_row w b 1 _ _ _ h]; rfl
theorem Tm.c2 (h : Tm w b T kd P rv n) : w.cell? ⟨b, 2, none⟩ = some rv := by rw [cell_of_row w b 2 _ _ _ h]; rfl
theorem Tm.c3 (h : Tm w b T kd P rv n) : w.cell? ⟨b, 3, none⟩ = some (.int .i64 n) := by rw [cell_of_row w b 3 _ _ _ h]; rfl
theorem Tm.lt (h : Tm w b T kd P rv n) : b < w.heap.size := (Array.getElem?_eq_some_iff.1 h).1
theorem Tm.keep (h : Tm w b T kd P rv n) (hb : Below w.heap.size w w') : Tm w' b T kd P rv n := (hb.block b h.lt).trans h
theorem Tm.alloc (h : Tm w b T kd P rv n) (o : Obj) : Tm (w.alloc o) b T kd P rv n := (Below.heap_alloc w o b h.lt).trans h
theorem Tm.drewN (h : Tm w b T kd P rv n) (m : Nat) : Tm (w.drewN m) b T kd P rv n := h
theorem Tm.new (w : World) (T : TypeId) (kd P : Int) (rv : Value) (n : Int) : Tm (w.alloc (.cells #[.int .i64 kd, .int .i64 P, rv, .int .i64 n] T)) w.heap.size T kd P rv n := heap_alloc_new w _
end
/-- What a Check answers. -/
def ChkA (f : Nat) (w : World) (kd P : Int) (rv : Value) (n e : Int) : Prop := Calls Try.prog f #[.agg #[.int .i64 kd, .int .i64 P, rv, .int .i64 n]] w fun z w' => z = .returned (.int .i64 e) ∧ Below w.heap.size w w'
theorem below1 (w : World) (o : Obj) : Below w.heap.size w (w.alloc o) := (Below.refl _ _).alloc (Nat.le_refl _) _
theorem chk15_1 (kd P n : Int) (rv : Value) (w : World) (d1 : decide (kd < 1) = true) : ChkA 15 w kd P rv n 2 := by
  unfold ChkA
  go_enter Try.func15, Try.ntmps15
  go_wp2_with fail
  go_ret
  exact ⟨rfl, below1 _ _⟩
theorem chk15_2 (kd P n : Int) (rv : Value) (w : World) (d1 : decide (kd < 1) = false) (d2 : decide (4 < kd) = true) : ChkA 15 w kd P rv n 2 := by
  unfold ChkA
  go_enter Try.func15, Try.ntmps15
  go_wp2_with fail
  go_ret
  exact ⟨rfl, below1 _ _⟩
theorem chk15_3 (kd P n : Int) (rv : Value) (w : World) (d1 : decide (kd < 1) = false) (d2 : decide (4 < kd) = false) (d3 : decide (P < 1) = true) : ChkA 15 w kd P rv n 2 := by
  unfold ChkA
  go_enter Try.func15, Try.ntmps15
  go_wp2_with fail
  go_ret
  exact ⟨rfl, below1 _ _⟩
theorem chk15_4 (kd P n : Int) (rv : Value) (w : World) (d1 : decide (kd < 1) = false) (d2 : decide (4 < kd) = false) (d3 : decide (P < 1) = false) (d4 : decide (10000000000000 < P) = true) : ChkA 15 w kd P rv n 2 := by
  unfold ChkA
  go_enter Try.func15, Try.ntmps15
  go_wp2_with fail
  go_ret
  exact ⟨rfl, below1 _ _⟩
theorem chk15_5 (kd P n : Int) (rv : Value) (w : World) (d1 : decide (kd < 1) = false) (d2 : decide (4 < kd) = false) (d3 : decide (P < 1) = false) (d4 : decide (10000000000000 < P) = false) (hk : lastB n = false) : ChkA 15 w kd P rv n 2 := by
  have HK := hide (lasts_no hk)
  unfold ChkA
  clear hk
  go_enter Try.func15, Try.ntmps15
  go_wp2_with fail
  refine (unhide HK _).mono ?_
  rintro e w1 ⟨rfl, rfl⟩
  go_wp2_with fail
  go_ret
  exact ⟨rfl, below1 _ _⟩
theorem chk15_6 (kd P n : Int) (a : Option Addr) (len cap : Nat) (w : World) (d1 : decide (kd < 1) = false) (d2 : decide (4 < kd) = false) (d3 : decide (P < 1) = false) (d4 : decide (10000000000000 < P) = false) (hk : lastB n = true) (d7 : decide ((len : Int) < 1) = true) : ChkA 15 w kd P (.slice a len cap) n 2 := by
  have HK := hide (lasts_yes hk)
  clear hk
  unfold ChkA
  go_enter Try.func15, Try.ntmps15
  go_wp2_with fail
  refine (unhide HK _).mono ?_
  rintro e w1 ⟨rfl, rfl⟩
  go_wp2_with fail
  go_ret
  exact ⟨rfl, below1 _ _⟩
theorem chk15_7 (kd P n : Int) (a : Option Addr) (len cap : Nat) (w : World) (d1 : decide (kd < 1) = false) (d2 : decide (4 < kd) = false) (d3 : decide (P < 1) = false) (d4 : decide (10000000000000 < P) = false) (hk : lastB n = true) (d7 : decide ((len : Int) < 1) = false) (d8 : decide (n < (len : Int)) = true) : ChkA 15 w kd P (.slice a len cap) n 2 := by
  have HK := hide (lasts_yes hk)
  clear hk
  unfold ChkA
  go_enter Try.func15, Try.ntmps15
  go_wp2_with fail
  refine (unhide HK _).mono ?_
  rintro e w1 ⟨rfl, rfl⟩
  go_wp2_with fail
  go_ret
  exact ⟨rfl, below1 _ _⟩
set_option maxHeartbeats 1000000 in
theorem chk15_8 (kd P n : Int) (rv : Value) (rs : List Int) (e : Int) (w : World) (d1 : decide (kd < 1) = false) (d2 : decide (4 < kd) = false) (d3 : decide (P < 1) = false) (d4 : decide (10000000000000 < P) = false) (hk : lastB n = true) (d7 : decide ((rs.length : Int) < 1) = false) (d8 : decide (n < (rs.length : Int)) = false) (h1 : rs.length ≤ 600) (hR : Row w rv rs) (he : (e = 0 ∧ ∀ r ∈ rs, bearB r = true) ∨ (e = 2 ∧ ∃ r ∈ rs, bearB r = false)) : ChkA 15 w kd P rv n e := by
  rcases hR with ⟨a, cap, rfl, rfl⟩ | ⟨rb, ro, cap, rfl, h0, _, hc, _⟩
  · simp at d7
  · have hc' := fun j hj => cell_old (hc j hj) (.cells #[.int .i64 kd, .int .i64 P, .slice (some ⟨rb, ro, none⟩) rs.length cap, .int .i64 n] 27)
    have HC := hide hc'
    have hTm := Tm.new w 27 kd P (.slice (some ⟨rb, ro, none⟩) rs.length cap) n
    have c2 := hTm.c2
    have HB := hide (below1 w (.cells #[.int .i64 kd, .int .i64 P, .slice (some ⟨rb, ro, none⟩) rs.length cap, .int .i64 n] 27))
    have HE := hide he
    have HX : Hid (∀ j, j < rs.length → rs.getD j 0 ∈ rs) := hide (fun j hj => by rw [show rs.getD j 0 = rs[j] by simp [List.getD, hj]]; exact List.getElem_mem hj)
    have HY : Hid ((∀ j, j < rs.length → bearB (rs.getD j 0) = true) → ∀ r ∈ rs, bearB r = true) := hide (fun h r hr => by
      obtain ⟨j, hj, rfl⟩ := List.getElem_of_mem hr
      have := h j hj
      rwa [show rs.getD j 0 = rs[j] by simp [List.getD, hj]] at this)
    clear hc hc' hTm he
    have HK := hide (lasts_yes hk)
    clear hk
    unfold ChkA
    generalize rs.length = len at *
    go_enter Try.func15, Try.ntmps15
    go_wp2_with fail
    refine (unhide HK _).mono ?_
    rintro e w1 ⟨rfl, rfl⟩
    go_wp2_with fail
    generalize w.alloc (.cells #[.int .i64 kd, .int .i64 P, .slice (some ⟨rb, ro, none⟩) len cap, .int .i64 n] 27) = W at *
    go_loop [44] (fun i => ∃ k : Nat, k ≤ len ∧ i = .int .i64 k ∧ Hid (∀ j, j < k → bearB (rs.getD j 0) = true)) (fun i => len - (intOf i).toNat)
    case atStart => exact ⟨0, Nat.zero_le _, rfl, hide (fun j hj => absurd hj (Nat.not_lt_zero j))⟩
    case round =>
      obtain ⟨k, hk, rfl, HA⟩ := hrel
      by_cases hlt : k < len
      · have ck := unhide HC k hlt
        have HN := hide (unhide HX k hlt)
        have HS : Hid (bearB (rs.getD k 0) = true → ∀ j, j < k + 1 → bearB (rs.getD j 0) = true) := hide (fun h j hj => by
          by_cases e : j = k
          · rw [e]; exact h
          · exact unhide HA j (by omega))
        generalize rs.getD k 0 = z at *
        cases hz : bearB z with
        | true =>
          replace HS := hide (unhide HS hz)
          have HBr := hide (bears_yes hz)
          clear hz
          go_wp2_with fail
          refine (unhide HBr _).mono ?_
          rintro e w1 ⟨rfl, rfl⟩
          go_wp2_with fail
          go_round
          case rel => exact ⟨k + 1, by omega, by go_num, HS⟩
          case measure => simp [intOf]; omega
        | false =>
          have he : e = 2 := by
            rcases unhide HE with ⟨_, h⟩ | ⟨h, _⟩
            · have := h z (unhide HN); rw [hz] at this; cases this
            · exact h
          have HE2 := hide he
          clear he HS HN HE
          have HBr := hide (bears_no hz)
          clear hz
          go_wp2_with fail
          refine (unhide HBr _).mono ?_
          rintro e w1 ⟨rfl, rfl⟩
          go_wp2_with fail
          all_goals go_ret
          all_goals exact ⟨ret_int (unhide HE2).symm, unhide HB⟩
      · have he : e = 0 := by
          rcases unhide HE with ⟨h, _⟩ | ⟨_, r, hr, h⟩
          · exact h
          · have := unhide HY (fun j hj => unhide HA j (by omega)) r hr; rw [h] at this; cases this
        have HE2 := hide he
        clear he HE HA
        go_wp2_with fail
        go_ret
        exact ⟨ret_int (unhide HE2).symm, unhide HB⟩
theorem chk16_1 (kd P n : Int) (rv : Value) (w : World) (d1 : decide (kd < 1) = true) : ChkA 16 w kd P rv n 2 := by
  unfold ChkA
  go_enter Try.func16, Try.ntmps16
  go_wp2_with fail
  go_ret
  exact ⟨rfl, below1 _ _⟩
theorem chk16_2 (kd P n : Int) (rv : Value) (w : World) (d1 : decide (kd < 1) = false) (d2 : decide (4 < kd) = true) : ChkA 16 w kd P rv n 2 := by
  unfold ChkA
  go_enter Try.func16, Try.ntmps16
  go_wp2_with fail
  go_ret
  exact ⟨rfl, below1 _ _⟩
theorem chk16_3 (kd P n : Int) (rv : Value) (w : World) (d1 : decide (kd < 1) = false) (d2 : decide (4 < kd) = false) (d3 : decide (P < 1) = true) : ChkA 16 w kd P rv n 2 := by
  unfold ChkA
  go_enter Try.func16, Try.ntmps16
  go_wp2_with fail
  go_ret
  exact ⟨rfl, below1 _ _⟩
theorem chk16_4 (kd P n : Int) (rv : Value) (w : World) (d1 : decide (kd < 1) = false) (d2 : decide (4 < kd) = false) (d3 : decide (P < 1) = false) (d4 : decide (10000000000000 < P) = true) : ChkA 16 w kd P rv n 2 := by
  unfold ChkA
  go_enter Try.func16, Try.ntmps16
  go_wp2_with fail
  go_ret
  exact ⟨rfl, below1 _ _⟩
theorem chk16_5 (kd P n : Int) (rv : Value) (w : World) (d1 : decide (kd < 1) = false) (d2 : decide (4 < kd) = false) (d3 : decide (P < 1) = false) (d4 : decide (10000000000000 < P) = false) (d5 : decide (n < 1) = true) : ChkA 16 w kd P rv n 2 := by
  unfold ChkA
  go_enter Try.func16, Try.ntmps16
  go_wp2_with fail
  go_ret
  exact ⟨rfl, below1 _ _⟩
theorem chk16_5b (kd P n : Int) (rv : Value) (w : World) (d1 : decide (kd < 1) = false) (d2 : decide (4 < kd) = false) (d3 : decide (P < 1) = false) (d4 : decide (10000000000000 < P) = false) (d5 : decide (n < 1) = false) (d6 : decide (600 < n) = true) : ChkA 16 w kd P rv n 2 := by
  unfold ChkA
  go_enter Try.func16, Try.ntmps16
  go_wp2_with fail
  go_ret
  exact ⟨rfl, below1 _ _⟩
theorem chk16_6 (kd P n : Int) (a : Option Addr) (len cap : Nat) (w : World) (d1 : decide (kd < 1) = false) (d2 : decide (4 < kd) = false) (d3 : decide (P < 1) = false) (d4 : decide (10000000000000 < P) = false) (d5 : decide (n < 1) = false) (d6 : decide (600 < n) = false) (d7 : decide ((len : Int) < 1) = true) : ChkA 16 w kd P (.slice a len cap) n 2 := by
  unfold ChkA
  go_enter Try.func16, Try.ntmps16
  go_wp2_with fail
  go_ret
  exact ⟨rfl, below1 _ _⟩
theorem chk16_7 (kd P n : Int) (a : Option Addr) (len cap : Nat) (w : World) (d1 : decide (kd < 1) = false) (d2 : decide (4 < kd) = false) (d3 : decide (P < 1) = false) (d4 : decide (10000000000000 < P) = false) (d5 : decide (n < 1) = false) (d6 : decide (600 < n) = false) (d7 : decide ((len : Int) < 1) = false) (d8 : decide (n < (len : Int)) = true) : ChkA 16 w kd P (.slice a len cap) n 2 := by
  unfold ChkA
  go_enter Try.func16, Try.ntmps16
  go_wp2_with fail
  go_ret
  exact ⟨rfl, below1 _ _⟩
set_option maxHeartbeats 1000000 in
theorem chk16_8 (kd P n : Int) (rv : Value) (rs : List Int) (e : Int) (w : World) (d1 : decide (kd < 1) = false) (d2 : decide (4 < kd) = false) (d3 : decide (P < 1) = false) (d4 : decide (10000000000000 < P) = false) (d5 : decide (n < 1) = false) (d6 : decide (600 < n) = false) (d7 : decide ((rs.length : Int) < 1) = false) (d8 : decide (n < (rs.length : Int)) = false) (h1 : rs.length ≤ 600) (hR : Row w rv rs) (he : (e = 0 ∧ ∀ r ∈ rs, bearB r = true) ∨ (e = 2 ∧ ∃ r ∈ rs, bearB r = false)) : ChkA 16 w kd P rv n e := by
  rcases hR with ⟨a, cap, rfl, rfl⟩ | ⟨rb, ro, cap, rfl, h0, _, hc, _⟩
  · simp at d7
  · have hc' := fun j hj => cell_old (hc j hj) (.cells #[.int .i64 kd, .int .i64 P, .slice (some ⟨rb, ro, none⟩) rs.length cap, .int .i64 n] 24)
    have HC := hide hc'
    have hTm := Tm.new w 24 kd P (.slice (some ⟨rb, ro, none⟩) rs.length cap) n
    have c2 := hTm.c2
    have HB := hide (below1 w (.cells #[.int .i64 kd, .int .i64 P, .slice (some ⟨rb, ro, none⟩) rs.length cap, .int .i64 n] 24))
    have HE := hide he
    have HX : Hid (∀ j, j < rs.length → rs.getD j 0 ∈ rs) := hide (fun j hj => by rw [show rs.getD j 0 = rs[j] by simp [List.getD, hj]]; exact List.getElem_mem hj)
    have HY : Hid ((∀ j, j < rs.length → bearB (rs.getD j 0) = true) → ∀ r ∈ rs, bearB r = true) := hide (fun h r hr => by
      obtain ⟨j, hj, rfl⟩ := List.getElem_of_mem hr
      have := h j hj
      rwa [show rs.getD j 0 = rs[j] by simp [List.getD, hj]] at this)
    clear hc hc' hTm he
    unfold ChkA
    generalize rs.length = len at *
    go_enter Try.func16, Try.ntmps16
    go_wp2_with fail
    generalize w.alloc (.cells #[.int .i64 kd, .int .i64 P, .slice (some ⟨rb, ro, none⟩) len cap, .int .i64 n] 24) = W at *
    go_loop [50] (fun i => ∃ k : Nat, k ≤ len ∧ i = .int .i64 k ∧ Hid (∀ j, j < k → bearB (rs.getD j 0) = true)) (fun i => len - (intOf i).toNat)
    case atStart => exact ⟨0, Nat.zero_le _, rfl, hide (fun j hj => absurd hj (Nat.not_lt_zero j))⟩
    case round =>
      obtain ⟨k, hk, rfl, HA⟩ := hrel
      by_cases hlt : k < len
      · have ck := unhide HC k hlt
        have HN := hide (unhide HX k hlt)
        have HS : Hid (bearB (rs.getD k 0) = true → ∀ j, j < k + 1 → bearB (rs.getD j 0) = true) := hide (fun h j hj => by
          by_cases e : j = k
          · rw [e]; exact h
          · exact unhide HA j (by omega))
        generalize rs.getD k 0 = z at *
        cases hz : bearB z with
        | true =>
          replace HS := hide (unhide HS hz)
          obtain ⟨z0, z1⟩ := bearB_bd hz
          have t1 : decide (z < 0) = false := decide_eq_false (by omega)
          have t2 : decide (1000000000000 < z) = false := decide_eq_false (by omega)
          clear hz
          go_wp2_with fail
          go_round
          case rel => exact ⟨k + 1, by omega, by go_num, HS⟩
          case measure => simp [intOf]; omega
        | false =>
          have he : e = 2 := by
            rcases unhide HE with ⟨_, h⟩ | ⟨h, _⟩
            · have := h z (unhide HN); rw [hz] at this; cases this
            · exact h
          have HE2 := hide he
          clear he HS HN HE
          have hz2 : z < 0 ∨ 1000000000000 < z := by
            by_cases c : z < 0
            · exact Or.inl c
            · refine Or.inr ?_
              by_cases d : 1000000000000 < z
              · exact d
              · have : bearB z = true := by simp [bearB]; omega
                rw [hz] at this; cases this
          clear hz
          by_cases t1 : z < 0
          all_goals (try have t2 : 1000000000000 < z := by omega)
          all_goals clear hz2
          all_goals go_wp2_with fail
          all_goals go_ret
          all_goals exact ⟨ret_int (unhide HE2).symm, unhide HB⟩
      · have he : e = 0 := by
          rcases unhide HE with ⟨h, _⟩ | ⟨_, r, hr, h⟩
          · exact h
          · have := unhide HY (fun j hj => unhide HA j (by omega)) r hr; rw [h] at this; cases this
        have HE2 := hide he
        clear he HE HA
        go_wp2_with fail
        go_ret
        exact ⟨ret_int (unhide HE2).symm, unhide HB⟩
theorem chk_yes {f : Nat} (hf : f = 15 ∨ f = 16) {kd P : Int} {rs : List Int} {n : Nat} {rv : Value} {w : World} (hT : TermsOk kd P rs n) (hR : Row w rv rs) : ChkA f w kd P rv n 0 := by
  obtain ⟨k0, k1, p0, p1, n0, n1, r0, r1, hr⟩ := hT
  have d1 : decide (kd < 1) = false := decide_eq_false (by omega)
  have d2 : decide (4 < kd) = false := decide_eq_false (by omega)
  have d3 : decide (P < 1) = false := decide_eq_false (by omega)
  have d4 : decide (10000000000000 < P) = false := decide_eq_false (by omega)
  have d7 : decide ((rs.length : Int) < 1) = false := decide_eq_false (by omega)
  have d8 : decide ((n : Int) < (rs.length : Int)) = false := decide_eq_false (by omega)
  rcases hf with rfl | rfl
  · exact chk15_8 kd P n rv rs 0 w d1 d2 d3 d4 (by simp [lastB]; omega) d7 d8 (by omega) hR (Or.inl ⟨rfl, hr⟩)
  · exact chk16_8 kd P n rv rs 0 w d1 d2 d3 d4 (decide_eq_false (by omega)) (decide_eq_false (by omega)) d7 d8 (by omega) hR (Or.inl ⟨rfl, hr⟩)
theorem chk_no {f : Nat} (hf : f = 15 ∨ f = 16) {kd P n : Int} {rs : List Int} {rv : Value} {w : World} (hT : ∀ m : Nat, n = m → ¬ TermsOk kd P rs m) (hR : Row w rv rs) : ChkA f w kd P rv n 2 := by
  by_cases t1 : kd < 1
  · rcases hf with rfl | rfl
    · exact chk15_1 kd P n rv w (decide_eq_true t1)
    · exact chk16_1 kd P n rv w (decide_eq_true t1)
  have d1 := decide_eq_false t1
  by_cases t2 : 4 < kd
  · rcases hf with rfl | rfl
    · exact chk15_2 kd P n rv w d1 (decide_eq_true t2)
    · exact chk16_2 kd P n rv w d1 (decide_eq_true t2)
  have d2 := decide_eq_false t2
  by_cases t3 : P < 1
  · rcases hf with rfl | rfl
    · exact chk15_3 kd P n rv w d1 d2 (decide_eq_true t3)
    · exact chk16_3 kd P n rv w d1 d2 (decide_eq_true t3)
  have d3 := decide_eq_false t3
  by_cases t4 : 10000000000000 < P
  · rcases hf with rfl | rfl
    · exact chk15_4 kd P n rv w d1 d2 d3 (decide_eq_true t4)
    · exact chk16_4 kd P n rv w d1 d2 d3 (decide_eq_true t4)
  have d4 := decide_eq_false t4
  by_cases t5 : n < 1
  · rcases hf with rfl | rfl
    · exact chk15_5 kd P n rv w d1 d2 d3 d4 (by simp [lastB]; omega)
    · exact chk16_5 kd P n rv w d1 d2 d3 d4 (decide_eq_true t5)
  have d5 := decide_eq_false t5
  by_cases t6 : 600 < n
  · rcases hf with rfl | rfl
    · exact chk15_5 kd P n rv w d1 d2 d3 d4 (by simp [lastB]; omega)
    · exact chk16_5b kd P n rv w d1 d2 d3 d4 d5 (decide_eq_true t6)
  have d6 := decide_eq_false t6
  have hl : lastB n = true := by simp [lastB]; omega
  obtain ⟨a, cap, hv⟩ := row_slice hR
  by_cases t7 : (rs.length : Int) < 1
  · rw [hv]
    rcases hf with rfl | rfl
    · exact chk15_6 kd P n a _ cap w d1 d2 d3 d4 hl (decide_eq_true t7)
    · exact chk16_6 kd P n a _ cap w d1 d2 d3 d4 d5 d6 (decide_eq_true t7)
  have d7 := decide_eq_false t7
  by_cases t8 : n < (rs.length : Int)
  · rw [hv]
    rcases hf with rfl | rfl
    · exact chk15_7 kd P n a _ cap w d1 d2 d3 d4 hl d7 (decide_eq_true t8)
    · exact chk16_7 kd P n a _ cap w d1 d2 d3 d4 d5 d6 d7 (decide_eq_true t8)
  have d8 := decide_eq_false t8
  have hx : ∃ r ∈ rs, bearB r = false := by
    by_cases c : ∃ r ∈ rs, bearB r = false
    · exact c
    · obtain ⟨m, hm⟩ := Int.eq_ofNat_of_zero_le (show 0 ≤ n by omega)
      refine absurd ⟨by omega, by omega, by omega, by omega, by omega, by omega, by omega, by omega, fun r hr => ?_⟩ (hT m hm)
      cases q : bearB r with
      | true => rfl
      | false => exact absurd ⟨r, hr, q⟩ c
  rcases hf with rfl | rfl
  · exact chk15_8 kd P n rv rs 2 w d1 d2 d3 d4 hl d7 d8 (by omega) hR (Or.inr ⟨rfl, hx⟩)
  · exact chk16_8 kd P n rv rs 2 w d1 d2 d3 d4 d5 d6 d7 d8 (by omega) hR (Or.inr ⟨rfl, hx⟩)
end Go.Proofs.Ytgnhnffmojjncaa.Mn
