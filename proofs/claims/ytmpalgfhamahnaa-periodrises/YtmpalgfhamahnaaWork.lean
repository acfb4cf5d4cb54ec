/- What Contains, Works and the seekers of days that work answer, the program's and the reference's. -/
import Derived.Test.YtmpalgfhamahnaaRow
import Derived.Test.YtmpalgfhamahnaaPNum
import Derived.Test.YtmpalgfhamahnaaRef
namespace Go.Proofs.Ytmpalgfhamahnaa
open Go.RowKit
set_option linter.unusedSimpArgs false
theorem mem_getD {hs : List Int} {n : Int} {k : Nat} (hk : k < hs.length) (h : hs.getD k 0 = n) : hs.contains n = true := by
  have e : hs.getD k 0 = hs[k] := by simp [List.getD, hk]
  rw [e] at h
  rw [← h]
  simp
theorem no_getD {hs : List Int} {n : Int} (h : ∀ j, j < hs.length → hs.getD j 0 ≠ n) : hs.contains n = false := by
  cases c : hs.contains n
  · rfl
  · exfalso
    have hm : n ∈ hs := by simpa using c
    obtain ⟨j, hj, e⟩ := List.getElem_of_mem hm
    exact h j hj (by simp [List.getD, hj, e])
/-- The place tells whether the number is there. -/
def Placed (hs : List Int) (n r : Int) : Prop := decide (0 ≤ r) = hs.contains n
theorem index_empty (a : Option Addr) (cap : Nat) (n : Int) (w : World) :
    Calls Try.prog 38 #[.slice a 0 cap, .int .i64 n] w fun e w' => ∃ r : Int, e = .returned (.int .i64 r) ∧ w' = w ∧ Placed [] n r := by
  go_enter Try.func38, Try.ntmps38
  go_wp2
  refine wp_loop_rounds 1 ?_
  rw [rounds_succ]
  go_wp2
  go_ret
  exact ⟨_, rfl, rfl, rfl⟩
set_option maxHeartbeats 800000 in
theorem index_row (b off c : Nat) (hs : List Int) (n : Int) (w : World) (hm : hs.length ≤ maxLen)
    (hx : ∀ j, j < hs.length → w.cell? ⟨b, off + j, none⟩ = some (.int .i64 (hs.getD j 0))) :
    Calls Try.prog 38 #[.slice (some ⟨b, off, none⟩) hs.length c, .int .i64 n] w fun e w' => ∃ r : Int, e = .returned (.int .i64 r) ∧ w' = w ∧ Placed hs n r := by
  unfold maxLen at hm
  have HX := hide hx
  have Hyes := hide (fun k hk h => mem_getD (hs := hs) (n := n) (k := k) hk h)
  have Hno := hide (no_getD (hs := hs) (n := n))
  clear hx
  generalize hs.length = len at *
  go_enter Try.func38, Try.ntmps38
  go_wp2
  go_loop [8] (fun i => ∃ k : Nat, k ≤ len ∧ i = .int .i64 k ∧ Hid (∀ j, j < k → hs.getD j 0 ≠ n)) (fun i => len - (intOf i).toNat)
  case atStart => exact ⟨0, by omega, rfl, hide (fun j hj => by omega)⟩
  case round =>
    obtain ⟨k, hk, rfl, HK⟩ := hrel
    by_cases hlt : k < len
    · have h1 := unhide HX k hlt
      have HY := hide (unhide Hyes k hlt)
      have HK' : Hid (¬ hs.getD k 0 = n → ∀ j, j < k + 1 → hs.getD j 0 ≠ n) := hide (fun h j hj => by
        by_cases e : j = k
        · rw [e]; exact h
        · exact unhide HK j (by omega))
      generalize hs.getD k 0 = x at *
      by_cases he : x = n
      · subst he
        have hb : (x == x) = true := by simp
        have HY2 := hide (unhide HY rfl)
        clear HK' HY
        go_wp2
        go_ret
        exact ⟨_, rfl, rfl, by unfold Placed; rw [unhide HY2]; exact decide_eq_true (by omega)⟩
      · have hb : (n == x) = false := beq_false_of_ne (fun e => he e.symm)
        have HK2 := hide (unhide HK' he)
        clear HK' HY
        go_wp2
        go_round
        case rel => exact ⟨k + 1, by omega, by go_num, HK2⟩
        case measure => simp [intOf]; omega
    · have hk2 : k = len := by omega
      subst hk2
      have HF := hide (unhide Hno (unhide HK))
      go_wp2
      go_ret
      exact ⟨_, rfl, rfl, by unfold Placed; rw [unhide HF]; rfl⟩
theorem index_any (v : Value) (hs : List Int) (n : Int) (w : World) (h : Row w v hs) :
    Calls Try.prog 38 #[v, .int .i64 n] w fun e w' => ∃ r : Int, e = .returned (.int .i64 r) ∧ w' = w ∧ Placed hs n r := by
  rcases h with ⟨a, c, rfl, rfl⟩ | ⟨b, off, c, rfl, h0, hm, hc, hin⟩
  · exact index_empty a c n w
  · exact index_row b off c hs n w hm hc
theorem contains_any (v : Value) (hs : List Int) (n : Int) (w : World) (h : Row w v hs) :
    Calls Try.prog 30 #[v, .int .i64 n] w fun e w' => e = .returned (.bool (hs.contains n)) ∧ w' = w := by
  have hI := hide (index_any v hs n w h)
  clear h
  go_enter Try.func30, Try.ntmps30
  go_wp2_with fail
  refine (unhide hI).mono ?_
  rintro e w1 ⟨r, rfl, rfl, hr⟩
  clear hI
  replace hr := hide hr
  go_wp2_with fail
  go_ret
  exact ⟨ret_bool (unhide hr), rfl⟩
/-- Does a day work? -/
def WorksA (f : Nat) (v : Value) (hs : List Int) (w : World) : Prop := ∀ n : Int, Calls Try.prog f #[.int .i64 n, v] w fun e w' => e = .returned (.bool (works hs n)) ∧ w' = w
theorem works_any (v : Value) (hs : List Int) (w : World) (h : Row w v hs) : WorksA 17 v hs w := by
  intro n
  have hW := hide (weekday_any n w)
  have hC := hide (contains_any v hs n w h)
  clear h
  by_cases c : (n - 1) % 7 < 5
  · have d1 : decide ((n - 1) % 7 < 5) = true := decide_eq_true c
    have hr : Hid ((!hs.contains n) = works hs n) := hide (by unfold works; rw [d1, Bool.true_and])
    generalize (n - 1) % 7 = z at *
    generalize hs.contains n = q at *
    clear c
    go_enter Try.func17, Try.ntmps17
    go_wp2_with fail
    refine (unhide hW).mono ?_
    rintro e w1 ⟨rfl, rfl⟩
    clear hW
    go_wp2_with fail
    refine (unhide hC).mono ?_
    rintro e w2 ⟨rfl, rfl⟩
    clear hC
    go_wp2_with fail
    go_ret
    exact ⟨ret_bool (unhide hr), rfl⟩
  · have d1 : decide ((n - 1) % 7 < 5) = false := decide_eq_false c
    have hr := hide (works_end (hs := hs) c)
    generalize (n - 1) % 7 = z at *
    clear c hC
    go_enter Try.func17, Try.ntmps17
    go_wp2_with fail
    refine (unhide hW).mono ?_
    rintro e w1 ⟨rfl, rfl⟩
    clear hW
    go_wp2_with fail
    go_ret
    exact ⟨ret_bool (unhide hr).symm, rfl⟩
theorem rworks_end (v : Value) (hs : List Int) (n : Int) (w : World) (c : ¬ (n - 1) % 7 < 5) :
    Calls Try.prog 18 #[.int .i64 n, v] w fun e w' => e = .returned (.bool (works hs n)) ∧ w' = w := by
  have hW := hide (rweekday_any n w)
  have d1 : decide (5 ≤ (n - 1) % 7) = true := decide_eq_true (by omega)
  have hr := hide (works_end (hs := hs) c)
  generalize (n - 1) % 7 = z at *
  clear c
  go_enter Try.func18, Try.ntmps18
  go_wp2_with fail
  refine (unhide hW).mono ?_
  rintro e w1 ⟨rfl, rfl⟩
  clear hW
  go_wp2_with fail
  go_ret
  exact ⟨ret_bool (unhide hr).symm, rfl⟩
theorem rworks_empty (a : Option Addr) (cap : Nat) (n : Int) (w : World) (c : (n - 1) % 7 < 5) :
    Calls Try.prog 18 #[.int .i64 n, .slice a 0 cap] w fun e w' => e = .returned (.bool (works [] n)) ∧ w' = w := by
  have hW := hide (rweekday_any n w)
  have d1 : decide (5 ≤ (n - 1) % 7) = false := decide_eq_false (by omega)
  have hr := hide (works_yes (hs := []) c (by simp))
  generalize (n - 1) % 7 = z at *
  clear c
  go_enter Try.func18, Try.ntmps18
  go_wp2_with fail
  refine (unhide hW).mono ?_
  rintro e w1 ⟨rfl, rfl⟩
  clear hW
  go_wp2_with fail
  refine wp_loop_rounds 1 ?_
  rw [rounds_succ]
  go_wp2_with fail
  go_ret
  exact ⟨ret_bool (unhide hr).symm, rfl⟩
set_option maxHeartbeats 800000 in
theorem rworks_row (b off c : Nat) (hs : List Int) (n : Int) (w : World) (hm : hs.length ≤ maxLen) (hn : (n - 1) % 7 < 5)
    (hx : ∀ j, j < hs.length → w.cell? ⟨b, off + j, none⟩ = some (.int .i64 (hs.getD j 0))) :
    Calls Try.prog 18 #[.int .i64 n, .slice (some ⟨b, off, none⟩) hs.length c] w fun e w' => e = .returned (.bool (works hs n)) ∧ w' = w := by
  unfold maxLen at hm
  have hW := hide (rweekday_any n w)
  have d1 : decide (5 ≤ (n - 1) % 7) = false := decide_eq_false (by omega)
  have HX := hide hx
  have Hyes := hide (fun k hk h => works_free (hs := hs) (n := n) (by have := mem_getD (hs := hs) (n := n) (k := k) hk h; simpa using this))
  have Hno : Hid ((∀ j, j < hs.length → hs.getD j 0 ≠ n) → works hs n = true) := hide (fun h => works_yes hn (fun hc => by have := no_getD h; simp at this; exact this hc))
  clear hx hn
  generalize (n - 1) % 7 = z at *
  generalize hs.length = len at *
  go_enter Try.func18, Try.ntmps18
  go_wp2_with fail
  refine (unhide hW).mono ?_
  rintro e w1 ⟨rfl, rfl⟩
  clear hW
  go_wp2_with fail
  go_loop [12] (fun i => ∃ k : Nat, k ≤ len ∧ i = .int .i64 k ∧ Hid (∀ j, j < k → hs.getD j 0 ≠ n)) (fun i => len - (intOf i).toNat)
  case atStart => exact ⟨0, by omega, rfl, hide (fun j hj => by omega)⟩
  case round =>
    obtain ⟨k, hk, rfl, HK⟩ := hrel
    by_cases hlt : k < len
    · have h1 := unhide HX k hlt
      have HY := hide (unhide Hyes k hlt)
      have HK' : Hid (¬ hs.getD k 0 = n → ∀ j, j < k + 1 → hs.getD j 0 ≠ n) := hide (fun h j hj => by
        by_cases e : j = k
        · rw [e]; exact h
        · exact unhide HK j (by omega))
      generalize hs.getD k 0 = x at *
      by_cases he : x = n
      · subst he
        have hb : (x == x) = true := by simp
        have HY2 := hide (unhide HY rfl)
        clear HK' HY
        go_wp2
        go_ret
        exact ⟨ret_bool (unhide HY2).symm, rfl⟩
      · have hb : (x == n) = false := beq_false_of_ne he
        have HK2 := hide (unhide HK' he)
        clear HK' HY
        go_wp2
        go_round
        case rel => exact ⟨k + 1, by omega, by go_num, HK2⟩
        case measure => simp [intOf]; omega
    · have hk2 : k = len := by omega
      subst hk2
      have HF := hide (unhide Hno (unhide HK))
      go_wp2
      go_ret
      exact ⟨ret_bool (unhide HF).symm, rfl⟩
theorem rworks_any (v : Value) (hs : List Int) (w : World) (h : Row w v hs) : WorksA 18 v hs w := by
  intro n
  by_cases c : (n - 1) % 7 < 5
  · rcases h with ⟨a, cp, rfl, rfl⟩ | ⟨b, off, cp, rfl, h0, hm, hc, hin⟩
    · exact rworks_empty a cp n w c
    · exact rworks_row b off cp hs n w hm c hc
  · exact rworks_end v hs n w c
/-- The error of a day that was sought: none, or there is no such day. -/
def seekE (r : Int) : Int := if r = 0 then 5 else 0
end Go.Proofs.Ytmpalgfhamahnaa
