/- An amount parted by weights of 1 (no program there); what slices.Repeat answers of one 1. -/
import Derived.Test.YtgnhnffmojjncaaMParts
import Derived.Laws.IdiomCopy
import Derived.Deep.RegionHeld3
namespace Go.Proofs.Ytgnhnffmojjncaa.Mn
def ones (n : Nat) : List Int := List.replicate n 1
theorem ones_len (n : Nat) : (ones n).length = n := by simp [ones]
theorem ones_at {n j : Nat} (h : j < n) : (ones n).getD j 0 = 1 := by simp [ones, List.getD, h]
theorem ones_total (n : Nat) : total (ones n) = n := by
  unfold ones
  induction n with
  | zero => rfl
  | succ n ih => rw [List.replicate_succ, total, ih]; omega
theorem ones_nz {n j : Nat} (h : j ≤ n) : nz (ones n) j = j := by
  unfold nz ones
  rw [List.take_replicate, Nat.min_eq_left h]
  induction j with
  | zero => rfl
  | succ j ih => rw [List.replicate_succ, List.filter_cons_of_pos (by decide), List.length_cons, ih (by omega)]
theorem ones_sh {P : Int} {n j : Nat} (hP : 0 ≤ P) (h : j < n) : sh P (ones n) j = P / n := by
  unfold sh
  rw [ones_at h, ones_total, Int.mul_one, Int.tdiv_eq_ediv_of_nonneg hP]
theorem ones_sum {P : Int} {n : Nat} (hP : 0 ≤ P) : ∀ k, k ≤ n → sumTo (sh P (ones n)) k = k * (P / n) := by
  intro k
  induction k with
  | zero => intro _; simp [sumTo]
  | succ k ih =>
    intro hk
    rw [sumTo, ih (by omega), ones_sh hP (by omega), show ((k + 1 : Nat) : Int) = (k : Int) + 1 from by omega, Int.add_mul, Int.one_mul]
theorem ones_left {P : Int} {n : Nat} (hP : 0 ≤ P) : leftOf P (ones n) = P % n := by
  unfold leftOf
  rw [ones_len, ones_sum hP n (Nat.le_refl _)]
  have := Int.emod_add_mul_ediv P n
  omega
/-- Each one's part. -/
def pt1 (P : Int) (n j : Nat) : Int := P / n + if (j : Int) < P % n then 1 else 0
theorem ones_part {P : Int} {n j : Nat} (hP : 0 ≤ P) (h : j < n) : part P (ones n) j = pt1 P n j := by
  unfold part giveAt pt1
  have hm := Int.emod_nonneg P (show (n : Int) ≠ 0 by omega)
  rw [ones_sh hP h, ones_left hP, ones_len, ones_at h, ones_nz (by omega), show sgn (P % n) = 1 from if_neg (by omega)]
  by_cases c : (j : Int) < P % n
  · rw [if_pos c, if_pos ⟨h, by decide, by omega⟩]
  · rw [if_neg c, if_neg]
    rintro ⟨_, _, c2⟩
    omega
theorem pt1_pos {P : Int} {n j : Nat} (hP : 0 ≤ P) : 0 ≤ pt1 P n j := by
  have := Int.ediv_nonneg hP (show (0 : Int) ≤ n by omega)
  unfold pt1
  split <;> omega
theorem pt1_sum {P : Int} {n : Nat} (hn : 0 < n) : ∀ i, i ≤ n → ((List.range i).map (pt1 P n)).sum = i * (P / n) + min (i : Int) (P % n) := by
  have hm := Int.emod_nonneg P (show (n : Int) ≠ 0 by omega)
  intro i
  induction i with
  | zero => intro _; simp; omega
  | succ i ih =>
    intro hi
    rw [List.range_succ, List.map_append, List.sum_append, ih (by omega)]
    simp only [List.map_cons, List.map_nil, List.sum_cons, List.sum_nil, pt1]
    rw [show ((i + 1 : Nat) : Int) = (i : Int) + 1 from by omega, Int.add_mul, Int.one_mul]
    generalize (i : Int) * (P / n) = A
    generalize P / (n : Int) = B at *
    generalize P % (n : Int) = C at *
    by_cases c : (i : Int) < C
    · rw [if_pos c, Int.min_eq_left (by omega), Int.min_eq_left (by omega)]; omega
    · rw [if_neg c, Int.min_eq_right (by omega), Int.min_eq_right (by omega)]; omega
theorem pt1_all {P : Int} {n : Nat} (hn : 0 < n) : ((List.range n).map (pt1 P n)).sum = P := by
  rw [pt1_sum hn n (Nat.le_refl _)]
  have h1 := Int.emod_lt_of_pos P (show (0 : Int) < n by omega)
  have h2 := Int.emod_add_mul_ediv P n
  rw [Int.min_eq_right (by omega)]
  omega
theorem pt1_upto {P : Int} {n : Nat} (hP : 0 ≤ P) (hn : 0 < n) {i : Nat} (hi : i ≤ n) : ((List.range i).map (pt1 P n)).sum ≤ P := by
  have e : n = i + (n - i) := by omega
  have h := pt1_all (P := P) hn
  have key : ∀ m, ((List.range i).map (pt1 P n)).sum ≤ ((List.range (i + m)).map (pt1 P n)).sum := by
    intro m
    induction m with
    | zero => exact Int.le_refl _
    | succ m ih =>
      rw [show i + (m + 1) = (i + m) + 1 from by omega, List.range_succ, List.map_append, List.sum_append]
      have := pt1_pos (n := n) (j := i + m) hP
      simp
      omega
  have := key (n - i)
  rw [← e, h] at this
  exact this
/-- Parts differ by 1 at most, and none is less than the last one. -/
theorem pt1_near {P : Int} {n j : Nat} (h : j < n) : 0 ≤ pt1 P n j - pt1 P n (n - 1) ∧ pt1 P n j - pt1 P n (n - 1) ≤ 1 := by
  unfold pt1
  by_cases c : (j : Int) < P % n
  · rw [if_pos c]
    split <;> omega
  · rw [if_neg c, if_neg (by omega)]
    omega
end Go.Proofs.Ytgnhnffmojjncaa.Mn
/- What slices.Repeat answers of one 1: so many ones, in new memory. -/
namespace Go.Proofs.Ytgnhnffmojjncaa.Mn
open Go.RowKit
set_option linter.unusedSimpArgs false
theorem mul_one64 (n : Nat) (hn : n ≤ 600) (w : World) : Calls Try.prog 53 #[.int .u64 1, .int .u64 n] w fun e w' => e = .returned (.tuple #[.int .u64 0, .int .u64 n]) ∧ w = w' := by
  have h := mul64_any 1 n (by omega) (by omega) w
  rw [Nat.one_mul, Nat.div_eq_of_lt (show n < 18446744073709551616 by omega), Nat.mod_eq_of_lt (show n < 18446744073709551616 by omega)] at h
  exact h
theorem mul_one (n : Nat) (hn : n ≤ 600) (w : World) : Calls Try.prog 66 #[.int .u64 1, .int .u64 n] w fun e w' => e = .returned (.tuple #[.int .u64 0, .int .u64 n]) ∧ w = w' := by
  have H := hide (mul_one64 n hn)
  go_enter Try.func66, Try.ntmps66
  go_wp2_with fail
  refine (unhide H _).mono ?_
  rintro e w1 ⟨rfl, rfl⟩
  go_wp2_with fail
  go_ret2
  exact ⟨rfl, rfl⟩
/-- A row whose first m numbers are 1, the others 0. -/
def upTo (m j : Nat) : Int := if j < m then 1 else 0
theorem Own.ones {w : World} {P n : Nat} : ∀ (c m : Nat) (W : World), Own w W P n (upTo m) → Own w (W.setCells P m (List.replicate c (.int .i64 1))) P n (upTo (m + c)) := by
  intro c
  induction c with
  | zero => intro m W h; exact h
  | succ c ih =>
    intro m W h
    rw [List.replicate_succ, World.setCells]
    have h1 : Own w (W.setCell ⟨P, m, none⟩ (.int .i64 1)) P n (upTo (m + 1)) := h.put m 1 (fun j => by
      unfold upTo
      by_cases e : j = m
      · rw [if_pos e, if_pos (by omega)]
      · rw [if_neg e]
        by_cases d : j < m
        · rw [if_pos d, if_pos (by omega)]
        · rw [if_neg d, if_neg (by omega)])
    have h2 := ih (m + 1) _ h1
    rwa [show m + 1 + c = m + (c + 1) from by omega] at h2
theorem size2 : (Try.prog.info? 2).map (·.size) = some 1 := by
  have h := info2
  cases q : Try.prog.info? 2 with
  | none => rw [q] at h; cases h
  | some i =>
    rw [q] at h
    simp at h
    simp [h.2.1]
theorem run_copy1 {w W : World} {P n m b off l cap d : Nat} (hO : Own w W P n (upTo m)) (hm : m + d = n) (hsrc : ∀ j, j < min l d → W.cell? ⟨b, off + j, none⟩ = some (.int .i64 1)) (ty : TypeId) :
    (Builtin.copy_ #[22, 22] ty #[.slice (some ⟨P, m, none⟩) d d, .slice (some ⟨b, off, none⟩) l cap]).run Try.prog W = .ok (goInt ((min l d : Nat) : Int)) (W.setCells P m (List.replicate (min l d) (.int .i64 1))) := by
  have h := run_copy_cells (P := Try.prog) W 22 22 ty 2 P m d d ⟨b, off, none⟩ l cap (List.replicate (min l d) (.int .i64 1)) Try.underlying22 size2 (by simp) (fun j v hj => by
      have hj2 := List.getElem?_eq_some_iff.1 hj
      obtain ⟨h1, h2⟩ := hj2
      simp at h1 h2
      rw [Addr.add_lit, hsrc j (by omega), ← h2]) (fun j hj => by
      simp at hj
      rw [hO.row.cell (show m + j < n by omega)]; rfl) (fun j _ => hO.row.frozen (m + j)) (fun v hv => by rw [List.eq_of_mem_replicate hv]; rfl)
  rw [List.length_replicate] at h
  exact h
theorem copy_law {ops : Array Oper} {rest : List Oper} {o : Oper} {a : Act} {Q : Exit → Act → World → Prop} (hgd : o.guard = none) (d s : Operand) (ho : o.op = .call { callee := .builtin .copy, args := #[d, s], argTypes := #[22, 22] }) (v u : Value) (hd : a.eval d = v) (hs : a.eval s = u) {W W' : World} {c : Nat}
    (hr : (Builtin.copy_ #[22, 22] o.type #[v, u]).run Try.prog W = .ok (goInt c) W') (h : wpList Try.prog ops Q rest (a.put o.dst (.int .i64 c)) W') : wpList Try.prog ops Q (o :: rest) a W := by
  refine wpList_plain hgd fun K hK => ?_
  unfold Oper.wp execOp
  simp only [ho, resolve, invoke, builtin, Sem.run_bind, Sem.run_pure, Result.andThen_ok, List.map_toArray, List.map_cons, List.map_nil, hd, hs, hr]
  exact hK _ _ h
theorem copy_step {ops : Array Oper} {o : Oper} {a : Act} {K : Act → World → Prop} {Q : Exit → Act → World → Prop} {E : Prop} (hgd : o.guard = none) (d s : Operand) (ho : o.op = .call { callee := .builtin .copy, args := #[d, s], argTypes := #[22, 22] }) (v u : Value) (hd : a.eval d = v) (hs : a.eval s = u) {W W' : World} {c : Nat}
    (hr : (Builtin.copy_ #[22, 22] o.type #[v, u]).run Try.prog W = .ok (goInt c) W') (h : K (a.put o.dst (.int .i64 c)) W') : if Region.wanted o (yielded ops a.tmps) = true then Oper.wp Try.prog o a W K Q else E := by
  have hw : Region.wanted o (yielded ops a.tmps) = true := by simp [Region.wanted, hgd]
  rw [if_pos hw]
  unfold Oper.wp
  simp [execOp, ho, resolve, invoke, builtin, hd, hs, hr, Result.andThen]
  exact h
theorem Own.drew {w wr : World} {P len : Nat} {f : Nat → Int} (h : Own w wr P len f) : Own w wr.drew P len f := ⟨h.below.drew, h.row⟩
set_option maxRecDepth 20000 in
set_option maxHeartbeats 1000000 in
theorem repeat_any (b off cap n : Nat) (n0 : 0 < n) (n1 : n ≤ 600) (w : World) (hc : w.cell? ⟨b, off, none⟩ = some (.int .i64 1)) :
    Calls Try.prog 56 #[.slice (some ⟨b, off, none⟩) 1 cap, .int .i64 n] w fun e w' => e = .returned (.slice (some ⟨w.heap.size, 0, none⟩) n n) ∧ Own w w' w.heap.size n (upTo n) := by
  have HM := hide (mul_one n n1)
  have hmk := run_make_row' (P := Try.prog) 22 2 (.int .i64 0) 8 Try.underlying22 info2 rfl .i64 .i64 n (by omega) (by omega)
  have hb := lt_of_cell hc
  have t1 : decide (9223372036854775807 < (n : Int)) = false := by simp; omega
  have t2 : decide ((n : Int) < 0) = false := by simp
  have hw1 : IntKind.u64.wrap (n : Int) = (n : Int) := by rw [IntKind.wrap_u64]; omega
  go_enter Try.func56, Try.ntmps56
  go_wp2_with fail
  refine (unhide HM _).mono ?_
  rintro e w1 ⟨rfl, rfl⟩
  go_wp2_with fail
  have HO : Own w (w.alloc (.cells (madeCells #[.int .i64 0] n) 2)) w.heap.size n (upTo 0) := ⟨(Below.refl _ _).alloc (Nat.le_refl _) _, (World.rowIs_made w _ n 2).congr (fun j _ => by simp [upTo])⟩
  have e1 := run_copy1 (b := b) (off := off) (l := 1) (cap := cap) (d := n) HO (by omega) (fun j hj => by
    obtain rfl : j = 0 := by omega
    exact (((Below.refl w.heap.size w).alloc (Nat.le_refl _) _).cell (p := ⟨b, off, none⟩) hb).trans hc) 3
  have HO2 := HO.ones 1 0
  rw [Nat.min_eq_left (show 1 ≤ n by omega)] at e1
  rw [e1]
  replace HO2 := hide HO2
  clear e1 HO hmk HM t1 t2 hw1
  rw [Nat.zero_add] at HO2
  generalize (w.alloc (.cells (madeCells #[.int .i64 0] n) 2)).setCells w.heap.size 0 (List.replicate 1 (.int .i64 1)) = W at *
  go_wp2_with fail
  go_loopw [8] (fun i wr => ∃ m : Nat, 0 < m ∧ m ≤ n ∧ i = .int .i64 m ∧ Hid (Own w wr w.heap.size n (upTo m))) (fun i _ => n - (intOf i).toNat)
  case atStart => exact ⟨1, by omega, by omega, rfl, HO2⟩
  case round =>
    clear HO2
    obtain ⟨m, m0, m1, rfl, HO⟩ := hrel
    by_cases hlt : m < n
    · have hd : m + (n - m) = n := by omega
      have e1 := hide (fun ty => run_copy1 (b := w.heap.size) (off := 0) (l := m) (cap := n) (d := n - m) (unhide HO).drew hd (fun j hj => by
        have h := (unhide HO).row.cell (show j < n by omega)
        rw [Nat.zero_add]
        rw [show upTo m j = 1 from if_pos (by omega)] at h
        exact h) ty)
      have HO2 := hide ((unhide HO).drew.ones (min m (n - m)) m)
      have hmn : (m : Int) ≤ (n : Int) := by omega
      have hm0 : (0 : Int) ≤ (m : Int) := by omega
      have hnn : (n : Int) ≤ (n : Int) := by omega
      have hl : (m : Int) < (n : Int) := by omega
      have hne : ¬ n = m := by omega
      go_wp2_with fail
      go_region_held3 (fun _ => True) (trivial) ((refine copy_step (by rfl) (.tmp 41) (.tmp 44) (by rfl) _ _ (by rfl) (by rfl) (unhide e1 _) ?_))
      have q1 : IntKind.i64.wrap ((m : Int) + ((min m (n - m) : Nat) : Int)) = ((m + min m (n - m) : Nat) : Int) := by rw [IntKind.wrap_i64]; omega
      rw [q1]
      go_wp2_with fail
      go_roundw
      case rel => exact ⟨m + min m (n - m), by omega, by omega, rfl, HO2⟩
      case measure => simp [intOf]; omega
    · have e : m = n := by omega
      subst e
      go_wp2_with fail
      go_ret
      exact ⟨rfl, unhide HO⟩
end Go.Proofs.Ytgnhnffmojjncaa.Mn
