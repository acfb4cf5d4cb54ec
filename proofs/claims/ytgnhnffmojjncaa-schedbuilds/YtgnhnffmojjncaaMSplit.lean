/- What money's Split answers, at any amount and any row of weights, given what Div64 answers at the products. -/
import Derived.Test.YtgnhnffmojjncaaMGive
namespace Go.Proofs.Ytgnhnffmojjncaa.Mn
open Go.RowKit
theorem total_nonneg {ws : List Int} (h : ∀ v ∈ ws, 0 ≤ v) : 0 ≤ total ws := by
  induction ws with
  | nil => exact Int.le_refl _
  | cons v r ih =>
    have h1 := h v List.mem_cons_self
    have h2 := ih (fun u hu => h u (List.mem_cons_of_mem _ hu))
    show 0 ≤ v + total r
    omega
theorem mem_le_total {ws : List Int} (h : ∀ v ∈ ws, 0 ≤ v) {v : Int} (hv : v ∈ ws) : v ≤ total ws := by
  induction ws with
  | nil => cases hv
  | cons u r ih =>
    have h1 := h u List.mem_cons_self
    have hr := fun x hx => h x (List.mem_cons_of_mem u hx)
    have h2 := total_nonneg hr
    show v ≤ u + total r
    rcases List.mem_cons.1 hv with rfl | hv
    · omega
    · have := ih hr hv; omega
theorem total_le {ws : List Int} {B : Int} (h : ∀ v ∈ ws, v ≤ B) : total ws ≤ B * ws.length := by
  induction ws with
  | nil => simp [total]
  | cons u r ih =>
    have h1 := h u List.mem_cons_self
    have h2 := ih (fun x hx => h x (List.mem_cons_of_mem u hx))
    show u + total r ≤ B * ((r.length + 1 : Nat) : Int)
    rw [show ((r.length + 1 : Nat) : Int) = (r.length : Int) + 1 from by omega, Int.mul_add]
    omega
theorem good_mem {ws : List Int} (h : good ws = true) : ∀ v ∈ ws, 0 ≤ v ∧ v ≤ 10000000000000 := by
  simp only [good, Bool.and_eq_true, decide_eq_true_eq, List.all_eq_true] at h
  exact h.2
theorem good_total {ws : List Int} (h : good ws = true) : 0 ≤ total ws ∧ total ws ≤ 6000000000000000 := by
  have h1 := good_mem h
  have h2 := (good_len h).2
  have h3 := total_le (B := 10000000000000) (fun v hv => (h1 v hv).2)
  exact ⟨total_nonneg (fun v hv => (h1 v hv).1), by omega⟩
theorem good_le {ws : List Int} (h : good ws = true) (j : Nat) : ws.getD j 0 ≤ total ws := by
  have h1 := good_mem h
  by_cases hj : j < ws.length
  · have : ws.getD j 0 = ws[j] := by simp [List.getD, hj]
    rw [this]; exact mem_le_total (fun v hv => (h1 v hv).1) (List.getElem_mem hj)
  · have : ws.getD j 0 = 0 := by simp [List.getD, List.getElem?_eq_none (Nat.le_of_not_lt hj)]
    rw [this]; exact (good_total h).1
/-- The share of the j-th weight. -/
def sh (n : Int) (ws : List Int) (j : Nat) : Int := (n * ws.getD j 0).tdiv (total ws)
def sumTo (f : Nat → Int) : Nat → Int
  | 0 => 0
  | k + 1 => sumTo f k + f k
/-- What is left of n behind all shares. -/
def leftOf (n : Int) (ws : List Int) : Int := n - sumTo (sh n ws) ws.length
def sgn (n : Int) : Int := if n < 0 then -1 else 1
/-- The j-th part. -/
def part (n : Int) (ws : List Int) (j : Nat) : Int := giveAt (sh n ws) ws (leftOf n ws).natAbs (sgn (leftOf n ws)) ws.length j
theorem may_bd {n : Int} (h : may n = true) : -10000000000000 ≤ n ∧ n ≤ 10000000000000 := by simpa [may] using h
theorem tdiv_abs_le {n v a : Int} (hv : 0 ≤ v) (hva : v ≤ a) : ((n * v).tdiv a).natAbs ≤ n.natAbs := by
  rw [Int.natAbs_tdiv]
  show (n * v).natAbs / a.natAbs ≤ n.natAbs
  refine Nat.div_le_of_le_mul ?_
  rw [Int.natAbs_mul, Nat.mul_comm a.natAbs]
  exact Nat.mul_le_mul_left _ (by omega)
theorem sh_bd {n : Int} {ws : List Int} (hg : good ws = true) (hn : may n = true) (j : Nat) : -10000000000000 ≤ sh n ws j ∧ sh n ws j ≤ 10000000000000 := by
  have h1 := tdiv_abs_le (n := n) (good_at hg j).1 (good_le hg j)
  have h2 := may_bd hn
  unfold sh
  omega
theorem sumTo_bd {f : Nat → Int} {B : Int} (h : ∀ j, -B ≤ f j ∧ f j ≤ B) (k : Nat) : -(B * k) ≤ sumTo f k ∧ sumTo f k ≤ B * k := by
  induction k with
  | zero => simp [sumTo]
  | succ k ih =>
    have := h k
    show -(B * ((k + 1 : Nat) : Int)) ≤ sumTo f k + f k ∧ sumTo f k + f k ≤ B * ((k + 1 : Nat) : Int)
    rw [show ((k + 1 : Nat) : Int) = (k : Int) + 1 from by omega, Int.mul_add]
    omega
theorem leftOf_bd {n : Int} {ws : List Int} (hg : good ws = true) (hn : may n = true) : (leftOf n ws).natAbs ≤ 10000000000000000 := by
  have h1 := sumTo_bd (sh_bd hg hn) ws.length
  have h2 := may_bd hn
  have h3 := (good_len hg).2
  unfold leftOf
  omega
theorem split_no (n : Int) (v : Value) (ws : List Int) (w : World) (h : Row w v ws) (hno : (weighB ws && may n) = false) :
    Calls Try.prog 55 #[.int .i64 n, v] w fun e w' => e = .returned (.tuple #[.slice none 0 0, .int .i64 2]) ∧ w = w' := by
  have H := hide h
  clear h
  cases hb : weighB ws with
  | false =>
    clear hno
    go_enter Try.func55, Try.ntmps55
    go_wp2_with fail
    refine (weigh_any v ws _ (unhide H)).mono ?_
    rintro e w' ⟨rfl, rfl⟩
    go_wp2_with fail
    go_ret2
    exact ⟨rfl, rfl⟩
  | true =>
    have hm : may n = false := by rw [hb] at hno; simpa using hno
    clear hno
    go_enter Try.func55, Try.ntmps55
    go_wp2_with fail
    refine (weigh_any v ws _ (unhide H)).mono ?_
    rintro e w' ⟨rfl, rfl⟩
    go_wp2_with fail
    refine (may_any n _).mono ?_
    rintro e w' ⟨rfl, rfl⟩
    go_wp2_with fail
    go_ret2
    exact ⟨rfl, rfl⟩
set_option maxHeartbeats 1000000 in
theorem split_row (n : Int) (b off cap : Nat) (ws : List Int) (w : World) (hg : good ws = true) (ht : total ws ≠ 0) (hn : may n = true)
    (hc : ∀ j, j < ws.length → w.cell? ⟨b, off + j, none⟩ = some (.int .i64 (ws.getD j 0))) (hrow : Row w (.slice (some ⟨b, off, none⟩) ws.length cap) ws)
    (hd : ∀ j, j < ws.length → DivSaid (n.natAbs * (ws.getD j 0).toNat) (total ws).toNat) :
    Calls Try.prog 55 #[.int .i64 n, .slice (some ⟨b, off, none⟩) ws.length cap] w fun e w' => e = .returned (.tuple #[.slice (some ⟨w.heap.size, 0, none⟩) ws.length ws.length, .int .i64 0]) ∧ Own w w' w.heap.size ws.length (part n ws) := by
  have hT := good_total hg
  have hlen := good_len hg
  have hbP : b < w.heap.size := lt_of_cell (hc 0 (by omega))
  have hwB : weighB ws = true := by rw [weighB_yes hg]; simp [ht]
  have hnb := may_bd hn
  have HL := hide (leftOf_bd hg hn)
  have HC := hide hc
  have HR := hide hrow
  have HwN := hide (weighN_yes hg)
  have Hshb := hide (sh_bd hg hn)
  have Hsum := hide (sumTo_bd (sh_bd hg hn))
  have Hshare := hide (fun j hj w' => share_any n (ws.getD j 0) (total ws) hn (good_at hg j).1 (good_at hg j).2 (good_le hg j) (by omega) hT.2 (hd j hj) w')
  have Hleft : Hid (leftOf n ws = n - sumTo (sh n ws) ws.length) := rfl
  have hmk := run_make_row' (P := Try.prog) 22 2 (.int .i64 0) 8 Try.underlying22 info2 rfl .i64 .i64 ws.length (by omega) (by omega)
  have Hmk := hide hmk
  clear hmk hd hc hrow hg
  go_enter Try.func55, Try.ntmps55
  go_wp2_with fail
  refine (weigh_any _ ws _ (unhide HR)).mono ?_
  rintro e w' ⟨rfl, rfl⟩
  rw [unhide HwN]
  go_wp2_with fail
  refine (may_any n _).mono ?_
  rintro e w' ⟨rfl, rfl⟩
  have hmk := unhide Hmk
  generalize hlen' : ws.length = len at *
  have Hl := hide hlen'
  clear hlen' HR HwN ht
  go_wp2_with fail
  clear hmk Hmk hn hwB
  go_loopw [9, 30] (fun l i wr => ∃ (k : Nat) (t : Int), k ≤ len ∧ i = .int .i64 k ∧ l = .int .i64 t ∧ -10000000000000000 ≤ t ∧ t ≤ 10000000000000000 ∧ Hid (t = n - sumTo (sh n ws) k) ∧ Own w wr w.heap.size len (fun j => if j < k then sh n ws j else 0)) (fun _ i _ => len - (intOf i).toNat)
  case atStart => exact ⟨0, n, by omega, rfl, rfl, by omega, by omega, hide (by simp [sumTo]), ⟨(Below.refl _ _).alloc (Nat.le_refl _) _, (World.rowIs_made w _ len 2).congr (fun j _ => by simp)⟩⟩
  case round =>
    obtain ⟨k, t, hk, rfl, rfl, ht1, ht2, HT, how⟩ := hrel
    by_cases hlt : k < len
    · have hck := (how.below.cell (p := ⟨b, off + k, none⟩) hbP).trans (unhide HC k hlt)
      have hpk := how.row.cell hlt
      have hpf := how.row.frozen k
      rw [if_neg (Nat.lt_irrefl k)] at hpk
      have Hput : Hid (∀ j, (if j = k then sh n ws k else if j < k then sh n ws j else 0) = if j < k + 1 then sh n ws j else 0) := hide (fun j => by
        by_cases e : j = k
        · subst e; rw [if_pos rfl, if_pos (by omega)]
        · rw [if_neg e]
          by_cases c : j < k
          · rw [if_pos c, if_pos (by omega)]
          · rw [if_neg c, if_neg (by omega)])
      have Hsh : Hid (∀ w' : World, Calls Try.prog 64 #[.int .i64 n, .int .i64 (ws.getD k 0), .int .i64 (total ws)] w' fun e w1 => e = .returned (.int .i64 (sh n ws k)) ∧ ∃ m, w1 = w'.drewN m) := hide (unhide Hshare k hlt)
      have hs1 := unhide Hshb k
      have hs2 : -10000000000000000 ≤ t - sh n ws k ∧ t - sh n ws k ≤ 10000000000000000 := by
        have := unhide Hsum (k + 1)
        have h2 := unhide HT
        simp only [sumTo] at this
        omega
      have Hnext : Hid (t - sh n ws k = n - sumTo (sh n ws) (k + 1)) := hide (by rw [unhide HT]; simp only [sumTo]; omega)
      generalize ws.getD k 0 = z at *
      generalize sh n ws k = q at *
      go_wp2_with fail
      refine (unhide Hsh _).mono ?_
      rintro e w1 ⟨rfl, m, rfl⟩
      go_wp2_with fail
      go_roundw
      case rel => exact ⟨k + 1, t - q, by omega, by go_num, rfl, hs2.1, hs2.2, Hnext, (how.drewN m).put k q (unhide Hput)⟩
      case measure => simp [intOf]; omega
    · have hk2 : k = len := by omega
      subst hk2
      have how2 : Own w wr w.heap.size k (sh n ws) := ⟨how.below, how.row.congr (fun j hj => by rw [if_pos hj])⟩
      have HT2 : Hid (t = leftOf n ws) := hide (by rw [unhide Hleft]; exact unhide HT)
      clear how HT
      by_cases h0 : t < 0
      · obtain ⟨L, hL⟩ : ∃ L : Nat, t = -(L : Int) := ⟨t.natAbs, by omega⟩
        subst hL
        have hgo : Hid (∀ w1 : World, Own w w1 w.heap.size k (sh n ws) → Calls Try.prog 65 #[.int .i64 (-(L : Int)), .slice (some ⟨b, off, none⟩) k cap, .slice (some ⟨w.heap.size, 0, none⟩) k k] w1 fun e w' => e = .returned (.tuple #[]) ∧ Own w w' w.heap.size k (part n ws)) := hide (by
          intro w1 ho
          have e1 : (leftOf n ws).natAbs = L := by rw [← unhide HT2]; omega
          have e2 : sgn (leftOf n ws) = -1 := by rw [← unhide HT2]; unfold sgn; rw [if_pos h0]
          have hx := giveOut_down L b off cap w.heap.size ws (sh n ws) w1 w (by rw [unhide Hl]; omega) (by omega) (by omega) hbP (unhide Hshb) (by rw [unhide Hl]; exact unhide HC) (by rw [unhide Hl]; exact ho)
          rw [unhide Hl] at hx
          refine hx.mono fun e w' h => ⟨h.1, ?_⟩
          refine h.2.as (fun j => ?_)
          unfold part; rw [e1, e2, unhide Hl])
        go_wp2_with fail
        refine (unhide hgo _ how2).mono ?_
        rintro e w1 ⟨rfl, hw1⟩
        go_wp2_with fail
        go_ret2
        exact ⟨by rw [unhide Hl]; rfl, by rw [unhide Hl]; exact hw1⟩
      · obtain ⟨L, hL⟩ := Int.eq_ofNat_of_zero_le (Int.not_lt.1 h0)
        subst hL
        have hgo : Hid (∀ w1 : World, Own w w1 w.heap.size k (sh n ws) → Calls Try.prog 65 #[.int .i64 (L : Int), .slice (some ⟨b, off, none⟩) k cap, .slice (some ⟨w.heap.size, 0, none⟩) k k] w1 fun e w' => e = .returned (.tuple #[]) ∧ Own w w' w.heap.size k (part n ws)) := hide (by
          intro w1 ho
          have e1 : (leftOf n ws).natAbs = L := by rw [← unhide HT2]; omega
          have e2 : sgn (leftOf n ws) = 1 := by rw [← unhide HT2]; unfold sgn; rw [if_neg h0]
          have hx := giveOut_up L b off cap w.heap.size ws (sh n ws) w1 w (by rw [unhide Hl]; omega) (by omega) hbP (unhide Hshb) (by rw [unhide Hl]; exact unhide HC) (by rw [unhide Hl]; exact ho)
          rw [unhide Hl] at hx
          refine hx.mono fun e w' h => ⟨h.1, ?_⟩
          refine h.2.as (fun j => ?_)
          unfold part; rw [e1, e2, unhide Hl])
        go_wp2_with fail
        refine (unhide hgo _ how2).mono ?_
        rintro e w1 ⟨rfl, hw1⟩
        go_wp2_with fail
        go_ret2
        exact ⟨by rw [unhide Hl]; rfl, by rw [unhide Hl]; exact hw1⟩
end Go.Proofs.Ytgnhnffmojjncaa.Mn
