/- What the document's part and Split answer. -/
import Derived.Test.YtgnhnffmojjncaaMParts
namespace Go.Proofs.Ytgnhnffmojjncaa.Mn
open Go.RowKit
theorem and_one (a : Nat) (ha : a < 9223372036854775808) : bits .and .i64 (a : Int) 1 = ((a % 2 : Nat) : Int) := by
  have h1 : (BitVec.ofInt 64 (a : Int)).toNat = a := by
    rw [BitVec.ofInt_natCast, BitVec.toNat_ofNat]; exact Nat.mod_eq_of_lt (by omega)
  have h2 : (BitVec.ofInt 64 1).toNat = 1 := by decide
  show IntKind.i64.wrap ((BitVec.ofInt 64 (a : Int) &&& BitVec.ofInt 64 1).toNat : Int) = _
  rw [BitVec.toNat_and, h1, h2, Nat.and_one_is_mod, IntKind.wrap_i64]
  omega
namespace Pt
theorem halves (n i : Nat) : n / 2 ^ i = n / 2 ^ (i + 1) * 2 + n / 2 ^ i % 2 := by
  rw [Nat.pow_succ, ← Nat.div_div_eq_div_mul]
  omega
theorem sum3 (q E d S : Nat) : (q * 2 + E + d) * S = q * S * 2 + E * S + d * S := by
  rw [Nat.add_mul, Nat.add_mul, Nat.mul_right_comm]
/-- One bit more: E carries. -/
theorem zero_ok {n v S i q r E r' : Nat} (HI : q * S + r = n / 2 ^ (i + 1) * v) (hb : n / 2 ^ i % 2 = 0) (hr : r * 2 = E * S + r') : (q * 2 + E) * S + r' = n / 2 ^ i * v := by
  have e := sum3 q E 0 S
  rw [Nat.zero_mul, Nat.add_zero, Nat.add_zero] at e
  rw [halves n i, hb, Nat.add_zero, Nat.mul_right_comm, ← HI, e]
  omega
theorem one_ok {n v S i q r d m E r' : Nat} (HI : q * S + r = n / 2 ^ (i + 1) * v) (hv : v = d * S + m) (hb : n / 2 ^ i % 2 = 1) (hr : r * 2 + m = E * S + r') : (q * 2 + E + d) * S + r' = n / 2 ^ i * v := by
  have e := sum3 q E d S
  rw [e, halves n i, hb, Nat.add_mul (n / 2 ^ (i + 1) * 2), Nat.one_mul, Nat.mul_right_comm (n / 2 ^ (i + 1)) 2 v, ← HI]
  omega
theorem low {n v S i q r : Nat} (h : q * S + r = n / 2 ^ i * v) (hv : v ≤ S) (hS : 0 < S) (hn : n ≤ 10000000000000) : q ≤ 10000000000000 := by
  have h1 : n / 2 ^ i ≤ n := Nat.div_le_self _ _
  have h2 : n / 2 ^ i * v ≤ n * S := Nat.mul_le_mul h1 hv
  have h3 : q * S ≤ n * S := by omega
  have := Nat.le_of_mul_le_mul_right h3 hS
  omega
end Pt
set_option maxHeartbeats 1000000 in
set_option maxRecDepth 100000 in
theorem rpart_up (n v S : Nat) (hn : n ≤ 10000000000000) (hv : v ≤ S) (hS0 : 0 < S) (hS : S ≤ 6000000000000000) (w : World) :
    Calls Try.prog 37 #[.int .i64 n, .int .i64 v, .int .i64 S] w fun e w' => e = .returned (.int .i64 ((n * v / S : Nat) : Int)) ∧ w = w' := by
  have t0 : decide ((n : Int) < 0) = false := by simp
  obtain ⟨X, hX⟩ : ∃ X : Nat, X = n * v / S := ⟨_, rfl⟩
  rw [← hX]
  have HX := hide hX
  clear hX
  obtain ⟨d, hd⟩ : ∃ d : Nat, d = v / S := ⟨_, rfl⟩
  obtain ⟨m, hm⟩ : ∃ m : Nat, m = v % S := ⟨_, rfl⟩
  have ed : (v : Int) / (S : Int) = (d : Int) := by rw [hd, Int.natCast_ediv]
  have em : (v : Int) % (S : Int) = (m : Int) := by rw [hm, Int.natCast_emod]
  have Hv : Hid (v = d * S + m) := hide (by rw [hd, hm, Nat.mul_comm]; exact (Nat.div_add_mod v S).symm)
  have bd : (d : Int) ≤ 1 := by
    have : v / S ≤ 1 := Nat.div_le_of_le_mul (by omega)
    omega
  have bm : (m : Int) < (S : Int) := by
    have : v % S < S := Nat.mod_lt _ hS0
    omega
  have Hvs := hide hv
  clear hd hm hv
  go_enter Try.func37, Try.ntmps37
  go_wp2_with fail
  go_loop [7, 8, 9] (fun a c d => ∃ j q r : Nat, j ≤ 63 ∧ d = .int .i64 ((j : Int) - 1) ∧ a = .int .i64 q ∧ c = .int .i64 r ∧ r < S ∧ q ≤ 10000000000000 ∧ Hid (q * S + r = n / 2 ^ j * v)) (fun _ _ d => (intOf d + 1).toNat)
  case atStart => exact ⟨63, 0, 0, by omega, by rfl, by rfl, by rfl, hS0, by omega, hide (by rw [Nat.div_eq_of_lt (by omega)]; simp)⟩
  case round =>
    obtain ⟨j, q, r, hj, rfl, rfl, rfl, hr, hq, HI⟩ := hrel
    by_cases hj0 : j = 0
    · subst hj0
      have HF : Hid (q = X) := hide (by
        rw [unhide HX]
        have h := unhide HI
        rw [Nat.pow_zero, Nat.div_one] at h
        rw [← h, Nat.mul_comm, Nat.mul_add_div hS0, Nat.div_eq_of_lt hr, Nat.add_zero])
      go_wp2_with fail
      go_ret
      exact ⟨ret_int (by rw [← unhide HF]), rfl⟩
    · obtain ⟨i, rfl⟩ : ∃ i : Nat, j = i + 1 := ⟨j - 1, by omega⟩
      have ei : ((i + 1 : Nat) : Int) - 1 = (i : Int) := by omega
      rw [ei]
      have eb : bits .and .i64 ((n : Int) / 2 ^ i) 1 = ((n / 2 ^ i % 2 : Nat) : Int) := by
        rw [shr_nat, and_one _ (Nat.lt_of_le_of_lt (Nat.div_le_self _ _) (by omega))]
      clear hj0 ei
      by_cases hbit : n / 2 ^ i % 2 = 0
      · rw [hbit] at eb
        have Hbit := hide hbit
        clear hbit
        by_cases h1 : (S : Int) ≤ (r : Int) * 2
        · have K := Pt.zero_ok (E := 1) (r' := r * 2 - S) (unhide HI) (unhide Hbit) (by omega)
          have K2 := Pt.low K (unhide Hvs) hS0 hn
          have HK := hide K
          clear K
          go_wp2_with fail
          go_round
          case rel => exact ⟨i, q * 2 + 1, r * 2 - S, by omega, rfl, congrArg (Value.int .i64) (by omega), congrArg (Value.int .i64) (by omega), by omega, K2, HK⟩
          case measure => simp [intOf]
        · have K := Pt.zero_ok (E := 0) (r' := r * 2) (unhide HI) (unhide Hbit) (by omega)
          have K2 := Pt.low K (unhide Hvs) hS0 hn
          have HK := hide K
          clear K
          go_wp2_with fail
          go_round
          case rel => exact ⟨i, q * 2 + 0, r * 2, by omega, rfl, congrArg (Value.int .i64) (by omega), congrArg (Value.int .i64) (by omega), by omega, K2, HK⟩
          case measure => simp [intOf]
      · have hbit1 : n / 2 ^ i % 2 = 1 := by omega
        rw [hbit1] at eb
        have Hbit := hide hbit1
        clear hbit hbit1
        by_cases h1 : (S : Int) ≤ (r : Int) * 2
        · by_cases h2 : (S : Int) ≤ (r : Int) * 2 - (S : Int) + (m : Int)
          · have K := Pt.one_ok (E := 2) (r' := r * 2 + m - 2 * S) (unhide HI) (unhide Hv) (unhide Hbit) (by omega)
            have K2 := Pt.low K (unhide Hvs) hS0 hn
            have HK := hide K
            clear K
            go_wp2_with fail
            go_round
            case rel => exact ⟨i, q * 2 + 2 + d, r * 2 + m - 2 * S, by omega, rfl, congrArg (Value.int .i64) (by omega), congrArg (Value.int .i64) (by omega), by omega, K2, HK⟩
            case measure => simp [intOf]
          · have K := Pt.one_ok (E := 1) (r' := r * 2 + m - S) (unhide HI) (unhide Hv) (unhide Hbit) (by omega)
            have K2 := Pt.low K (unhide Hvs) hS0 hn
            have HK := hide K
            clear K
            go_wp2_with fail
            go_round
            case rel => exact ⟨i, q * 2 + 1 + d, r * 2 + m - S, by omega, rfl, congrArg (Value.int .i64) (by omega), congrArg (Value.int .i64) (by omega), by omega, K2, HK⟩
            case measure => simp [intOf]
        · by_cases h2 : (S : Int) ≤ (r : Int) * 2 + (m : Int)
          · have K := Pt.one_ok (E := 1) (r' := r * 2 + m - S) (unhide HI) (unhide Hv) (unhide Hbit) (by omega)
            have K2 := Pt.low K (unhide Hvs) hS0 hn
            have HK := hide K
            clear K
            go_wp2_with fail
            go_round
            case rel => exact ⟨i, q * 2 + 1 + d, r * 2 + m - S, by omega, rfl, congrArg (Value.int .i64) (by omega), congrArg (Value.int .i64) (by omega), by omega, K2, HK⟩
            case measure => simp [intOf]
          · have K := Pt.one_ok (E := 0) (r' := r * 2 + m) (unhide HI) (unhide Hv) (unhide Hbit) (by omega)
            have K2 := Pt.low K (unhide Hvs) hS0 hn
            have HK := hide K
            clear K
            go_wp2_with fail
            go_round
            case rel => exact ⟨i, q * 2 + 0 + d, r * 2 + m, by omega, rfl, congrArg (Value.int .i64) (by omega), congrArg (Value.int .i64) (by omega), by omega, K2, HK⟩
            case measure => simp [intOf]
set_option maxHeartbeats 400000 in
theorem rpart_down (m v S X : Nat) (h0 : 0 < m) (hm : m ≤ 10000000000000) (hX : X ≤ 10000000000000)
    (hp : ∀ w : World, Calls Try.prog 37 #[.int .i64 m, .int .i64 v, .int .i64 S] w fun e w' => e = .returned (.int .i64 X) ∧ w = w') (w : World) :
    Calls Try.prog 37 #[.int .i64 (-(m : Int)), .int .i64 v, .int .i64 S] w fun e w' => e = .returned (.int .i64 (-(X : Int))) ∧ w = w' := by
  have HP := hide hp
  clear hp
  have hlt : -(m : Int) < 0 := by omega
  have e2 : - -(m : Int) = (m : Int) := by omega
  go_enter Try.func37, Try.ntmps37
  go_wp2_with fail
  refine (unhide HP _).mono ?_
  rintro e w' ⟨rfl, rfl⟩
  go_wp2_with fail
  go_ret
  exact ⟨rfl, rfl⟩
/-- part, at any amount that may be. -/
theorem rpart_any (n v S : Int) (hn : may n = true) (hv0 : 0 ≤ v) (hv : v ≤ S) (hS0 : 0 < S) (hS : S ≤ 6000000000000000) (w : World) :
    Calls Try.prog 37 #[.int .i64 n, .int .i64 v, .int .i64 S] w fun e w' => e = .returned (.int .i64 ((n * v).tdiv S)) ∧ w = w' := by
  have hn' := may_bd hn
  obtain ⟨V, rfl⟩ := Int.eq_ofNat_of_zero_le hv0
  obtain ⟨A, rfl⟩ := Int.eq_ofNat_of_zero_le (Int.le_of_lt hS0)
  have hq : ∀ m : Nat, m ≤ 10000000000000 → m * V / A ≤ 10000000000000 := by
    intro m hm
    refine Nat.le_trans (Nat.div_le_of_le_mul ?_) hm
    rw [Nat.mul_comm A]; exact Nat.mul_le_mul_left m (by omega)
  by_cases h0 : n < 0
  · obtain ⟨m, hm⟩ : ∃ m : Nat, n = -(m : Int) := ⟨n.natAbs, by omega⟩
    subst hm
    rw [Int.neg_mul, Int.neg_tdiv, ← Int.natCast_mul, ← Int.ofNat_tdiv]
    exact rpart_down m V A _ (by omega) (by omega) (hq m (by omega)) (rpart_up m V A (by omega) (by omega) (by omega) (by omega)) w
  · obtain ⟨m, rfl⟩ := Int.eq_ofNat_of_zero_le (Int.not_lt.1 h0)
    rw [← Int.natCast_mul, ← Int.ofNat_tdiv]
    exact rpart_up m V A (by omega) (by omega) (by omega) (by omega) w
end Go.Proofs.Ytgnhnffmojjncaa.Mn
/- What the document's Split answers, at any amount and any row of weights: the same parts as money's. -/
namespace Go.Proofs.Ytgnhnffmojjncaa.Mn
open Go.RowKit
/-- Since the world w, below its end nothing has turned; block g is a row of the call's own that begins with the numbers f 0 to f (len - 1). -/
structure OwnG (w wr : World) (g cap len : Nat) (f : Nat → Int) : Prop where
  below : Below w.heap.size w wr
  base : w.heap.size ≤ g
  owns : wr.ownsRow w.heap.size 2 1 (.slice (some ⟨g, 0, none⟩) len cap) len (((List.range len).map f).map (Value.int .i64))
theorem OwnG.cell {w wr : World} {g cap len : Nat} {f : Nat → Int} (h : OwnG w wr g cap len f) {k : Nat} (hk : k < len) : wr.cell? ⟨g, k, none⟩ = some (.int .i64 (f k)) := by
  rw [h.owns.cellAt k (by omega)]
  simp [hk]
theorem OwnG.frozen {w wr : World} {g cap len : Nat} {f : Nat → Int} (h : OwnG w wr g cap len f) (k : Nat) : wr.frozen? ⟨g, k, none⟩ = false := h.owns.frozenAt k
theorem OwnG.put {w wr : World} {g cap len : Nat} {f f' : Nat → Int} (h : OwnG w wr g cap len f) (k : Nat) (v : Int) (hf : ∀ j, (if j = k then v else f j) = f' j) : OwnG w (wr.setCell ⟨g, k, none⟩ (.int .i64 v)) g cap len f' := by
  refine ⟨h.below.setCell h.base _, h.base, ?_⟩
  have hs := (h.owns.stored k (.int .i64 v)).1
  have e : (((List.range len).map f).map (Value.int .i64)).set k (.int .i64 v) = ((List.range len).map f').map (Value.int .i64) := by
    refine List.ext_getElem (by simp) (fun j h1 h2 => ?_)
    have hj : j < len := by simpa using h2
    rw [List.getElem_set]
    simp only [List.getElem_map, List.getElem_range]
    rw [← hf j]
    by_cases e : k = j
    · rw [if_pos e, if_pos e.symm]
    · rw [if_neg e, if_neg (fun c => e c.symm)]
  rw [e] at hs
  exact hs
theorem OwnG.as {w wr : World} {g cap len : Nat} {f f' : Nat → Int} (h : OwnG w wr g cap len f) (hf : ∀ j, f j = f' j) : OwnG w wr g cap len f' := by
  have e : f = f' := funext hf
  rw [← e]; exact h
theorem OwnG.row {w wr : World} {g cap len : Nat} {f : Nat → Int} (h : OwnG w wr g cap len f) (hm : len ≤ maxLen) (hf : ∀ j, In64 (f j)) : Row wr (.slice (some ⟨g, 0, none⟩) len cap) ((List.range len).map f) := by
  by_cases h0 : len = 0
  · subst h0; exact Or.inl ⟨_, cap, rfl, rfl⟩
  · refine Or.inr ⟨g, 0, cap, by simp, by simp; omega, by simpa using hm, fun j hj => ?_, fun z hz => ?_⟩
    · have hj' : j < len := by simpa using hj
      rw [Nat.zero_add, h.cell hj']
      simp [List.getD, hj']
    · obtain ⟨j, _, rfl⟩ := List.mem_map.1 hz
      exact hf j
/-- A row that was built by append, with something in it, has a block of its own. -/
theorem Grow.own {w wr : World} {v : Value} {len : Nat} {f : Nat → Int} (h : Grow 2 w wr v ((List.range len).map f)) (h0 : 0 < len) : ∃ g cap, v = .slice (some ⟨g, 0, none⟩) len cap ∧ OwnG w wr g cap len f := by
  have ho := h.owns
  rw [List.length_map, List.length_range] at ho
  rcases ho.2 with ⟨_, h1⟩ | ⟨g, cap, cur, rfl, hb, _⟩
  · omega
  · exact ⟨g, cap, rfl, h.below, hb, ho⟩
theorem may_nonneg {v : Int} (h : 0 ≤ v) : may v = decide (v ≤ 10000000000000) := by
  unfold may
  rw [decide_eq_true (show -10000000000000 ≤ v by omega), Bool.true_and]
theorem rsplit_empty (n : Int) (a : Option Addr) (cap : Nat) (w : World) :
    Calls Try.prog 22 #[.int .i64 n, .slice a 0 cap] w fun e w' => e = .returned (.tuple #[.slice none 0 0, .int .i64 2]) ∧ w = w' := by
  go_enter Try.func22, Try.ntmps22
  go_wp2_with fail
  refine wp_loop_rounds 1 ?_
  rw [rounds_succ]
  go_wp2_with fail
  go_ret2
  exact ⟨rfl, rfl⟩
set_option maxHeartbeats 1000000 in
theorem rsplit_long (n z : Int) (b off len cap : Nat) (w : World) (h : 600 < len) (hc : w.cell? ⟨b, off, none⟩ = some (.int .i64 z)) :
    Calls Try.prog 22 #[.int .i64 n, .slice (some ⟨b, off, none⟩) len cap] w fun e w' => e = .returned (.tuple #[.slice none 0 0, .int .i64 2]) ∧ w = w' := by
  have h2 : (600 : Int) < (len : Int) := by omega
  have h3 : 0 < len := by omega
  by_cases hz : z < 0
  · go_enter Try.func22, Try.ntmps22
    go_wp2_with fail
    refine wp_loop_rounds 1 ?_
    rw [rounds_succ]
    go_wp2_with fail
    go_ret2
    exact ⟨rfl, rfl⟩
  · cases hm : may z with
    | false =>
      go_enter Try.func22, Try.ntmps22
      go_wp2_with fail
      refine wp_loop_rounds 1 ?_
      rw [rounds_succ]
      go_wp2_with fail
      refine (rmay_any z _).mono ?_
      rintro e w' ⟨rfl, rfl⟩
      go_wp2_with fail
      go_ret2
      exact ⟨rfl, rfl⟩
    | true =>
      go_enter Try.func22, Try.ntmps22
      go_wp2_with fail
      refine wp_loop_rounds 1 ?_
      rw [rounds_succ]
      go_wp2_with fail
      refine (rmay_any z _).mono ?_
      rintro e w' ⟨rfl, rfl⟩
      go_wp2_with fail
      go_ret2
      exact ⟨rfl, rfl⟩
end Go.Proofs.Ytgnhnffmojjncaa.Mn
/- What the document's Split answers, where it refuses, and where it splits. -/
namespace Go.Proofs.Ytgnhnffmojjncaa.Mn
open Go.RowKit
set_option maxHeartbeats 1000000 in
theorem rsplit_no (n : Int) (b off cap : Nat) (ws : List Int) (w : World) (h1 : 1 ≤ ws.length) (h2 : ws.length ≤ 600) (hno : (weighB ws && may n) = false)
    (hc : ∀ j, j < ws.length → w.cell? ⟨b, off + j, none⟩ = some (.int .i64 (ws.getD j 0))) :
    Calls Try.prog 22 #[.int .i64 n, .slice (some ⟨b, off, none⟩) ws.length cap] w fun e w' => e = .returned (.tuple #[.slice none 0 0, .int .i64 2]) ∧ w = w' := by
  have HC := hide hc
  have Hend : Hid ((∀ j, j < ws.length → 0 ≤ ws.getD j 0 ∧ ws.getD j 0 ≤ 10000000000000) → total ws ≠ 0 → may n = false) := hide (fun h ht => by
    have hg := good_of h1 h2 h
    rw [weighB_yes hg] at hno
    simpa [ht] using hno)
  have Hsum := hide (fun k h => total_take_succ ws k h)
  have Htake := hide (List.take_of_length_le (l := ws) (i := ws.length) (Nat.le_refl _))
  clear hc hno
  generalize ws.length = len at *
  have d2 : decide (600 < (len : Int)) = false := by simp; omega
  go_enter Try.func22, Try.ntmps22
  go_wp2_with fail
  go_loop [6, 18] (fun s i => ∃ (k : Nat) (t : Int), k ≤ len ∧ i = .int .i64 k ∧ s = .int .i64 t ∧ 0 ≤ t ∧ t ≤ 10000000000000 * k ∧ Hid (t = total (ws.take k)) ∧ Hid (∀ j, j < k → 0 ≤ ws.getD j 0 ∧ ws.getD j 0 ≤ 10000000000000)) (fun _ i => len - (intOf i).toNat)
  case atStart => exact ⟨0, 0, by omega, rfl, rfl, by omega, by omega, hide rfl, hide (fun j hj => by omega)⟩
  case round =>
    obtain ⟨k, t, hk, rfl, rfl, ht1, ht2, HT, HG⟩ := hrel
    by_cases hlt : k < len
    · have hck := unhide HC k hlt
      have HS := hide (unhide Hsum k hlt)
      have HG' : Hid (0 ≤ ws.getD k 0 ∧ ws.getD k 0 ≤ 10000000000000 → ∀ j, j < k + 1 → 0 ≤ ws.getD j 0 ∧ ws.getD j 0 ≤ 10000000000000) := hide (fun h j hj => by
        by_cases e : j = k
        · rw [e]; exact h
        · exact unhide HG j (by omega))
      generalize ws.getD k 0 = z at *
      by_cases hz0 : z < 0
      · go_wp2_with fail
        go_ret2
        exact ⟨rfl, rfl⟩
      · cases hm : may z with
        | false =>
          go_wp2_with fail
          refine (rmay_any z _).mono ?_
          rintro e w' ⟨rfl, rfl⟩
          go_wp2_with fail
          go_ret2
          exact ⟨rfl, rfl⟩
        | true =>
          have hzb := may_bd hm
          go_wp2_with fail
          refine (rmay_any z _).mono ?_
          rintro e w' ⟨rfl, rfl⟩
          go_wp2_with fail
          go_round
          case rel => exact ⟨k + 1, t + z, by omega, by go_num, rfl, by omega, by omega, hide (by rw [unhide HS, ← unhide HT]), hide (unhide HG' ⟨by omega, by omega⟩)⟩
          case measure => simp [intOf]; omega
    · have hk2 : k = len := by omega
      subst hk2
      have HT2 : Hid (t = total ws) := hide (by rw [unhide HT, unhide Htake])
      by_cases h0 : t = 0
      · have t1 : (t == 0) = true := by simp [h0]
        clear h0
        go_wp2_with fail
        go_ret2
        exact ⟨rfl, rfl⟩
      · have t1 : (t == 0) = false := by simp [h0]
        have hm := unhide Hend (unhide HG) (by rw [← unhide HT2]; exact h0)
        clear h0
        go_wp2_with fail
        refine (rmay_any n _).mono ?_
        rintro e w' ⟨rfl, rfl⟩
        go_wp2_with fail
        go_ret2
        exact ⟨rfl, rfl⟩
def shL (n : Int) (ws : List Int) (k : Nat) : List Int := (List.range k).map (sh n ws)
theorem shL_succ (n : Int) (ws : List Int) (k : Nat) : shL n ws k ++ [sh n ws k] = shL n ws (k + 1) := by
  unfold shL
  rw [List.range_succ, List.map_append]
  rfl
set_option maxHeartbeats 4000000 in
set_option maxRecDepth 100000 in
theorem rsplit_yes (n : Int) (b off cap : Nat) (ws : List Int) (w : World) (hg : good ws = true) (ht : total ws ≠ 0) (hn : may n = true)
    (hc : ∀ j, j < ws.length → w.cell? ⟨b, off + j, none⟩ = some (.int .i64 (ws.getD j 0))) :
    Calls Try.prog 22 #[.int .i64 n, .slice (some ⟨b, off, none⟩) ws.length cap] w fun e w' => ∃ u, e = .returned (.tuple #[u, .int .i64 0]) ∧ Row w' u (partL n ws) ∧ Below w.heap.size w w' := by
  have h1 := (good_len hg).1
  have h2 := (good_len hg).2
  have hb : b < w.heap.size := lt_of_cell (hc 0 (by omega))
  have hT := good_total hg
  have hnb := may_bd hn
  have HC := hide hc
  have Hgood := hide (good_at hg)
  have Hsum := hide (fun k h => total_take_succ ws k h)
  have Htake := hide (List.take_of_length_le (l := ws) (i := ws.length) (Nat.le_refl _))
  have Hpart := hide (fun j w' => rpart_any n (ws.getD j 0) (total ws) hn (good_at hg j).1 (good_le hg j) (by omega) hT.2 w')
  have Hshb := hide (sh_bd hg hn)
  have HsumB := hide (sumTo_bd (sh_bd hg hn))
  have Hleft : Hid (leftOf n ws = n - sumTo (sh n ws) ws.length) := rfl
  have Hlb := hide (left_bd (n := n) hg ht)
  have Hyes := hide (fun k h hz => nz_yes (ws := ws) (k := k) h hz)
  have Hnoz := hide (fun k h hz => nz_no (ws := ws) (k := k) h hz)
  have Hin := hide (part_in64 hg hn)
  have Hpt : Hid (∀ i, part n ws i = giveAt (sh n ws) ws (leftOf n ws).natAbs (sgn (leftOf n ws)) ws.length i) := hide (fun _ => rfl)
  have HpL : Hid (partL n ws = (List.range ws.length).map (giveAt (sh n ws) ws (leftOf n ws).natAbs (sgn (leftOf n ws)) ws.length)) := rfl
  have Htz : Hid (total ws ≠ 0) := ht
  clear hc hg ht
  generalize ws.length = len at *
  have d2 : decide (600 < (len : Int)) = false := by simp; omega
  go_enter Try.func22, Try.ntmps22
  go_wp2_with fail
  go_loop [6, 18] (fun s i => ∃ (k : Nat) (t : Int), k ≤ len ∧ i = .int .i64 k ∧ s = .int .i64 t ∧ 0 ≤ t ∧ t ≤ 10000000000000 * k ∧ Hid (t = total (ws.take k))) (fun _ i => len - (intOf i).toNat)
  case atStart => exact ⟨0, 0, by omega, rfl, rfl, by omega, by omega, hide rfl⟩
  case round =>
    obtain ⟨k, t, hk, rfl, rfl, ht1, ht2, HT⟩ := hrel
    by_cases hlt : k < len
    · have hck := unhide HC k hlt
      have HS := hide (unhide Hsum k hlt)
      have hzb := unhide Hgood k
      generalize ws.getD k 0 = z at *
      have hm : may z = true := by simp [may]; omega
      go_wp2_with fail
      refine (rmay_any z _).mono ?_
      rintro e w' ⟨rfl, rfl⟩
      go_wp2_with fail
      go_round
      case rel => exact ⟨k + 1, t + z, by omega, by go_num, rfl, by omega, by omega, hide (by rw [unhide HS, ← unhide HT])⟩
      case measure => simp [intOf]; omega
    · have hk2 : k = len := by omega
      subst hk2
      obtain rfl : t = total ws := by rw [unhide HT, unhide Htake]
      have t1 : (total ws == 0) = false := by simp [unhide Htz]
      clear HT ht1 ht2
      go_wp2_with fail
      refine (rmay_any n _).mono ?_
      rintro e w' ⟨rfl, rfl⟩
      go_wp2_with fail
      clear t1 hn
      go_loopw [9, 10, 46] (fun o l i wr => ∃ (j : Nat) (t : Int), j ≤ k ∧ i = .int .i64 j ∧ l = .int .i64 t ∧ -10000000000000000 ≤ t ∧ t ≤ 10000000000000000 ∧ Hid (t = n - sumTo (sh n ws) j) ∧ Grow 2 w wr o (shL n ws j)) (fun _ _ i _ => k - (intOf i).toNat)
      case atStart => exact ⟨0, n, by omega, rfl, rfl, by omega, by omega, hide (by simp [sumTo]), Grow.nil _ _ _ (Below.refl _ _)⟩
      case round =>
        obtain ⟨j, t, hj, rfl, rfl, ht1, ht2, HT, hG⟩ := hrel
        by_cases hlt2 : j < k
        · have hck := (hG.below.cell (p := ⟨b, off + j, none⟩) hb).trans (unhide HC j hlt2)
          have HP : Hid (∀ w' : World, Calls Try.prog 37 #[.int .i64 n, .int .i64 (ws.getD j 0), .int .i64 (total ws)] w' fun e w1 => e = .returned (.int .i64 (sh n ws j)) ∧ w' = w1) := hide (unhide Hpart j)
          have hs1 := unhide Hshb j
          have hs2 : -10000000000000000 ≤ t - sh n ws j ∧ t - sh n ws j ≤ 10000000000000000 := by
            have h5 := unhide HsumB (j + 1)
            have h6 := unhide HT
            simp only [sumTo] at h5
            omega
          have Hnext : Hid (t - sh n ws j = n - sumTo (sh n ws) (j + 1)) := hide (by rw [unhide HT]; simp only [sumTo]; omega)
          have Hsl := hide (shL_succ n ws j)
          have hsn : (shL n ws j).length ≤ 1000000 := by simp [shL]; omega
          have HG := hide hG
          clear hG
          generalize ws.getD j 0 = z at *
          generalize sh n ws j = q at *
          generalize shL n ws j = zs at *
          go_wp2_with fail
          refine (unhide HP _).mono ?_
          rintro e w' ⟨rfl, rfl⟩
          go_wp2_with (at_builtin; refine push_law 2 22 Try.underlying22 info2 rfl _ _ rfl w wr _ zs q (unhide HG) rfl rfl hsn ⟨by omega, by omega⟩ ?_)
          intro v' w2 hG2
          have HG2 := hide hG2
          clear hG2
          go_wp2
          go_roundw
          case rel => exact ⟨j + 1, t - q, by omega, by go_num, rfl, hs2.1, hs2.2, Hnext, by rw [← unhide Hsl]; exact unhide HG2⟩
          case measure => simp [intOf]; omega
        · have hj2 : j = k := by omega
          subst hj2
          obtain ⟨g, cp, hv, ho⟩ := Grow.own hG (by omega)
          subst hv
          have HT2 : Hid (t = leftOf n ws) := hide (by rw [unhide Hleft]; exact unhide HT)
          by_cases h0 : t < 0
          · obtain ⟨L, hL⟩ : ∃ L : Nat, t = -(L : Int) := ⟨t.natAbs, by omega⟩
            subst hL
            have e1 : (leftOf n ws).natAbs = L := by rw [← unhide HT2]; omega
            have e2 : sgn (leftOf n ws) = -1 := by rw [← unhide HT2]; unfold sgn; rw [if_pos h0]
            rw [e1, e2] at HpL Hpt
            rw [e1] at Hlb
            have hLn := (unhide Hlb).1
            have HLn := hide hLn
            have ho0 : OwnG w wr g cp j (giveAt (sh n ws) ws L (-1) 0) := ho.as (fun i => by unfold giveAt; rw [if_neg (by omega)]; omega)
            clear hG ho HT hj hlt2 hLn e1 e2 h0
            have hL16 : L ≤ 10000000000000000 := by omega
            go_wp2_with fail
            go_loopw [10] (fun l wr => ∃ M K : Nat, l = .int .i64 (-(M : Int)) ∧ M ≤ 10000000000000000 ∧ Hid (K = 0 ∧ M = L ∨ K = j ∧ M = 0) ∧ OwnG w wr g cp j (giveAt (sh n ws) ws L (-1) K)) (fun l _ => (intOf l).natAbs)
            case atStart => exact ⟨L, 0, rfl, hL16, hide (Or.inl ⟨rfl, rfl⟩), ho0⟩
            case round =>
              obtain ⟨M, K, rfl, hM, HMK, how⟩ := hrel
              clear ho0
              by_cases hM0 : M = 0
              · subst hM0
                have HF : Hid (OwnG w wr g cp j (giveAt (sh n ws) ws L (-1) j)) := hide (by
                  rcases unhide HMK with ⟨hK, hML⟩ | ⟨hK, _⟩
                  · subst hK
                    exact how.as (giveAt_done (by omega) (by omega))
                  · rw [← hK]; rw [← hK] at how; exact how)
                go_wp2_with fail
                go_ret2
                refine ⟨_, rfl, ?_, (unhide HF).below⟩
                rw [unhide HpL]
                refine (unhide HF).row (by unfold maxLen; omega) (fun i => ?_)
                have hi := unhide Hin i
                have hpp : part n ws i = giveAt (sh n ws) ws L (-1) j i := by
                  have hq := unhide Hpt i
                  exact hq
                rw [← hpp]
                exact hi
              · have hM1 : (-(M : Int) != 0) = true := by rw [bne_iff_ne]; omega
                obtain ⟨rfl, rfl⟩ : K = 0 ∧ M = L := by
                  rcases unhide HMK with h | ⟨_, h⟩
                  · exact h
                  · exact absurd h hM0
                go_wp2_with fail
                go_loopw [10, 66] (fun l i wx => ∃ x Q : Nat, x ≤ j ∧ i = .int .i64 x ∧ l = .int .i64 (-(Q : Int)) ∧ Q ≤ 10000000000000000 ∧ Hid (Q = M - nz ws x) ∧ OwnG w wx g cp j (giveAt (sh n ws) ws M (-1) x)) (fun _ i _ => j - (intOf i).toNat)
                case atStart => exact ⟨0, M, by omega, rfl, rfl, hM, hide (by simp [nz]), how⟩
                case round =>
                  obtain ⟨x, Q, hx, rfl, rfl, hQ, HQ, hox⟩ := hrel
                  by_cases hlt3 : x < j
                  · have hck := (hox.below.cell (p := ⟨b, off + x, none⟩) hb).trans (unhide HC x hlt3)
                    have hpk := hox.cell hlt3
                    have hpf := hox.frozen x
                    have HY := hide (unhide Hyes x hlt3)
                    have HN := hide (unhide Hnoz x hlt3)
                    have Hpass := hide (giveAt_pass (ps := sh n ws) (ws := ws) (L := M) (s := -1) (k := x))
                    have Hgive := hide (giveAt_give (ps := sh n ws) (ws := ws) (L := M) (s := -1) (k := x))
                    have Hdone : Hid (M ≤ nz ws x → ∀ i, giveAt (sh n ws) ws M (-1) x i = giveAt (sh n ws) ws M (-1) (x + 1) i) := hide (fun h i => giveAt_done (by omega) h i)
                    have hsb := unhide Hshb x
                    rw [giveAt_here] at hpk
                    generalize ws.getD x 0 = z at *
                    generalize sh n ws x = p at *
                    by_cases hz : z = 0
                    · have hz1 : (z != 0) = false := by simp [hz]
                      have hown2 := hox.as (unhide Hpass hz)
                      have HQ2 : Hid (Q = M - nz ws (x + 1)) := hide (by rw [unhide HN hz]; exact unhide HQ)
                      clear hz
                      go_wp2_with fail
                      go_roundw
                      case rel => exact ⟨x + 1, Q, by omega, by go_num, rfl, hQ, HQ2, hown2⟩
                      case measure => simp [intOf]; omega
                    · have hz1 : (z != 0) = true := by simp [hz]
                      by_cases hQ0 : Q = 0
                      · subst hQ0
                        have hown2 := hox.as (unhide Hdone (by have := unhide HQ; omega))
                        have HQ2 : Hid (0 = M - nz ws (x + 1)) := hide (by have := unhide HQ; rw [unhide HY hz]; omega)
                        clear hz
                        go_wp2_with fail
                        go_roundw
                        case rel => exact ⟨x + 1, 0, by omega, by go_num, rfl, by omega, HQ2, hown2⟩
                        case measure => simp [intOf]; omega
                      · have hQ1 : -(Q : Int) < 0 := by omega
                        have HQ2 : Hid (Q - 1 = M - nz ws (x + 1)) := hide (by have := unhide HQ; rw [unhide HY hz]; omega)
                        have hown2 := hox.put x (p + -1) (unhide Hgive hz (by have := unhide HQ; omega))
                        clear hz
                        go_wp2_with fail
                        go_roundw
                        case rel => exact ⟨x + 1, Q - 1, by omega, by go_num, congrArg (Value.int .i64) (by omega), by omega, HQ2, hown2⟩
                        case measure => simp [intOf]; omega
                  · have hxj : x = j := by omega
                    subst hxj
                    have hQz : Q = 0 := by have := unhide HQ; have := unhide HLn; omega
                    subst hQz
                    go_wp2_with fail
                    go_roundw
                    case rel => exact ⟨0, x, rfl, by omega, hide (Or.inr ⟨rfl, rfl⟩), hox⟩
                    case measure => simp [intOf]; omega
          · obtain ⟨L, hL⟩ := Int.eq_ofNat_of_zero_le (Int.not_lt.1 h0)
            subst hL
            have e1 : (leftOf n ws).natAbs = L := by rw [← unhide HT2]; omega
            have e2 : sgn (leftOf n ws) = 1 := by rw [← unhide HT2]; unfold sgn; rw [if_neg h0]
            rw [e1, e2] at HpL Hpt
            rw [e1] at Hlb
            have hLn := (unhide Hlb).1
            have HLn := hide hLn
            have ho0 : OwnG w wr g cp j (giveAt (sh n ws) ws L 1 0) := ho.as (fun i => by unfold giveAt; rw [if_neg (by omega)]; omega)
            clear hG ho HT hj hlt2 hLn e1 e2 h0
            have hL16 : L ≤ 10000000000000000 := by omega
            go_wp2_with fail
            go_loopw [10] (fun l wr => ∃ M K : Nat, l = .int .i64 M ∧ M ≤ 10000000000000000 ∧ Hid (K = 0 ∧ M = L ∨ K = j ∧ M = 0) ∧ OwnG w wr g cp j (giveAt (sh n ws) ws L 1 K)) (fun l _ => (intOf l).natAbs)
            case atStart => exact ⟨L, 0, rfl, hL16, hide (Or.inl ⟨rfl, rfl⟩), ho0⟩
            case round =>
              obtain ⟨M, K, rfl, hM, HMK, how⟩ := hrel
              clear ho0
              by_cases hM0 : M = 0
              · subst hM0
                have HF : Hid (OwnG w wr g cp j (giveAt (sh n ws) ws L 1 j)) := hide (by
                  rcases unhide HMK with ⟨hK, hML⟩ | ⟨hK, _⟩
                  · subst hK
                    exact how.as (giveAt_done (by omega) (by omega))
                  · rw [← hK]; rw [← hK] at how; exact how)
                go_wp2_with fail
                go_ret2
                refine ⟨_, rfl, ?_, (unhide HF).below⟩
                rw [unhide HpL]
                refine (unhide HF).row (by unfold maxLen; omega) (fun i => ?_)
                have hi := unhide Hin i
                have hpp : part n ws i = giveAt (sh n ws) ws L 1 j i := by
                  have hq := unhide Hpt i
                  exact hq
                rw [← hpp]
                exact hi
              · have hM1 : ((M : Int) != 0) = true := by rw [bne_iff_ne]; omega
                obtain ⟨rfl, rfl⟩ : K = 0 ∧ M = L := by
                  rcases unhide HMK with h | ⟨_, h⟩
                  · exact h
                  · exact absurd h hM0
                go_wp2_with fail
                go_loopw [10, 66] (fun l i wx => ∃ x Q : Nat, x ≤ j ∧ i = .int .i64 x ∧ l = .int .i64 Q ∧ Q ≤ 10000000000000000 ∧ Hid (Q = M - nz ws x) ∧ OwnG w wx g cp j (giveAt (sh n ws) ws M 1 x)) (fun _ i _ => j - (intOf i).toNat)
                case atStart => exact ⟨0, M, by omega, rfl, rfl, hM, hide (by simp [nz]), how⟩
                case round =>
                  obtain ⟨x, Q, hx, rfl, rfl, hQ, HQ, hox⟩ := hrel
                  by_cases hlt3 : x < j
                  · have hck := (hox.below.cell (p := ⟨b, off + x, none⟩) hb).trans (unhide HC x hlt3)
                    have hpk := hox.cell hlt3
                    have hpf := hox.frozen x
                    have HY := hide (unhide Hyes x hlt3)
                    have HN := hide (unhide Hnoz x hlt3)
                    have Hpass := hide (giveAt_pass (ps := sh n ws) (ws := ws) (L := M) (s := 1) (k := x))
                    have Hgive := hide (giveAt_give (ps := sh n ws) (ws := ws) (L := M) (s := 1) (k := x))
                    have Hdone : Hid (M ≤ nz ws x → ∀ i, giveAt (sh n ws) ws M 1 x i = giveAt (sh n ws) ws M 1 (x + 1) i) := hide (fun h i => giveAt_done (by omega) h i)
                    have hsb := unhide Hshb x
                    rw [giveAt_here] at hpk
                    generalize ws.getD x 0 = z at *
                    generalize sh n ws x = p at *
                    by_cases hz : z = 0
                    · have hz1 : (z != 0) = false := by simp [hz]
                      have hown2 := hox.as (unhide Hpass hz)
                      have HQ2 : Hid (Q = M - nz ws (x + 1)) := hide (by rw [unhide HN hz]; exact unhide HQ)
                      clear hz
                      go_wp2_with fail
                      go_roundw
                      case rel => exact ⟨x + 1, Q, by omega, by go_num, rfl, hQ, HQ2, hown2⟩
                      case measure => simp [intOf]; omega
                    · have hz1 : (z != 0) = true := by simp [hz]
                      by_cases hQ0 : Q = 0
                      · subst hQ0
                        have hown2 := hox.as (unhide Hdone (by have := unhide HQ; omega))
                        have HQ2 : Hid (0 = M - nz ws (x + 1)) := hide (by have := unhide HQ; rw [unhide HY hz]; omega)
                        clear hz
                        go_wp2_with fail
                        go_roundw
                        case rel => exact ⟨x + 1, 0, by omega, by go_num, rfl, by omega, HQ2, hown2⟩
                        case measure => simp [intOf]; omega
                      · have hQ1 : (0 : Int) < (Q : Int) := by omega
                        have HQ2 : Hid (Q - 1 = M - nz ws (x + 1)) := hide (by have := unhide HQ; rw [unhide HY hz]; omega)
                        have hown2 := hox.put x (p + 1) (unhide Hgive hz (by have := unhide HQ; omega))
                        clear hz
                        go_wp2_with fail
                        go_roundw
                        case rel => exact ⟨x + 1, Q - 1, by omega, by go_num, congrArg (Value.int .i64) (by omega), by omega, HQ2, hown2⟩
                        case measure => simp [intOf]; omega
                  · have hxj : x = j := by omega
                    subst hxj
                    have hQz : Q = 0 := by have := unhide HQ; have := unhide HLn; omega
                    subst hQz
                    go_wp2_with fail
                    go_roundw
                    case rel => exact ⟨0, x, rfl, by omega, hide (Or.inr ⟨rfl, rfl⟩), hox⟩
                    case measure => simp [intOf]; omega
end Go.Proofs.Ytgnhnffmojjncaa.Mn
