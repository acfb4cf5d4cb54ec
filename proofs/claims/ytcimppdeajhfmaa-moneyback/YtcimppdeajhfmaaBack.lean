/- Proved here: MoneyBack: at any two numbers of 64 bits and any count from 0 to 255: what was added is taken away again; a product is as many sums; a negative's negative is the amount. No condition. -/
import Derived.Test.YtcimppdeajhfmaaGrow
import Derived.ProofKit
import Derived.OpenShut
import Derived.ShutString
import Derived.ChangeOld
import Derived.Below
namespace Go.Proofs.Ytcimppdeajhfmaa.moneyBack
open Go.ChangeShapes Go.WideShapes Go.ChangeAt Go.RowKit
theorem total_replicate (n : Nat) (a : Int) : total (List.replicate n a) = a * n := by
  induction n with
  | zero => simp [total]
  | succ n ih =>
    show a + total (List.replicate n a) = a * ((n + 1 : Nat) : Int)
    rw [ih, show ((n + 1 : Nat) : Int) = (n : Int) + 1 from by omega, Int.mul_add]
    omega
theorem sub_back (a b : Int) (ha : In64 a) (hb : In64 b) (h : turn (a + b) = 0) (w : World) :
    Calls Try.prog 12 #[.int .i64 (a + b), .int .i64 b] w fun e w' => e = .returned (.tuple #[.int .i64 a, .int .i64 0]) ∧ w = w' := by
  have h1 := sub_any (a + b) b (in_of_turn h) hb w
  rw [show a + b - b = a from by omega, okN_in (turn_in ha), okE_in (turn_in ha)] at h1
  exact h1
theorem neg_back (a : Int) (ha : In64 a) (h : turn (-a) = 0) (w : World) :
    Calls Try.prog 16 #[.int .i64 (-a)] w fun e w' => e = .returned (.tuple #[.int .i64 a, .int .i64 0]) ∧ w = w' := by
  have h1 := neg_any (-a) (in_of_turn h) w
  rw [show - -a = a from by omega, okN_in (turn_in ha), okE_in (turn_in ha)] at h1
  exact h1
theorem sum_replicate (v : Value) (a : Int) (n : Nat) (w : World) (h : Row w v (List.replicate n a)) :
    Calls Try.prog 20 #[v] w fun e w' => e = .returned (.tuple #[.int .i64 (okN (a * n)), .int .i64 (okE (a * n))]) ∧ w = w' := by
  have h1 := sum_any v _ w h
  rw [total_replicate] at h1
  exact h1
set_option maxHeartbeats 2000000 in
theorem walk' (a b : Int) (n : Nat) (hn : n ≤ 255) (w : World) (ha : In64 a) (hb : In64 b) :
    Calls Try.prog 7 #[.int .i64 a, .int .i64 b, .int .u8 n] w fun e w' => e = .returned (.bool true) ∧ Below w.heap.size w w' := by
  go_enter Try.func7, Try.ntmps7
  go_wp2_with fail
  refine (alive_any _).mono ?_
  rintro e w1 ⟨rfl, hbel⟩
  have HB := hide hbel
  clear hbel
  go_wp2_with fail
  refine (add_any a b ha hb _).mono ?_
  rintro e w' ⟨rfl, rfl⟩
  by_cases h1 : turn (a + b) = 0
  · rw [okN_in h1, okE_in h1]
    have H1 := hide h1
    clear h1
    go_wp2_with fail
    refine (sub_back a b ha hb (unhide H1) _).mono ?_
    rintro e w' ⟨rfl, rfl⟩
    go_wp2_with fail
    refine (neg_any a ha _).mono ?_
    rintro e w' ⟨rfl, rfl⟩
    by_cases h2 : turn (-a) = 0
    · rw [okN_in h2, okE_in h2]
      have H2 := hide h2
      clear h2
      go_wp2_with fail
      refine (neg_back a ha (unhide H2) _).mono ?_
      rintro e w' ⟨rfl, rfl⟩
      go_wp2_with fail
      go_loopw [15, 63] (fun l i wr => ∃ k : Nat, k ≤ n ∧ i = .int .u8 k ∧ Grow w wr l (List.replicate k a)) (fun _ i _ => n - (intOf i).toNat)
      case atStart => exact ⟨0, by omega, rfl, Grow.nil _ _ (unhide HB)⟩
      case round =>
        obtain ⟨k, hk, rfl, hG⟩ := hrel
        have HG := hide hG
        clear hG
        by_cases hlt : k < n
        · go_wp2_with (at_builtin; refine push_law rfl _ _ rfl w wr _ (List.replicate k a) a (unhide HG) rfl rfl (by simp; omega) ha ?_)
          intro v' w2 hG2
          have HG2 := hide hG2
          clear hG2
          go_wp2
          go_roundw
          case rel => exact ⟨k + 1, by omega, by go_num, by rw [List.replicate_succ']; exact unhide HG2⟩
          case measure => simp [intOf]; omega
        · have hk2 : k = n := by omega
          subst hk2
          go_wp2_with fail
          refine (mul_any a k ha ⟨by omega, by omega⟩ _).mono ?_
          rintro e w' ⟨rfl, rfl⟩
          go_wp2_with fail
          refine (sum_replicate _ a k _ ((unhide HG).row (by simp; unfold maxLen; omega))).mono ?_
          rintro e w' ⟨rfl, rfl⟩
          generalize okN (a * k) = n1
          generalize okE (a * k) = e1
          go_wp2_with fail
          go_ret
          exact ⟨rfl, (unhide HG).below⟩
    · rw [okN_out h2, okE_out h2]
      clear h2
      go_wp2_with fail
      go_loopw [15, 63] (fun l i wr => ∃ k : Nat, k ≤ n ∧ i = .int .u8 k ∧ Grow w wr l (List.replicate k a)) (fun _ i _ => n - (intOf i).toNat)
      case atStart => exact ⟨0, by omega, rfl, Grow.nil _ _ (unhide HB)⟩
      case round =>
        obtain ⟨k, hk, rfl, hG⟩ := hrel
        have HG := hide hG
        clear hG
        by_cases hlt : k < n
        · go_wp2_with (at_builtin; refine push_law rfl _ _ rfl w wr _ (List.replicate k a) a (unhide HG) rfl rfl (by simp; omega) ha ?_)
          intro v' w2 hG2
          have HG2 := hide hG2
          clear hG2
          go_wp2
          go_roundw
          case rel => exact ⟨k + 1, by omega, by go_num, by rw [List.replicate_succ']; exact unhide HG2⟩
          case measure => simp [intOf]; omega
        · have hk2 : k = n := by omega
          subst hk2
          go_wp2_with fail
          refine (mul_any a k ha ⟨by omega, by omega⟩ _).mono ?_
          rintro e w' ⟨rfl, rfl⟩
          go_wp2_with fail
          refine (sum_replicate _ a k _ ((unhide HG).row (by simp; unfold maxLen; omega))).mono ?_
          rintro e w' ⟨rfl, rfl⟩
          generalize okN (a * k) = n1
          generalize okE (a * k) = e1
          go_wp2_with fail
          go_ret
          exact ⟨rfl, (unhide HG).below⟩
  · rw [okN_out h1, okE_out h1]
    clear h1
    go_wp2_with fail
    refine (neg_any a ha _).mono ?_
    rintro e w' ⟨rfl, rfl⟩
    by_cases h2 : turn (-a) = 0
    · rw [okN_in h2, okE_in h2]
      have H2 := hide h2
      clear h2
      go_wp2_with fail
      refine (neg_back a ha (unhide H2) _).mono ?_
      rintro e w' ⟨rfl, rfl⟩
      go_wp2_with fail
      go_loopw [15, 63] (fun l i wr => ∃ k : Nat, k ≤ n ∧ i = .int .u8 k ∧ Grow w wr l (List.replicate k a)) (fun _ i _ => n - (intOf i).toNat)
      case atStart => exact ⟨0, by omega, rfl, Grow.nil _ _ (unhide HB)⟩
      case round =>
        obtain ⟨k, hk, rfl, hG⟩ := hrel
        have HG := hide hG
        clear hG
        by_cases hlt : k < n
        · go_wp2_with (at_builtin; refine push_law rfl _ _ rfl w wr _ (List.replicate k a) a (unhide HG) rfl rfl (by simp; omega) ha ?_)
          intro v' w2 hG2
          have HG2 := hide hG2
          clear hG2
          go_wp2
          go_roundw
          case rel => exact ⟨k + 1, by omega, by go_num, by rw [List.replicate_succ']; exact unhide HG2⟩
          case measure => simp [intOf]; omega
        · have hk2 : k = n := by omega
          subst hk2
          go_wp2_with fail
          refine (mul_any a k ha ⟨by omega, by omega⟩ _).mono ?_
          rintro e w' ⟨rfl, rfl⟩
          go_wp2_with fail
          refine (sum_replicate _ a k _ ((unhide HG).row (by simp; unfold maxLen; omega))).mono ?_
          rintro e w' ⟨rfl, rfl⟩
          generalize okN (a * k) = n1
          generalize okE (a * k) = e1
          go_wp2_with fail
          go_ret
          exact ⟨rfl, (unhide HG).below⟩
    · rw [okN_out h2, okE_out h2]
      clear h2
      go_wp2_with fail
      go_loopw [15, 63] (fun l i wr => ∃ k : Nat, k ≤ n ∧ i = .int .u8 k ∧ Grow w wr l (List.replicate k a)) (fun _ i _ => n - (intOf i).toNat)
      case atStart => exact ⟨0, by omega, rfl, Grow.nil _ _ (unhide HB)⟩
      case round =>
        obtain ⟨k, hk, rfl, hG⟩ := hrel
        have HG := hide hG
        clear hG
        by_cases hlt : k < n
        · go_wp2_with (at_builtin; refine push_law rfl _ _ rfl w wr _ (List.replicate k a) a (unhide HG) rfl rfl (by simp; omega) ha ?_)
          intro v' w2 hG2
          have HG2 := hide hG2
          clear hG2
          go_wp2
          go_roundw
          case rel => exact ⟨k + 1, by omega, by go_num, by rw [List.replicate_succ']; exact unhide HG2⟩
          case measure => simp [intOf]; omega
        · have hk2 : k = n := by omega
          subst hk2
          go_wp2_with fail
          refine (mul_any a k ha ⟨by omega, by omega⟩ _).mono ?_
          rintro e w' ⟨rfl, rfl⟩
          go_wp2_with fail
          refine (sum_replicate _ a k _ ((unhide HG).row (by simp; unfold maxLen; omega))).mono ?_
          rintro e w' ⟨rfl, rfl⟩
          generalize okN (a * k) = n1
          generalize okE (a * k) = e1
          go_wp2_with fail
          go_ret
          exact ⟨rfl, (unhide HG).below⟩
theorem walk (a b c : Int) (w : World) (wa : (Lit.int .i64 a).wf = true) (wb : (Lit.int .i64 b).wf = true) (wc : (Lit.int .u8 c).wf = true) :
    Calls Try.prog 7 #[.int .i64 a, .int .i64 b, .int .u8 c] w fun e w' => e = .returned (.bool true) ∧ Below w.heap.size w w' := by
  have hc : 0 ≤ c ∧ c ≤ 255 := by
    simp only [Lit.wf, IntKind.min, IntKind.max, IntKind.signed, IntKind.bits, Bool.and_eq_true] at wc
    simpa using wc
  obtain ⟨n, rfl⟩ := Int.eq_ofNat_of_zero_le hc.1
  exact walk' a b n (by omega) w (in64_of wa) (in64_of wb)
theorem own : ownKnob Try.prog.godebug = none := by kernel_rfl
set_option linter.unusedVariables false in
set_option maxRecDepth 100000 in
theorem lifted (os : Os) (started : os.Started) (H : Type) (enc : TypeId × Value → H) :
    ReturnsInHanded {} Try.checked os 7 .any (Rows.moneyBackSpec.pre6 enc Try.prog Try.f7 Rows.moneyBackRow.domain false) (Rows.moneyBackSpec.post enc Try.prog Try.f7 false true false false) := by
  refine returnsInHanded_of_change (C := Try.checked) own started (by kernel_rfl) Try.func7
    (ChangeSpec.witness6 (enc := enc) (C := Try.checked) false ⟨#[], #[.int .i64 0, .int .i64 0, .int .u8 0], []⟩ 8 (by kernel_rfl) (by kernel_rfl) (by kernel_rfl) (by kernel_rfl)) ?_
  intro W base args ds gs before hval0 hW hcnd _
  have hval : ∀ (j : Nat) t v, Try.f7.params[j]? = some t → args[j]? = some v → Value.okWide Try.prog W .any base t v := hval0
  have hW' := hW
  obtain ⟨p, q, hA0, hV, rfl, hfz, hnd⟩ := hW
  have hA : DataW.TrodAll enc Try.prog W 0 (fun _ => true) true Try.f7.params.toList args.toList ds p := hA0
  rw [Try.params7] at hA hval
  obtain ⟨v0, vs0, d0, ds0, p0, q0, hargs, rfl, rfl, h0, r0⟩ := trodAll_cons hA
  obtain ⟨v1, vs1, d1, ds1, p1, q1, rfl, rfl, rfl, h1, r1⟩ := trodAll_cons r0
  obtain ⟨v2, vs2, d2, ds2, p2, q2, rfl, rfl, rfl, h2, r2⟩ := trodAll_cons r1
  obtain ⟨rfl, rfl, rfl⟩ := trodAll_nil r2
  obtain rfl : args = #[v0, v1, v2] := by cases args; simp_all
  obtain ⟨rfl, rfl⟩ := trodVars_none hV
  obtain ⟨a0, rfl, rfl, rfl, w0⟩ := open_int Try.underlying2 (hval 0 2 v0 rfl rfl) h0
  obtain ⟨a1, rfl, rfl, rfl, w1⟩ := open_int Try.underlying2 (hval 1 2 v1 rfl rfl) h1
  obtain ⟨a2, rfl, rfl, rfl, w2⟩ := open_int Try.underlying5 (hval 2 5 v2 rfl rfl) h2
  clear hA0 hval0
  simp only [List.append_nil] at hW'
  refine (walk a0 a1 a2 W w0 w1 w2).mono fun e W' ⟨he, bel⟩ => ?_
  subst he
  exact ⟨_, rfl, _, _, _, [], _, [], hW', trodAll_mk1 (shut_bool Try.underlying4 _), (trodAll_cons_mk (shut_int Try.underlying2 w0) (trodAll_cons_mk (shut_int Try.underlying2 w1) (trodAll_cons_mk (shut_int Try.underlying5 w2) trodAll_mk0))), rfl, bel.frame _, fun h => by cases h⟩
theorem over : Rows.moneyBackRow.holds Try.pinned (OpenSpec.ofChange Rows.moneyBackSpec) :=
  OpenClaim.holds_of_wide 7 Try.f7 rfl rfl rfl rfl rfl rfl rfl ⟨rfl, rfl, rfl, rfl, rfl⟩ rfl rfl rfl rfl rfl (by kernel_rfl) Try.func7 (by kernel_rfl)
    (of_decide_eq_true (by kernel_rfl)) (by unfold Func.isWrapper; first | (rw [if_pos (by decide +kernel)]; kernel_rfl) | (rw [if_neg (by decide +kernel)]; exact ⟨rfl, rfl⟩))
    (fun os started H enc _ => lifted os started H enc)
/-- The statement. -/
theorem proved : Rows.MoneyBackSaid := over
#print axioms proved
end Go.Proofs.Ytcimppdeajhfmaa.moneyBack
namespace Go.Proofs.Ytcimppdeajhfmaa
theorem moneyBack_holds : Rows.MoneyBackSaid := moneyBack.proved
end Go.Proofs.Ytcimppdeajhfmaa
