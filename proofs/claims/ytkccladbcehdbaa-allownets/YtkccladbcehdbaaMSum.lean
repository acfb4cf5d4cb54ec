/- What money's Sum answers at any row of 64-bit numbers: the true sum, if the 64 bits hold it, whatever the sums on the way are. -/
import Derived.Test.YtkccladbcehdbaaMLeaf
namespace Go.Proofs.Ytkccladbcehdbaa.Mn
open Go.RowKit
def total : List Int → Int
  | [] => 0
  | z :: r => z + total r
theorem total_append (l m : List Int) : total (l ++ m) = total l + total m := by
  induction l with
  | nil => simp [total]
  | cons z r ih => simp [total, ih]; omega
theorem total_take_succ (zs : List Int) (k : Nat) (h : k < zs.length) : total (zs.take (k + 1)) = total (zs.take k) + zs.getD k 0 := by
  rw [List.take_succ_eq_append_getElem h, total_append]
  simp [total, List.getD, h]
theorem wrap_wrap (n z : Int) : wrap64 (wrap64 n + z) = wrap64 (n + z) := by
  unfold wrap64; omega
theorem turns_next {n z t : Int} (hz : In64 z) (h : n = wrap64 n + 18446744073709551616 * t) : n + z = wrap64 (n + z) + 18446744073709551616 * (t + turn (wrap64 n + z)) := by
  have h1 := in64_wrap n
  have e := wrap_turn (n := wrap64 n + z) (by have := h1.lo; have := hz.lo; omega) (by have := h1.hi; have := hz.hi; omega)
  rw [wrap_wrap] at e
  omega
theorem turns_iff {n t : Int} (h : n = wrap64 n + 18446744073709551616 * t) : t = 0 ↔ turn n = 0 := by
  constructor
  · intro c
    have : n = wrap64 n := by omega
    rw [this]; exact turn_in (in64_wrap n)
  · intro c
    have := wrap_in (in_of_turn c)
    omega
theorem turn_bd (n : Int) : -1 ≤ turn n ∧ turn n ≤ 1 := by
  unfold turn
  by_cases h1 : 9223372036854775807 < n
  · rw [if_pos h1]; omega
  · by_cases h2 : n < -9223372036854775808
    · rw [if_neg h1, if_pos h2]; omega
    · rw [if_neg h1, if_neg h2]; omega
/-- What a round makes of the sum and of the turns. -/
theorem gather_step {zs : List Int} {len k : Nat} {t : Int} (hlt : k < len) (hm : len ≤ 2 ^ 63 - 1) (ht1 : -(k : Int) ≤ t) (ht2 : t ≤ k)
    (hs : total (zs.take (k + 1)) = total (zs.take k) + zs.getD k 0)
    (hn : total (zs.take k) + zs.getD k 0 = wrap64 (total (zs.take k) + zs.getD k 0) + 18446744073709551616 * (t + turn (wrap64 (total (zs.take k)) + zs.getD k 0)))
    (hb : -1 ≤ turn (wrap64 (total (zs.take k)) + zs.getD k 0) ∧ turn (wrap64 (total (zs.take k)) + zs.getD k 0) ≤ 1) :
    ∃ (m : Nat) (u : Int), m ≤ len ∧ Value.int .i64 ((k : Int) + 1) = .int .i64 m ∧
      Value.int .i64 (wrap64 (wrap64 (total (zs.take k)) + zs.getD k 0)) = .int .i64 (wrap64 (total (zs.take m))) ∧
      Value.int .i64 (wrap64 (t + turn (wrap64 (total (zs.take k)) + zs.getD k 0))) = .int .i64 u ∧ -(m : Int) ≤ u ∧ u ≤ m ∧ Hid (total (zs.take m) = wrap64 (total (zs.take m)) + 18446744073709551616 * u) := by
  have hl : (len : Int) ≤ 9223372036854775807 := by omega
  refine ⟨k + 1, t + turn (wrap64 (total (zs.take k)) + zs.getD k 0), by omega, by simp, ?_, ?_, by omega, by omega, ?_⟩
  · rw [wrap_wrap, hs]
  · rw [wrap_in ⟨by omega, by omega⟩]
  · rw [hs]; exact hn
theorem gather_empty (a : Option Addr) (cap : Nat) (w : World) :
    Calls Try.prog 33 #[.slice a 0 cap] w fun e w' => e = .returned (.tuple #[.int .i64 0, .int .i64 0]) ∧ w = w' := by
  go_enter Try.func33, Try.ntmps33
  go_wp2
  refine wp_loop_rounds 1 ?_
  rw [rounds_succ]
  go_wp2
  go_ret2
  exact ⟨rfl, rfl⟩
set_option maxHeartbeats 400000 in
theorem gather_row (b off cap : Nat) (zs : List Int) (w : World) (hm : zs.length ≤ maxLen)
    (hc : ∀ j, j < zs.length → w.cell? ⟨b, off + j, none⟩ = some (.int .i64 (zs.getD j 0))) (hin : ∀ z ∈ zs, In64 z) :
    Calls Try.prog 33 #[.slice (some ⟨b, off, none⟩) zs.length cap] w fun e w' => ∃ t : Int, e = .returned (.tuple #[.int .i64 (wrap64 (total zs)), .int .i64 t]) ∧ (t = 0 ↔ turn (total zs) = 0) ∧ w = w' := by
  unfold maxLen at hm
  generalize hlen : zs.length = len at *
  have Hlen := hide hlen
  clear hlen
  go_enter Try.func33, Try.ntmps33
  go_wp2
  go_loop [4, 5, 12] (fun s u i => ∃ (k : Nat) (t : Int), k ≤ len ∧ i = .int .i64 k ∧ s = .int .i64 (wrap64 (total (zs.take k))) ∧ u = .int .i64 t ∧ -k ≤ t ∧ t ≤ k ∧ Hid (total (zs.take k) = wrap64 (total (zs.take k)) + 18446744073709551616 * t)) (fun _ _ i => len - (intOf i).toNat)
  case atStart => exact ⟨0, 0, by omega, rfl, by simp [total, wrap64], rfl, by omega, by omega, hide (by simp [total, wrap64])⟩
  case round =>
    obtain ⟨k, t, hk, rfl, rfl, rfl, ht1, ht2, HT⟩ := hrel
    by_cases hlt : k < len
    · have hck := hc k hlt
      have hzi := getD_in hin k
      have HS := hide (total_take_succ zs k (by rw [unhide Hlen]; exact hlt))
      have HN := hide (turns_next hzi (unhide HT))
      have hb := turn_bd (wrap64 (total (zs.take k)) + zs.getD k 0)
      go_wp2_with fail
      refine (plus_any _ _ (in64_wrap _) hzi _).mono ?_
      rintro e w' ⟨rfl, rfl⟩
      go_wp2_with fail
      go_round
      case rel =>
        simp only [← List.getD_eq_getElem?_getD]
        exact gather_step hlt hm ht1 ht2 (unhide HS) (unhide HN) hb
      case measure => simp [intOf]; omega
    · go_wp2
      go_ret2
      have hk2 : k = len := by omega
      subst hk2
      have hT : zs.take k = zs := List.take_of_length_le (by rw [unhide Hlen]; omega)
      have HT2 := unhide HT
      rw [hT] at HT2
      exact ⟨t, by rw [hT]; rfl, turns_iff HT2, rfl⟩
theorem gather_any (v : Value) (zs : List Int) (w : World) (h : Row w v zs) :
    Calls Try.prog 33 #[v] w fun e w' => ∃ t : Int, e = .returned (.tuple #[.int .i64 (wrap64 (total zs)), .int .i64 t]) ∧ (t = 0 ↔ turn (total zs) = 0) ∧ w = w' := by
  rcases h with ⟨a, cap, rfl, rfl⟩ | ⟨b, off, cap, rfl, _, hm, hc, hin⟩
  · refine (gather_empty a cap w).mono ?_
    rintro e w' ⟨rfl, rfl⟩
    have h0 : In64 0 := ⟨by omega, by omega⟩
    exact ⟨0, by rw [show total [] = 0 from rfl, wrap_in h0], ⟨fun _ => turn_in h0, fun _ => rfl⟩, rfl⟩
  · exact gather_row b off cap zs w hm hc hin
theorem sum_any (v : Value) (zs : List Int) (w : World) (h : Row w v zs) :
    Calls Try.prog 24 #[v] w fun e w' => e = .returned (.tuple #[.int .i64 (okN (total zs)), .int .i64 (okE (total zs))]) ∧ w = w' := by
  have H := hide h
  clear h
  go_enter Try.func24, Try.ntmps24
  go_wp2_with fail
  refine (gather_any v zs _ (unhide H)).mono ?_
  rintro e w' ⟨t, rfl, ht, rfl⟩
  have HT := hide ht
  clear ht
  go_wp2_with fail
  refine (exact_any (total zs) _ (unhide HT) _).mono ?_
  rintro e w' ⟨rfl, rfl⟩
  go_wp2_with fail
  go_ret2
  exact ⟨rfl, rfl⟩
end Go.Proofs.Ytkccladbcehdbaa.Mn
