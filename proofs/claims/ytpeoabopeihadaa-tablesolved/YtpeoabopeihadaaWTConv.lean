/- Rows of the program's and of the document's, one made of the other; whether they are the same. -/
import Derived.Test.YtpeoabopeihadaaWTChain
set_option linter.unusedVariables false
set_option linter.unusedSimpArgs false
set_option linter.unusedSectionVars false
namespace Go.Proofs.Ytpeoabopeihadaa.Mn
open Go.RowKit
attribute [local simp] Tri.typeInfo Tri.sizeOf Tri.underlying Tri.runUnderlying Tri.isAgg Tri.zeroValue Tri.depth Tri.stoodInHeld Tri.eqGuardType Tri.call15 Tri.call22 Tri.call23 Tri.call24 Tri.call25 Tri.call46 Tri.call49 Tri.call52 Tri.call54 Tri.call58 Tri.call59 Tri.call60 Tri.call61 Tri.call62 Tri.call63 Tri.call64 Tri.call65 Tri.call66 Tri.call67 Tri.call95 Tri.call106 Tri.call115 Tri.call116 Tri.call117 Tri.call118 Tri.call119 Tri.call120 Tri.call121 Tri.call122 Tri.call142 Tri.call143 Tri.call144 Tri.call145 Tri.call146 Tri.call147 Tri.call156 Tri.call157 Tri.call159 Tri.call160 Tri.call161 Tri.call162 Tri.call163 Tri.call164 Tri.call165 Tri.call175 Tri.call176 Tri.call186 Tri.call188 Tri.call205
theorem RowN.cells {m : Nat} {w : World} {b off n cap : Nat} {l : List (List Int)} (h : RowN m w (.slice (some ⟨b, off, none⟩) n cap) l) {j t : Nat} (hj : j < l.length) (ht : t < m) : w.cell? ⟨b, off + j * m + t, none⟩ = some (.int .i64 (getN l j t)) := by
  rcases h with ⟨a, c, h1, h2, _⟩ | ⟨b', off', c, h1, _, _, _, h2, _⟩
  · rw [h2] at hj; exact absurd hj (Nat.not_lt_zero j)
  · cases h1
    exact h2 j hj t ht
theorem RowN.open {m : Nat} {w : World} {u : Value} {l : List (List Int)} (h : RowN m w u l) (h0 : 0 < l.length) : ∃ b off cap, u = .slice (some ⟨b, off, none⟩) l.length cap ∧ l.length ≤ cap ∧ cap ≤ maxLen := by
  rcases h with ⟨a, c, h1, h2, _⟩ | ⟨b', off', c, h1, _, h2, h3, _⟩
  · rw [h2] at h0; exact absurd h0 (Nat.not_lt_zero _)
  · exact ⟨b', off', c, h1, h2, h3⟩
theorem info100 : ((Tri Try.prog).info? 100).map (fun i => (i.zero, i.size, i.bytes)) = some (some (.agg #[.int .i64 0, .int .i64 0, .int .i64 0, .int .i64 0]), 4, 32) := by kernel_rfl
theorem take_rows {l : List (List Int)} {k : Nat} (h : k < l.length) : l.take k ++ [l.getD k []] = l.take (k + 1) := by
  rw [List.take_succ_eq_append_getElem h]
  simp [List.getD, h]
theorem four_of {f : List Int} (h : f.length = 4) : f = [f.getD 0 0, f.getD 1 0, f.getD 2 0, f.getD 3 0] := by
  match f, h with
  | [a, b, c, d], _ => rfl
set_option maxHeartbeats 1000000 in
theorem tfrom_row (b off cap : Nat) (l : List (List Int)) (w : World) (hm : l.length ≤ 1000) (hU : RowN 4 w (.slice (some ⟨b, off, none⟩) l.length cap) l) (h0 : 0 < l.length) :
    Calls (Tri Try.prog) 59 #[.slice (some ⟨b, off, none⟩) l.length cap] w fun e w' => ∃ u, e = .returned u ∧ GrowN 100 4 w w' u l := by
  have HU := hide hU
  have HS := hide hU.small
  have HL : Hid (∀ k, (l.take k).length ≤ 1000000) := hide (fun k => by rw [List.length_take]; omega)
  have HT := hide (fun k => take_rows (l := l) (k := k))
  have HA : Hid (l.take l.length = l) := hide (List.take_length)
  clear hU
  generalize hl : l.length = len at *
  go_enter (Tri.at (by decide) Try.func59), Try.ntmps59
  go_wp2_with fail
  go_loopw [3, 8] (fun o i wr => ∃ k : Nat, k ≤ len ∧ i = .int .i64 k ∧ Hid (GrowN 100 4 w wr o (l.take k))) (fun _ i _ => len - (intOf i).toNat)
  case atStart => exact ⟨0, by omega, rfl, hide (GrowN.nil _ _ _ _ (Below.refl _ _))⟩
  case round =>
    obtain ⟨k, hk, rfl, HG⟩ := hrel
    by_cases hlt : k < len
    · have hU2 := (unhide HU).keep (unhide HG).below
      have d0 := hU2.cells (j := k) (t := 0) (by rw [hl]; exact hlt) (by decide)
      have d1 := hU2.cells (j := k) (t := 1) (by rw [hl]; exact hlt) (by decide)
      have d2 := hU2.cells (j := k) (t := 2) (by rw [hl]; exact hlt) (by decide)
      have d3 := hU2.cells (j := k) (t := 3) (by rw [hl]; exact hlt) (by decide)
      rw [Nat.add_zero] at d0
      have hin : (l.getD k []).length = 4 ∧ ∀ y ∈ l.getD k [], In64 y := by
        rw [show l.getD k [] = l[k]'(by rw [hl]; exact hlt) by simp [List.getD, hl, hlt]]
        exact unhide HS _ (List.getElem_mem _)
      have HIn := hide hin
      have HF := hide (four_of hin.1)
      have ht := hide (unhide HT k hlt)
      have hl2 := hide (unhide HL k)
      unfold getN at d0 d1 d2 d3
      generalize l.getD k [] = f at *
      generalize f.getD 0 0 = A at *
      generalize f.getD 1 0 = B at *
      generalize f.getD 2 0 = C at *
      generalize f.getD 3 0 = D at *
      have k1 : (k : Int) < (len : Int) := by omega
      replace HG := hide ((unhide HG).alloc (.cells #[.int .i64 A, .int .i64 B, .int .i64 C, .int .i64 D] 49))
      generalize l.take k = zs at *
      clear hU2 hin
      go_wp2_with (at_builtin; refine pushN_law 100 98 4 32 (.agg #[.int .i64 0, .int .i64 0, .int .i64 0, .int .i64 0]) (by decide) (by decide) rfl (Tri.und Try.underlying98) info100 rfl _ _ rfl w _ _ zs f #[.int .i64 A, .int .i64 B, .int .i64 C, .int .i64 D] (by rw [unhide HF]; rfl) (unhide HG) rfl (by simp [Act.eval, Act.put]) (unhide hl2) (unhide HIn) ?_)
      intro v' w2 hG2 _ _
      replace hG2 := hide hG2
      go_wp2_with fail
      go_roundw
      case rel => exact ⟨k + 1, by omega, by go_num, by rw [← unhide ht]; exact hG2⟩
      case measure => simp [intOf]; omega
    · obtain rfl : k = len := by omega
      rw [unhide HA] at HG
      go_wp2_with fail
      go_ret
      exact ⟨_, rfl, unhide HG⟩
theorem from_empty (x : Option Addr) (cap : Nat) (w : World) : Calls (Tri Try.prog) 59 #[.slice x 0 cap] w fun e w' => e = .returned (.slice none 0 0) ∧ w = w' := by
  go_enter (Tri.at (by decide) Try.func59), Try.ntmps59
  go_wp2_with fail
  refine wp_loop_rounds 1 ?_
  rw [rounds_succ]
  go_wp2_with fail
  go_ret
  exact ⟨rfl, rfl⟩
theorem tfrom_any (v : Value) (l : List (List Int)) (w : World) (h : RowN 4 w v l) (hm : l.length ≤ 1000) : Calls (Tri Try.prog) 59 #[v] w fun e w' => ∃ u, e = .returned u ∧ GrowN 100 4 w w' u l := by
  have h' := h
  rcases h with ⟨a, cap, rfl, rfl, _⟩ | ⟨b, off, cap, rfl, h0, _⟩
  · refine (from_empty a cap w).mono ?_
    rintro e w' ⟨rfl, rfl⟩
    exact ⟨_, rfl, GrowN.nil _ _ _ _ (Below.refl _ _)⟩
  · exact tfrom_row b off cap l w hm h' h0
theorem neq100 (p q r s : Int) (w : World) : (binOp .neq 100 (.agg #[.int .i64 p, .int .i64 q, .int .i64 r, .int .i64 s]) (.agg #[.int .i64 p, .int .i64 q, .int .i64 r, .int .i64 s])).run (Tri Try.prog) w = .ok (.bool false) w := by
  have ht : (Tri Try.prog).underlying 100 = some (.struct ((Tri Try.prog).fieldsOf 100)) := by kernel_rfl
  have hp : (Tri Try.prog).stoodInHeld 100 = false := by kernel_rfl
  have hf := TypeDesc.struct.inj (Option.some.inj (ht.symm.trans (Tri.und Try.underlying100)))
  have key : (Op.equalIn (9999 + 1) 100 (.agg #[.int .i64 p, .int .i64 q, .int .i64 r, .int .i64 s]) (.agg #[.int .i64 p, .int .i64 q, .int .i64 r, .int .i64 s])).run (Tri Try.prog) w = .ok true w := by
    rw [run_equalIn_agg w 9999 100 _ _ ht hp, hf]
    simp [Op.eqFields, Go.part, isAgg, go_sem, (Tri.und Try.underlying2)]
  simp only [binOp]
  simp [Op.equal, Op.maxDepth, key]
theorem same_empty (a a' : Option Addr) (c c' : Nat) (w : World) : Calls (Tri Try.prog) 58 #[.slice a 0 c, .slice a' 0 c'] w fun e w' => e = .returned (.bool true) ∧ w = w' := by
  go_enter (Tri.at (by decide) Try.func58), Try.ntmps58
  go_wp2
  refine wp_loop_rounds 1 ?_
  rw [rounds_succ]
  go_wp2
  go_ret
  exact ⟨rfl, rfl⟩
set_option maxHeartbeats 1600000 in
theorem same_row (b off c b' off' c' : Nat) (l : List (List Int)) (w : World) (hm : l.length ≤ 1000) (hx : RowN 4 w (.slice (some ⟨b, off, none⟩) l.length c) l) (hy : RowN 4 w (.slice (some ⟨b', off', none⟩) l.length c') l) :
    Calls (Tri Try.prog) 58 #[.slice (some ⟨b, off, none⟩) l.length c, .slice (some ⟨b', off', none⟩) l.length c'] w fun e w' => e = .returned (.bool true) ∧ ∃ n, w' = w.drewN n := by
  have HX := hide hx
  have HY := hide hy
  clear hx hy
  generalize hlen : l.length = len at *
  have d1 : ((len : Int) != (len : Int)) = false := by simp
  go_enter (Tri.at (by decide) Try.func58), Try.ntmps58
  go_wp2
  go_loopw [13] (fun i wr => ∃ k n : Nat, k ≤ len ∧ i = .int .i64 k ∧ wr = w.drewN n) (fun i _ => len - (intOf i).toNat)
  case atStart => exact ⟨0, 0, by omega, rfl, rfl⟩
  case round =>
    obtain ⟨k, n, hk, rfl, rfl⟩ := hrel
    by_cases hlt : k < len
    · have d0 := (unhide HX).cells (j := k) (t := 0) (by rw [hlen]; exact hlt) (by decide)
      have d1 := (unhide HX).cells (j := k) (t := 1) (by rw [hlen]; exact hlt) (by decide)
      have d2 := (unhide HX).cells (j := k) (t := 2) (by rw [hlen]; exact hlt) (by decide)
      have d3 := (unhide HX).cells (j := k) (t := 3) (by rw [hlen]; exact hlt) (by decide)
      have e0 := (unhide HY).cells (j := k) (t := 0) (by rw [hlen]; exact hlt) (by decide)
      have e1 := (unhide HY).cells (j := k) (t := 1) (by rw [hlen]; exact hlt) (by decide)
      have e2 := (unhide HY).cells (j := k) (t := 2) (by rw [hlen]; exact hlt) (by decide)
      have e3 := (unhide HY).cells (j := k) (t := 3) (by rw [hlen]; exact hlt) (by decide)
      rw [Nat.add_zero] at d0 e0
      generalize getN l k 0 = A at *
      generalize getN l k 1 = B at *
      generalize getN l k 2 = C at *
      generalize getN l k 3 = D at *
      have hb : ∀ w, (binOp .neq 100 (.agg #[.int .i64 A, .int .i64 B, .int .i64 C, .int .i64 D]) (.agg #[.int .i64 A, .int .i64 B, .int .i64 C, .int .i64 D])).run (Tri Try.prog) w = .ok (.bool false) w := fun w => neq100 A B C D w
      have k1 : (k : Int) < (len : Int) := by omega
      go_wp2
      go_quiet (fail)
      go_wp2
      go_roundw
      case rel => exact ⟨k + 1, n + nq, by omega, by go_num, rfl⟩
      case measure => simp [intOf]; omega
    · have hk2 : k = len := by omega
      subst hk2
      go_wp2
      go_ret
      exact ⟨rfl, n, rfl⟩
theorem tsame_any (v u : Value) (l : List (List Int)) (w : World) (hm : l.length ≤ 1000) (h : RowN 4 w v l) (h' : RowN 4 w u l) : Calls (Tri Try.prog) 58 #[v, u] w fun e w' => e = .returned (.bool true) ∧ ∃ n, w' = w.drewN n := by
  have k1 := h
  have k2 := h'
  rcases h with ⟨a, c, rfl, rfl, _⟩ | ⟨b, off, c, rfl, h0, _⟩
  · obtain ⟨a', c', rfl⟩ := rowN_slice h'
    exact (same_empty a a' c c' w).mono fun e w' h => ⟨h.1, 0, h.2.symm⟩
  · obtain ⟨b', off', c', rfl, _⟩ := h'.open h0
    exact same_row b off c b' off' c' l w hm k1 k2
end Go.Proofs.Ytpeoabopeihadaa.Mn
