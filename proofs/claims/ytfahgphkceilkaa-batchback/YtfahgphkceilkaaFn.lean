/- Lines: what they are, and to and fro. -/
import Derived.Test.YtfahgphkceilkaaRg
namespace Go.Proofs.Ytfahgphkceilkaa
open Go.RowKit
set_option linter.unusedVariables false
set_option linter.unusedSimpArgs false
abbrev Li : Type := Int × Int
abbrev liL (x : Li) : List Value := [.int .i64 x.1, .int .i64 x.2]
abbrev liA (l : List Li) (k : Nat) : Li := l.getD k (0, 0)
theorem fit_li (l : List Li) : Fit 2 (l.map liL) := fun f hf => by
  obtain ⟨x, _, rfl⟩ := List.mem_map.1 hf
  exact ⟨rfl, fun u hu => by simp at hu; rcases hu with rfl | rfl <;> rfl⟩
theorem getG_li (l : List Li) {k : Nat} (hk : k < l.length) (t : Nat) : getG (l.map liL) k t = (liL (liA l k)).getD t undef := by simp [getG, List.getD, hk]
theorem RowG.li {w : World} {b off n cap : Nat} {l : List Li} (h : RowG 2 w (.slice (some ⟨b, off, none⟩) n cap) (l.map liL)) {k : Nat} (hk : k < l.length) : w.cell? ⟨b, off + k * 2, none⟩ = some (.int .i64 (liA l k).1) ∧ w.cell? ⟨b, off + k * 2 + 1, none⟩ = some (.int .i64 (liA l k).2) := by
  have hk' : k < (l.map liL).length := by rw [List.length_map]; exact hk
  exact ⟨(h.cells hk' (t := 0) (by decide)).trans (by rw [getG_li l hk]; rfl), (h.cells hk' (t := 1) (by decide)).trans (by rw [getG_li l hk]; rfl)⟩
theorem li_take (l : List Li) {k : Nat} (h : k < l.length) : (l.take k).map liL ++ [liL (liA l k)] = (l.take (k + 1)).map liL := by
  rw [← take_getD (d := (0, 0)) h, List.map_append]
  rfl
theorem liA_mem {l : List Li} {k : Nat} (h : k < l.length) : liA l k ∈ l := by
  have : liA l k = l[k] := by simp [List.getD, h]
  rw [this]
  exact List.getElem_mem h
theorem info54 : (Try.prog.info? 54).map (fun i => (i.zero, i.size, i.bytes)) = some (some (.agg #[.int .i64 0, .int .i64 0]), 2, 16) := by kernel_rfl
theorem info60 : (Try.prog.info? 60).map (fun i => (i.zero, i.size, i.bytes)) = some (some (.agg #[.int .i64 0, .int .i64 0]), 2, 16) := by kernel_rfl
set_option maxHeartbeats 1000000 in
theorem to_row (b off cap : Nat) (l : List Li) (w : World) (hm : l.length ≤ 10000) (hU : RowG 2 w (.slice (some ⟨b, off, none⟩) l.length cap) (l.map liL)) :
    Calls Try.prog 26 #[.slice (some ⟨b, off, none⟩) l.length cap] w fun e w' => ∃ u, e = .returned u ∧ GrowG 54 2 w w' u (l.map liL) := by
  have HU := hide hU
  have HL : Hid (∀ k, ((l.take k).map liL).length + 1 ≤ 1000000) := hide (fun k => by rw [List.length_map, List.length_take]; omega)
  have HT := hide (fun k => li_take l (k := k))
  have HA : Hid ((l.take l.length).map liL = l.map liL) := hide (by rw [List.take_length])
  clear hU
  generalize hl : l.length = len at *
  go_enter Try.func26, Try.ntmps26
  go_wp2_with fail
  go_loopw [3, 8] (fun o i wr => ∃ k : Nat, k ≤ len ∧ i = .int .i64 k ∧ Hid (GrowG 54 2 w wr o ((l.take k).map liL))) (fun _ i _ => len - (intOf i).toNat)
  case atStart => exact ⟨0, by omega, rfl, hide (GrowG.nil _ _ _ _ (Below.refl _ _))⟩
  case round =>
    obtain ⟨k, hk, rfl, HG⟩ := hrel
    by_cases hlt : k < len
    · have hU2 := (unhide HU).keep (unhide HG).below
      obtain ⟨m0, m1⟩ := hU2.li (k := k) (by rw [hl]; exact hlt)
      have ht := hide (unhide HT k hlt)
      have hl2 := hide (unhide HL k)
      have HFt := hide (fit_li [liA l k])
      rw [List.map_cons, List.map_nil] at HFt
      have k1 : (k : Int) < (len : Int) := by omega
      unfold liL at ht HFt
      generalize (liA l k).1 = p at *
      generalize (liA l k).2 = q at *
      replace HG := hide (((unhide HG).alloc (.cells #[.int .i64 p, .int .i64 q] 60)).alloc (.cells #[.int .i64 p, .int .i64 q] 54))
      have HB : Hid (∀ j u, [[Value.int .i64 p, .int .i64 q]].flatten[j]? = some u → ((wr.alloc (.cells #[.int .i64 p, .int .i64 q] 60)).alloc (.cells #[.int .i64 p, .int .i64 q] 54)).cell? ((⟨wr.heap.size + 1, 0, none⟩ : Addr).add j) = some u) := hide (by
        have e : (wr.alloc (.cells #[.int .i64 p, .int .i64 q] 60)).heap.size = wr.heap.size + 1 := by simp
        rw [← e]
        exact one_cells (Blk.new (wr.alloc (.cells #[.int .i64 p, .int .i64 q] 60)) #[.int .i64 p, .int .i64 q] 54))
      generalize (l.take k).map liL = zs at *
      clear hU2
      go_wp2_with (at_builtin; refine pushG_law (ad := ⟨wr.heap.size + 1, 0, none⟩) (c := 1) (n := 1) 54 30 2 16 (.agg #[.int .i64 0, .int .i64 0]) (by decide) (by decide) rfl Try.underlying30 info54 rfl _ _ rfl w _ _ zs [[Value.int .i64 p, .int .i64 q]] (unhide HG) rfl rfl (by simp) (by simp [Act.eval, Act.put]) (unhide HB) (unhide HFt) (unhide hl2) ?_)
      intro v' w2 hG2 _
      replace hG2 := hide hG2
      go_wp2_with fail
      go_roundw
      case rel => exact ⟨k + 1, by omega, by go_num, by rw [← unhide ht]; exact hG2⟩
      case measure => simp [intOf]; omega
    · obtain rfl : k = len := by omega
      rw [unhide HA] at HG
      go_wp2_with fail
      go_ret
      exact ⟨_, rfl, unhide HG⟩
theorem to_empty (x : Option Addr) (cap : Nat) (w : World) : Calls Try.prog 26 #[.slice x 0 cap] w fun e w' => e = .returned (.slice none 0 0) ∧ w = w' := by
  go_enter Try.func26, Try.ntmps26
  go_wp2_with fail
  refine wp_loop_rounds 1 ?_
  rw [rounds_succ]
  go_wp2_with fail
  go_ret
  exact ⟨rfl, rfl⟩
theorem to_any (v : Value) (l : List Li) (w : World) (h : RowG 2 w v (l.map liL)) (hm : l.length ≤ 10000) : Calls Try.prog 26 #[v] w fun e w' => ∃ u, e = .returned u ∧ GrowG 54 2 w w' u (l.map liL) := by
  have h' := h
  rcases h with ⟨a, cap, rfl, h0, _⟩ | ⟨b, off, cap, rfl, h0, _⟩
  · rw [h0]
    refine (to_empty a cap w).mono ?_
    rintro e w' ⟨rfl, rfl⟩
    exact ⟨_, rfl, GrowG.nil _ _ _ _ (Below.refl _ _)⟩
  · rw [List.length_map] at h' ⊢
    exact to_row b off cap l w hm h'
set_option maxHeartbeats 1000000 in
theorem from_row (b off cap : Nat) (l : List Li) (w : World) (hm : l.length ≤ 10000) (hU : RowG 2 w (.slice (some ⟨b, off, none⟩) l.length cap) (l.map liL)) :
    Calls Try.prog 36 #[.slice (some ⟨b, off, none⟩) l.length cap] w fun e w' => ∃ u, e = .returned u ∧ GrowG 60 2 w w' u (l.map liL) := by
  have HU := hide hU
  have HL : Hid (∀ k, ((l.take k).map liL).length + 1 ≤ 1000000) := hide (fun k => by rw [List.length_map, List.length_take]; omega)
  have HT := hide (fun k => li_take l (k := k))
  have HA : Hid ((l.take l.length).map liL = l.map liL) := hide (by rw [List.take_length])
  clear hU
  generalize hl : l.length = len at *
  go_enter Try.func36, Try.ntmps36
  go_wp2_with fail
  go_loopw [3, 8] (fun o i wr => ∃ k : Nat, k ≤ len ∧ i = .int .i64 k ∧ Hid (GrowG 60 2 w wr o ((l.take k).map liL))) (fun _ i _ => len - (intOf i).toNat)
  case atStart => exact ⟨0, by omega, rfl, hide (GrowG.nil _ _ _ _ (Below.refl _ _))⟩
  case round =>
    obtain ⟨k, hk, rfl, HG⟩ := hrel
    by_cases hlt : k < len
    · have hU2 := (unhide HU).keep (unhide HG).below
      obtain ⟨m0, m1⟩ := hU2.li (k := k) (by rw [hl]; exact hlt)
      have ht := hide (unhide HT k hlt)
      have hl2 := hide (unhide HL k)
      have HFt := hide (fit_li [liA l k])
      rw [List.map_cons, List.map_nil] at HFt
      have k1 : (k : Int) < (len : Int) := by omega
      unfold liL at ht HFt
      generalize (liA l k).1 = p at *
      generalize (liA l k).2 = q at *
      replace HG := hide (((unhide HG).alloc (.cells #[.int .i64 p, .int .i64 q] 54)).alloc (.cells #[.int .i64 p, .int .i64 q] 60))
      have HB : Hid (∀ j u, [[Value.int .i64 p, .int .i64 q]].flatten[j]? = some u → ((wr.alloc (.cells #[.int .i64 p, .int .i64 q] 54)).alloc (.cells #[.int .i64 p, .int .i64 q] 60)).cell? ((⟨wr.heap.size + 1, 0, none⟩ : Addr).add j) = some u) := hide (by
        have e : (wr.alloc (.cells #[.int .i64 p, .int .i64 q] 54)).heap.size = wr.heap.size + 1 := by simp
        rw [← e]
        exact one_cells (Blk.new (wr.alloc (.cells #[.int .i64 p, .int .i64 q] 54)) #[.int .i64 p, .int .i64 q] 60))
      generalize (l.take k).map liL = zs at *
      clear hU2
      go_wp2_with (at_builtin; refine pushG_law (ad := ⟨wr.heap.size + 1, 0, none⟩) (c := 1) (n := 1) 60 22 2 16 (.agg #[.int .i64 0, .int .i64 0]) (by decide) (by decide) rfl Try.underlying22 info60 rfl _ _ rfl w _ _ zs [[Value.int .i64 p, .int .i64 q]] (unhide HG) rfl rfl (by simp) (by simp [Act.eval, Act.put]) (unhide HB) (unhide HFt) (unhide hl2) ?_)
      intro v' w2 hG2 _
      replace hG2 := hide hG2
      go_wp2_with fail
      go_roundw
      case rel => exact ⟨k + 1, by omega, by go_num, by rw [← unhide ht]; exact hG2⟩
      case measure => simp [intOf]; omega
    · obtain rfl : k = len := by omega
      rw [unhide HA] at HG
      go_wp2_with fail
      go_ret
      exact ⟨_, rfl, unhide HG⟩
theorem from_empty (x : Option Addr) (cap : Nat) (w : World) : Calls Try.prog 36 #[.slice x 0 cap] w fun e w' => e = .returned (.slice none 0 0) ∧ w = w' := by
  go_enter Try.func36, Try.ntmps36
  go_wp2_with fail
  refine wp_loop_rounds 1 ?_
  rw [rounds_succ]
  go_wp2_with fail
  go_ret
  exact ⟨rfl, rfl⟩
theorem from_any (v : Value) (l : List Li) (w : World) (h : RowG 2 w v (l.map liL)) (hm : l.length ≤ 10000) : Calls Try.prog 36 #[v] w fun e w' => ∃ u, e = .returned u ∧ GrowG 60 2 w w' u (l.map liL) := by
  have h' := h
  rcases h with ⟨a, cap, rfl, h0, _⟩ | ⟨b, off, cap, rfl, h0, _⟩
  · rw [h0]
    refine (from_empty a cap w).mono ?_
    rintro e w' ⟨rfl, rfl⟩
    exact ⟨_, rfl, GrowG.nil _ _ _ _ (Below.refl _ _)⟩
  · rw [List.length_map] at h' ⊢
    exact from_row b off cap l w hm h'
def sameL (l m : List Li) : Bool := decide (l = m)
theorem sameL_refl (l : List Li) : sameL l l = true := by simp [sameL]
theorem sameL_no {l m : List Li} (h : l ≠ m) : sameL l m = false := by simp [sameL, h]
theorem neq60 (p q r s : Int) (w : World) : (binOp .neq 60 (.agg #[.int .i64 p, .int .i64 q]) (.agg #[.int .i64 r, .int .i64 s])).run Try.prog w = .ok (.bool (!(p == r && q == s))) w := by
  have ht : Try.prog.underlying 60 = some (.struct (Try.prog.fieldsOf 60)) := by kernel_rfl
  have hp : Try.prog.stoodInHeld 60 = false := by kernel_rfl
  have hf := TypeDesc.struct.inj (Option.some.inj (ht.symm.trans Try.underlying60))
  have key : (Op.equalIn (9999 + 1) 60 (.agg #[.int .i64 p, .int .i64 q]) (.agg #[.int .i64 r, .int .i64 s])).run Try.prog w = .ok (p == r && q == s) w := by
    rw [run_equalIn_agg w 9999 60 _ _ ht hp, hf]
    simp [Op.eqFields, Go.part, isAgg, go_sem, Try.underlying2, Try.underlying3]
    by_cases h1 : p = r
    · by_cases h2 : q = s
      · simp [h1, h2, Go.part, isAgg, go_sem, Try.underlying2, Try.underlying3]
      · simp [h1, h2, Go.part, isAgg, go_sem, Try.underlying2, Try.underlying3]
    · simp [h1, Go.part, isAgg, go_sem, Try.underlying2, Try.underlying3]
  simp only [binOp]
  simp [Op.equal, Op.maxDepth, key]
end Go.Proofs.Ytfahgphkceilkaa
