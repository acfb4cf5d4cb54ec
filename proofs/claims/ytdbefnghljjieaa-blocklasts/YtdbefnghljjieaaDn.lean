/- New, Of. -/
import Derived.Test.YtdbefnghljjieaaRd
namespace Go.Proofs.Ytdbefnghljjieaa
open Go.RowKit
set_option linter.unusedVariables false
set_option linter.unusedSimpArgs false
abbrev bysN (l : List Nat) : List (List Value) := l.map fun n : Nat => [Value.int .u8 (n : Int)]
theorem made_flat {z : List Value} {m : Nat} (hz : z.length = m) (hm : 0 < m) (n : Nat) : madeCells z.toArray (n * m) = ((List.replicate n z).flatten).toArray := by
  have hlen : ((List.replicate n z).flatten).length = n * m := by simp [hz]
  apply Array.ext_getElem?
  intro j
  by_cases hj : j < n * m
  · have hd : j / m < n := Nat.div_lt_of_lt_mul (by rw [Nat.mul_comm]; exact hj)
    have ht : j % m < z.length := by rw [hz]; exact Nat.mod_lt _ hm
    have e : j / m * m + j % m = j := by rw [Nat.mul_comm]; exact Nat.div_add_mod j m
    have f := flat_part (m := m) (L := List.replicate n z) (fun f hf => by rw [(List.mem_replicate.1 hf).2]; exact hz) (k := j / m) (f := z) (by simp [hd]) (j % m) z[j % m] (List.getElem?_eq_getElem ht)
    rw [e] at f
    have r : ((List.replicate n z).flatten).toArray[j]? = some z[j % m] := by rw [List.getElem?_toArray]; exact f
    rw [r]
    simp only [madeCells, Array.getElem?_map, List.size_toArray, hz]
    rw [Array.getElem?_range, if_pos hj]
    simp [ht]
  · rw [Array.getElem?_eq_none (by rw [size_madeCells]; omega), Array.getElem?_eq_none (by rw [List.size_toArray, hlen]; omega)]
def newS (n : Nat) : Stt := ⟨List.replicate n (some zs64), []⟩
theorem newS_good {n : Nat} (h0 : 0 < n) (h1 : n ≤ 4096) : Good (newS n) := ⟨by simp [newS, h0], by simp [newS, h1], fun x hx => by rw [(List.mem_replicate.1 hx).2]; exact zs_len, (fun q hq => by cases hq), (by simp [newS])⟩
theorem run_mk (T E : TypeId) (z : List Value) (hz : z.length = 65) (hu : Try.prog.underlying T = some (.slice E)) (hinfo : (Try.prog.info? E).map (fun i => (i.zero, i.size, i.bytes)) = some (some (.agg z.toArray), 65, 65)) (n : Nat) (h1 : n ≤ 4096) (w : World) : (Instr.makeSlice T (.int .i64 (n : Int)) (.int .i64 (n : Int))).run Try.prog w = .ok (.slice (some ⟨w.heap.size, 0, none⟩) n n) (w.alloc (.cells ((List.replicate n z).flatten).toArray E)) := by
  obtain ⟨i0, hi, hz0, hz1, hz2⟩ := info_parts hinfo
  have := run_make (P := Try.prog) w T E i0 _ hu hi hz0 .i64 .i64 n n (by omega) (by omega) (by rw [hz2]; omega) (by omega)
  rw [this, hz1]
  simp only [Int.toNat_natCast, Value.cells]
  rw [made_flat hz (by decide)]
theorem mk_rg {ops : Array Oper} {rest : List Oper} {o : Oper} {a : Act} {w : World} {Q : Exit → Act → World → Prop} (hgd : o.guard = none) (T E : TypeId) (x : Operand) (ho : o.op = .makeSlice T x x) (z : List Value) (hz : z.length = 65) (hu : Try.prog.underlying T = some (.slice E)) (hinfo : (Try.prog.info? E).map (fun i => (i.zero, i.size, i.bytes)) = some (some (.agg z.toArray), 65, 65)) {n : Nat} (hx : a.eval x = .int .i64 (n : Int)) (h1 : n ≤ 4096)
    (h : ∀ W, Blk W w.heap.size ((List.replicate n z).flatten).toArray E → Below w.heap.size w W → wpList Try.prog ops Q rest (a.put o.dst (.slice (some ⟨w.heap.size, 0, none⟩) n n)) W) : wpList Try.prog ops Q (o :: rest) a w := by
  refine wpList_plain hgd fun K hK => ?_
  unfold Oper.wp execOp
  simp only [ho, hx, Sem.run_bind, run_mk T E z hz hu hinfo n h1 w, Result.andThen_ok, Sem.run_pure]
  exact hK _ _ (h _ (Blk.new _ _ _) (below1 _ _))
theorem info76 : (Try.prog.info? 76).map (fun i => (i.zero, i.size, i.bytes)) = some (some (.agg (plV (some zs64)).toArray), 65, 65) := by kernel_rfl
theorem info68 : (Try.prog.info? 68).map (fun i => (i.zero, i.size, i.bytes)) = some (some (.agg (rbV (some zs64)).toArray), 65, 65) := by kernel_rfl
/-- A new store, in memory of its own. -/
def NewP (Y : Lay) (w w' : World) (e : Ending) (n : Nat) : Prop := ∃ p F, e = .returned (.tuple #[p, .int .i64 0]) ∧ Has Y w' p (newS n) F ∧ Below w.heap.size w w' ∧ ∀ k, F k → w.heap.size ≤ k
theorem new_no (n : Int) (w : World) (h : ¬ (1 ≤ n ∧ n ≤ 4096)) : Calls Try.prog 10 #[.int .i64 n] w fun e w' => e = .returned (.tuple #[.pointer none, .int .i64 2]) ∧ w' = w := by
  by_cases h1 : n < 1
  · go_enter Try.func10, Try.ntmps10
    go_wp2_with fail
    go_ret2
    exact ⟨rfl, rfl⟩
  · have h2 : 4096 < n := by omega
    go_enter Try.func10, Try.ntmps10
    go_wp2_with fail
    go_ret2
    exact ⟨rfl, rfl⟩
theorem new_ok (n : Nat) (w : World) (h0 : 1 ≤ n) (h1 : n ≤ 4096) : Calls Try.prog 10 #[.int .i64 (n : Int)] w fun e w' => NewP LP w w' e n := by
  have d1 : ¬ (n : Int) < 1 := by omega
  have d2 : ¬ (4096 : Int) < (n : Int) := by omega
  have H1 := hide h1
  have H0 := hide h0
  clear h1 h0
  go_enter Try.func10, Try.ntmps10
  go_wp2_with (refine mk_rg rfl 59 76 _ rfl (plV (some zs64)) (plV_len _ zs_len) Try.underlying59 info76 rfl (unhide H1) ?_)
  intro W HX hb
  have HX := hide HX
  have hb := hide hb
  have hs1 := (show Blk _ _ _ _ from unhide HX).lt
  have hs2 : w.heap.size ≤ w.heap.size := Nat.le_refl _
  generalize hbe : w.heap.size = bp at *
  go_wp2_with fail
  go_ret2
  refine ⟨_, _, rfl, ⟨W.heap.size, bp, .slice none 0 0, rfl, rfl, ⟨?_, ?_, ?_, ?_, ?_, ?_, ?_⟩⟩, ?_, ?_⟩
  · have e : (newS n).L.length = n := by simp [newS]
    rw [e]; exact Blk.new W _ _
  · have e : (newS n).L.map (LP).pc = List.replicate n (plV (some zs64)) := by simp [newS]
    rw [e]; exact (show Blk _ _ _ _ from unhide HX).alloc _
  · exact World.ownsRow_nil _ _ _ _
  · omega
  · intro c; cases c
  · intro c; cases c
  · exact newS_good (unhide H0) (unhide H1)
  · rw [hbe]; exact (unhide hb).alloc (by omega) _
  · intro k hk
    rw [hbe]
    rcases hk with e | e | e
    · omega
    · omega
    · cases e
theorem rnew_no (n : Int) (w : World) (h : ¬ (1 ≤ n ∧ n ≤ 4096)) : Calls Try.prog 11 #[.int .i64 n] w fun e w' => e = .returned (.tuple #[.pointer none, .int .i64 2]) ∧ w' = w := by
  by_cases h1 : n < 1
  · go_enter Try.func11, Try.ntmps11
    go_wp2_with fail
    go_ret2
    exact ⟨rfl, rfl⟩
  · have h2 : 4096 < n := by omega
    go_enter Try.func11, Try.ntmps11
    go_wp2_with fail
    go_ret2
    exact ⟨rfl, rfl⟩
theorem rnew_ok (n : Nat) (w : World) (h0 : 1 ≤ n) (h1 : n ≤ 4096) : Calls Try.prog 11 #[.int .i64 (n : Int)] w fun e w' => NewP LR w w' e n := by
  have d1 : ¬ (n : Int) < 1 := by omega
  have d2 : ¬ (4096 : Int) < (n : Int) := by omega
  have H1 := hide h1
  have H0 := hide h0
  clear h1 h0
  go_enter Try.func11, Try.ntmps11
  go_wp2_with (refine mk_rg rfl 41 68 _ rfl (rbV (some zs64)) (rbV_len _ zs_len) Try.underlying41 info68 rfl (unhide H1) ?_)
  intro W HX hb
  have HX := hide HX
  have hb := hide hb
  have hs1 := (show Blk _ _ _ _ from unhide HX).lt
  have hs2 : w.heap.size ≤ w.heap.size := Nat.le_refl _
  generalize hbe : w.heap.size = bp at *
  go_wp2_with fail
  go_ret2
  refine ⟨_, _, rfl, ⟨W.heap.size, bp, .slice none 0 0, rfl, rfl, ⟨?_, ?_, ?_, ?_, ?_, ?_, ?_⟩⟩, ?_, ?_⟩
  · have e : (newS n).L.length = n := by simp [newS]
    rw [e]; exact Blk.new W _ _
  · have e : (newS n).L.map (LR).pc = List.replicate n (rbV (some zs64)) := by simp [newS]
    rw [e]; exact (show Blk _ _ _ _ from unhide HX).alloc _
  · exact World.ownsRow_nil _ _ _ _
  · omega
  · intro c; cases c
  · intro c; cases c
  · exact newS_good (unhide H0) (unhide H1)
  · rw [hbe]; exact (unhide hb).alloc (by omega) _
  · intro k hk
    rw [hbe]
    rcases hk with e | e | e
    · omega
    · omega
    · cases e
/-- A block that begins with bytes. -/
def ofK (l : List Nat) (k : Nat) : List Nat := l.take k ++ List.replicate (64 - k) 0
def ofB (l : List Nat) : List Nat := ofK l (min l.length 64)
theorem ofK_len {l : List Nat} {k : Nat} (h : k ≤ l.length) (h2 : k ≤ 64) : (ofK l k).length = 64 := by simp [ofK]; omega
theorem ofB_len (l : List Nat) : (ofB l).length = 64 := ofK_len (Nat.min_le_left _ _) (Nat.min_le_right _ _)
theorem ofK_next {l : List Nat} {k : Nat} (h : k < l.length) (h2 : k < 64) : ((byv (ofK l k)).toArray).setIfInBounds k (.int .u8 (l.getD k 0 : Nat)) = (byv (ofK l (k + 1))).toArray := by
  rw [List.setIfInBounds_toArray]
  congr 1
  unfold byv
  have e : (Value.int .u8 (l.getD k 0 : Nat)) = (fun n : Nat => Value.int .u8 (n : Int)) (l.getD k 0) := rfl
  rw [e, ← List.map_set]
  congr 1
  unfold ofK
  rw [← take_getD (d := 0) h, List.set_append_right _ _ (by simp; omega), show 64 - k = (64 - (k + 1)) + 1 by omega, List.replicate_succ]
  simp [show min k l.length = k by omega]
theorem size5 : (Try.prog.info? 5).map (·.size) = some 1 := by kernel_rfl
set_option maxHeartbeats 1000000 in
set_option maxRecDepth 10000 in
theorem of_any (v : Value) (l : List Nat) (w : World) (hr : RowG 1 w v (bysN l)) : Calls Try.prog 14 #[v] w fun e w' => e = .returned (bk (ofB l)) ∧ Below w.heap.size w w' := by
  obtain ⟨x, cap, rfl⟩ := rowG_slice hr
  rw [List.length_map] at *
  have HR := hide hr
  have HN := hide (fun k h h2 => ofK_next (l := l) (k := k) h h2)
  have HL := hide (fun k h h2 => ofK_len (l := l) (k := k) h h2)
  have HE := hide (show ofK l (min l.length 64) = ofB l from rfl)
  have HC : Hid (∀ k : Nat, k < l.length → ∀ W, Below w.heap.size w W → ∃ b off, x = some ⟨b, off, none⟩ ∧ W.cell? ⟨b, off + k, none⟩ = some (.int .u8 (l.getD k 0 : Nat))) := hide (fun k hk W hb => by
    obtain ⟨b, off, c, e, _⟩ := hr.open (by rw [List.length_map]; omega)
    injection e with e1 e2 e3
    have hc := (hr.keep hb)
    rw [e1] at hc
    have := hc.cells (j := k) (t := 0) (by rw [List.length_map]; exact hk) (by decide)
    have hg : getG (bysN l) k 0 = .int .u8 (l.getD k 0 : Nat) := by simp [getG, List.getD, hk]
    rw [hg, Nat.mul_one, Nat.add_zero] at this
    exact ⟨b, off, e1, this⟩)
  have z0 := hide (show (byv zs64) = byv (ofK l 0) by unfold byv ofK zs64; simp)
  clear hr
  generalize hlen : l.length = len at *
  go_enter Try.func14, Try.ntmps14
  go_wp2_with (refine alloc_rg rfl 37 rfl al37 ?_)
  intro W H2 hb
  have H2 := hide H2
  have HB := hide hb
  have hs := hb.size
  have hs1 := (show Blk _ _ _ _ from unhide H2).lt
  clear hb
  generalize hb2 : w.heap.size = b2 at *
  go_wp2_with (refine alloc_rg rfl 37 rfl al37 ?_)
  intro W1 H3 hb
  have H3 := hide H3
  replace H2 := hide ((show Blk _ _ _ _ from unhide H2).keep hb)
  replace HB := hide ((unhide HB).trans (hb.mono (by omega)))
  have hs3 := (show Blk _ _ _ _ from unhide H3).lt
  clear hb
  generalize hb3 : W.heap.size = b3 at *
  go_wp2_with fail
  rw [unhide z0] at H3
  go_loopw [4] (fun i wr => ∃ k : Nat, k ≤ len ∧ k ≤ 64 ∧ i = .int .i64 (k : Int) ∧ Hid (Blk wr b3 (byv (ofK l k)).toArray 37) ∧ Hid (Blk wr b2 (byv zs64).toArray 37) ∧ Hid (Below b2 w wr)) (fun i _ => len - (intOf i).toNat)
  case atStart => exact ⟨0, by omega, by omega, rfl, H3, H2, HB⟩
  case round =>
    obtain ⟨k, hk, hk2, rfl, H3, H2, HB⟩ := hrel
    by_cases hlt : k < len ∧ k < 64
    · obtain ⟨h1, h2⟩ := hlt
      have k1 : (k : Int) < (len : Int) := by omega
      have d2 : decide ((k : Int) < 64) = true := decide_eq_true (by omega)
      obtain ⟨b, off, rfl, hc⟩ := unhide HC k h1 wr (unhide HB)
      have hne := (unhide H3).lt
      have HN1 := hide (unhide HN k h1 h2)
      have hl64 := hide (unhide HL k hk hk2)
      have hwr : IntKind.i64.wrap ((k : Int) + 1) = ((k + 1 : Nat) : Int) := by rw [IntKind.wrap_i64]; omega
      clear HC HR HN HL HE
      generalize l.getD k 0 = y at *
      go_wp2_with (refine store_cell (k := k) (v := .int .u8 (y : Int)) rfl 5 _ _ rfl (unhide H3) rfl rfl (by rw [List.size_toArray, byv_len, unhide hl64]; exact h2) size5 rfl (unhide HN1) ?_)
      intro W2 H32 hb4
      replace H32 := hide H32
      have H22 := hide (hb4.blk (show Blk _ _ _ _ from unhide H2) (by omega))
      have HB2 := hide ((unhide HB).trans (hb4.below (fun k e => by omega) (by have := (unhide HB).size; omega)))
      clear hb4
      go_wp2_with fail
      go_roundw
      case rel => exact ⟨k + 1, by omega, by omega, by go_num, H32, H22, HB2⟩
      case measure => simp [intOf]; omega
    · have hmin : min len 64 = k := by omega
      rw [hmin] at HE
      rw [unhide HE] at H3
      have hlo := hide (show (byv (ofB l)).length = 64 by rw [byv_len, ofB_len])
      have hE : IntKind.i64.wrap 0 = 0 := rfl
      by_cases h1 : k < len
      · have k1 : (k : Int) < (len : Int) := by omega
        have d2 : decide ((k : Int) < 64) = false := decide_eq_false (by omega)
        go_wp2_with (first | refine load_rg (l := byv (ofB l)) rfl 37 _ rfl (unhide H3).rg rfl row37 size37 (unhide hlo) ?_ | refine store_all (l := byv (ofB l)) rfl 37 _ _ rfl (unhide H2) rfl rfl size37 (by rw [List.size_toArray, byv_len, zs_len]) (unhide hlo) (one_byv _) ?_)
        intro W2 H22 hb4
        replace HB := hide ((unhide HB).trans (hb4.below (fun k e => by omega) (by have := (unhide HB).size; omega)))
        replace H22 := hide H22
        clear hb4
        go_wp2_with fail
        refine bodyPost_ret (res_c rfl (show Blk _ _ _ _ from unhide H22) row37 size37 (by rw [List.size_toArray]; exact unhide hlo) rfl) rfl ?_
        exact ⟨rfl, by have := unhide HB; rwa [← hb2] at this⟩
      · have k1 : ¬ (k : Int) < (len : Int) := by omega
        go_wp2_with (first | refine load_rg (l := byv (ofB l)) rfl 37 _ rfl (unhide H3).rg rfl row37 size37 (unhide hlo) ?_ | refine store_all (l := byv (ofB l)) rfl 37 _ _ rfl (unhide H2) rfl rfl size37 (by rw [List.size_toArray, byv_len, zs_len]) (unhide hlo) (one_byv _) ?_)
        intro W2 H22 hb4
        replace HB := hide ((unhide HB).trans (hb4.below (fun k e => by omega) (by have := (unhide HB).size; omega)))
        replace H22 := hide H22
        clear hb4
        go_wp2_with fail
        refine bodyPost_ret (res_c rfl (show Blk _ _ _ _ from unhide H22) row37 size37 (by rw [List.size_toArray]; exact unhide hlo) rfl) rfl ?_
        exact ⟨rfl, by have := unhide HB; rwa [← hb2] at this⟩
end Go.Proofs.Ytdbefnghljjieaa
