/- Put. -/
import Derived.Test.YtfahgphkceilkaaBt
import Derived.Test.YtfahgphkceilkaaPt
import Derived.Test.YtfahgphkceilkaaSm
import Derived.Laws.MakeOwn
namespace Go.Proofs.Ytfahgphkceilkaa
open Go.RowKit
set_option linter.unusedVariables false
set_option linter.unusedSimpArgs false
theorem putB_no {s e : Int} {l : List Li} (h : ¬ chkB s e l = 0) : putB s e l = [] := if_neg h
theorem putB_ok {s e : Int} {l : List Li} (h : chkB s e l = 0) : putB s e l = putN s e l := if_pos h
abbrev upN (s e : Int) (l : List Li) (k : Nat) : List Nat := [76, 66] ++ numI 4 s ++ numI 4 e ++ numI 1 l.length ++ linesN (l.take k)
theorem upN_len (s e : Int) (l : List Li) (k : Nat) (h : k ≤ l.length) : (upN s e l k).length = 11 + 9 * k := by
  simp only [upN, List.length_append, numI_len, linesN_len, List.length_cons, List.length_nil, List.length_take]
  omega
theorem upN_next (s e : Int) (l : List Li) {k : Nat} (h : k < l.length) : upN s e l k ++ numI 1 (liA l k).1 ++ numI 8 (liA l k).2 = upN s e l (k + 1) := by
  unfold upN
  rw [← linesN_take l h]
  simp only [List.append_assoc]
theorem upN_zero (s e : Int) (l : List Li) : [76, 66] ++ numI 4 s ++ numI 4 e ++ numI 1 l.length = upN s e l 0 := by simp [upN, linesN]
theorem upN_all (s e : Int) (l : List Li) : upN s e l l.length = bodyN s e l := by simp [upN, bodyN]
theorem size54 : (Try.prog.info? 54).map (·.size) = some 2 := by kernel_rfl
theorem row54 : isRowB Try.prog 54 = true := by kernel_rfl
theorem size60 : (Try.prog.info? 60).map (·.size) = some 2 := by kernel_rfl
theorem row60 : isRowB Try.prog 60 = true := by kernel_rfl
theorem two_cells {w : World} {b : Nat} {p q : Int} {T : TypeId} (h : Blk w b #[.int .i64 p, .int .i64 q] T) : w.cell? ⟨b, 0, none⟩ = some (.int .i64 p) ∧ w.cell? ⟨b, 1, none⟩ = some (.int .i64 q) := ⟨h.at 0 _ rfl, h.at 1 _ rfl⟩
theorem made_row {w : World} (c : Nat) (hc : c ≤ 100000) : GrowG 5 1 w (w.alloc (.cells (madeCells (Value.int .u8 0).cells (c * 1)) 5)) (.slice (some ⟨w.heap.size, 0, none⟩) 0 c) (bys []) := by
  refine ⟨below1 _ _, World.ownsRow_made w _ c (Nat.le_refl _) (by unfold maxLen; omega) (size_madeCells _ _), fun f hf => by cases hf⟩
theorem made_run (w : World) (c : Int) (h0 : 0 ≤ c) (hc : c ≤ 100000) : (Instr.makeSlice 25 (.int .i64 0) (.int .i64 c)).run Try.prog w = .ok (.slice (some ⟨w.heap.size, 0, none⟩) 0 c.toNat) (w.alloc (.cells (madeCells (Value.int .u8 0).cells (c.toNat * 1)) 5)) := by
  obtain ⟨i0, hi, hz0, hz1, hz2⟩ := info_parts info5
  have := run_make (P := Try.prog) w 25 5 i0 (.int .u8 0) Try.underlying25 hi hz0 .i64 .i64 0 c (Int.le_refl _) h0 (by rw [hz2]; omega) (by omega)
  rw [hz1] at this
  exact this
set_option maxHeartbeats 2000000 in
theorem put_no (s e : Int) (v : Value) (l : List Li) (w : World) (h : RowG 2 w v (l.map liL)) (hc : ¬ chkB s e l = 0) : Calls Try.prog 10 #[.agg #[.int .i64 s, .int .i64 e, v]] w fun r w' => r = .returned (.tuple #[.slice none 0 0, .int .i64 (chkB s e l)]) ∧ Below w.heap.size w w' := by
  obtain ⟨a, cap, rfl⟩ := rowG_slice h
  generalize (l.map liL).length = n at *
  have HR := hide (h.alloc (.cells #[.int .i64 s, .int .i64 e, .slice a n cap] 32))
  have HB := hide (below1 w (.cells #[.int .i64 s, .int .i64 e, .slice a n cap] 32))
  have HX := hide (Blk.new w #[.int .i64 s, .int .i64 e, .slice a n cap] 32)
  have HQ := hide (fun W h => chkb_any s e (.slice a n cap) l W h)
  clear h
  generalize chkB s e l = C at *
  go_enter Try.func10, Try.ntmps10
  go_wp2_with (refine load_blk rfl 32 _ rfl (show Blk _ _ _ _ from unhide HX) rfl row32 size32 rfl ?_)
  refine (unhide HQ _ (unhide HR)).mono ?_
  rintro r w2 ⟨rfl, hb⟩
  replace HB := hide (below_via (unhide HB) hb)
  clear hb HR HQ HX
  go_wp2_with fail
  go_ret2
  exact ⟨rfl, unhide HB⟩
set_option maxHeartbeats 4000000 in
theorem put_ok (s e : Int) (v : Value) (l : List Li) (w : World) (h : RowG 2 w v (l.map liL)) (hc : chkB s e l = 0) : Calls Try.prog 10 #[.agg #[.int .i64 s, .int .i64 e, v]] w fun r w' => ∃ u, r = .returned (.tuple #[u, .int .i64 0]) ∧ GrowG 5 1 w w' u (bys (putN s e l)) := by
  have hl64 := (chkB_ok hc).2.2.1
  obtain ⟨a, cap, rfl⟩ := rowG_slice h
  have hn0 : (l.map liL).length = l.length := List.length_map ..
  rw [hn0] at h ⊢
  have HR := hide (h.alloc (.cells #[.int .i64 s, .int .i64 e, .slice a l.length cap] 32))
  have HB := hide (below1 w (.cells #[.int .i64 s, .int .i64 e, .slice a l.length cap] 32))
  have HX := hide (Blk.new w #[.int .i64 s, .int .i64 e, .slice a l.length cap] 32)
  have HQ := hide (fun W h => chkb_any s e (.slice a l.length cap) l W h)
  rw [hc] at HQ
  have HZ := hide (fun W => size_any l.length W (by omega))
  have HU0 := hide (upN_zero s e l)
  have HUk := hide (fun k h => upN_next s e l (k := k) h)
  have HUl := hide (fun k h => upN_len s e l k h)
  have HUa := hide (upN_all s e l)
  have HCs := hide (bodyN_bytes s e l)
  have HBl := hide (bodyN_len s e l)
  clear h hn0
  generalize hn : l.length = n at *
  go_enter Try.func10, Try.ntmps10
  go_wp2_with (refine load_blk rfl 32 _ rfl (show Blk _ _ _ _ from unhide HX) rfl row32 size32 rfl ?_)
  refine (unhide HQ _ (unhide HR)).mono ?_
  rintro r w2 ⟨rfl, hb⟩
  replace HR := hide ((show RowG _ _ _ _ from unhide HR).keep hb)
  replace HX := hide ((show Blk _ _ _ _ from unhide HX).keep hb)
  replace HB := hide (below_via (unhide HB) hb)
  clear hb HQ
  have c2 := (show Blk _ _ _ _ from unhide HX).at 2 (.slice a n cap) rfl
  go_wp2_with fail
  refine (unhide HZ _).mono ?_
  rintro r w3 ⟨rfl, rfl⟩
  have hmk := made_run w3 (15 + 9 * (n : Int)) (by omega) (by omega)
  have HG := hide (made_row (w := w3) (15 + 9 * (n : Int)).toNat (by omega))
  generalize (15 + 9 * (n : Int)).toNat = cp at *
  have HG2 := hide ((unhide HG).alloc (.cells #[.int .u8 76, .int .u8 66] 5))
  have HN := hide (row_new (w3.alloc (.cells (madeCells (Value.int .u8 0).cells (cp * 1)) 5)) [76, 66] (by decide) (by decide) #[.int .u8 76, .int .u8 66] rfl)
  clear HG
  generalize (Value.int .u8 0).cells = zc at *
  generalize madeCells zc (cp * 1) = mc at *
  go_wp2_with (at_builtin; refine pushB rfl _ _ rfl w3 _ _ _ [] [76, 66] (unhide HG2) rfl rfl (by simpa [Act.eval, Act.put] using unhide HN) (by decide) ?_)
  intro v4 w4 hg _
  have HG := hide hg
  have c0 := ((show Blk _ _ _ _ from unhide HX).keep hg.below).at 0 (.int .i64 s) rfl
  clear hg HG2 HN hmk c2
  go_wp2_with fail
  refine (put_int _ ([] ++ [76, 66]) s 4 w3 _ (unhide HG) (by decide) (by simp [numI_len])).mono ?_
  rintro r w5 ⟨u, rfl, hg, _⟩
  replace HG := hide hg
  have c1 := ((show Blk _ _ _ _ from unhide HX).keep hg.below).at 1 (.int .i64 e) rfl
  clear hg
  go_wp2_with fail
  refine (put_int _ ([] ++ [76, 66] ++ numI 4 s) e 4 w3 _ (unhide HG) (by decide) (by simp [numI_len])).mono ?_
  rintro r w6 ⟨u, rfl, hg, _⟩
  replace HG := hide hg
  have c2 := ((show Blk _ _ _ _ from unhide HX).keep hg.below).at 2 (.slice a n cap) rfl
  clear hg
  go_wp2_with fail
  refine (put_int _ ([] ++ [76, 66] ++ numI 4 s ++ numI 4 e) (n : Int) 1 w3 _ (unhide HG) (by decide) (by simp [numI_len])).mono ?_
  rintro r w7 ⟨u, rfl, hg, _⟩
  replace HG := hide (show GrowG 5 1 w3 w7 u (bys (upN s e l 0)) by
    have := unhide HU0
    rw [← this]
    exact hg)
  have c2 := ((show Blk _ _ _ _ from unhide HX).keep hg.below).at 2 (.slice a n cap) rfl
  clear hg HU0
  go_wp2_with fail
  go_loopw [5, 37] (fun o i wr => ∃ k : Nat, k ≤ n ∧ i = .int .i64 k ∧ Hid (GrowG 5 1 w3 wr o (bys (upN s e l k)))) (fun _ i _ => n - (intOf i).toNat)
  case atStart => exact ⟨0, by omega, rfl, HG⟩
  case round =>
    clear HG
    obtain ⟨k, hk, rfl, HG⟩ := hrel
    by_cases hlt : k < n
    · have hU := (show RowG _ _ _ _ from unhide HR).keep (unhide HG).below
      have hne : 0 < (l.map liL).length := by rw [List.length_map]; omega
      obtain ⟨b, off, cap', e1, _, _⟩ := hU.open hne
      injection e1 with e1 e2 e3
      subst e1 e3
      obtain ⟨m0, m1⟩ := hU.li (k := k) (by omega)
      have k1 : (k : Int) < (n : Int) := by omega
      have HUn := hide (unhide HUk k hlt)
      have HL := hide (unhide HUl k hk)
      clear hU e2 hne c2
      generalize (liA l k).1 = p at *
      generalize (liA l k).2 = q at *
      generalize hup : upN s e l (k + 1) = nx at *
      have HUP := hide hup
      clear hup
      generalize upN s e l k = now at *
      have HL2 := hide ((unhide HG).late (Nat.le_refl _))
      have HP := hide (Blk.new wr #[.int .i64 p, .int .i64 q] 54)
      replace HG := hide ((unhide HG).alloc (.cells #[.int .i64 p, .int .i64 q] 54))
      go_wp2_with fail
      refine (put_int _ now p 1 w3 _ (unhide HG) (by decide) (by rw [unhide HL]; omega)).mono ?_
      rintro r w8 ⟨u8, rfl, hg, hsp⟩
      obtain ⟨d0, d1⟩ := two_cells (hsp.keep (show Blk _ _ _ _ from unhide HP) (unhide HL2)).1
      replace HG := hide hg
      clear hg hsp HP HL2
      go_wp2_with fail
      refine (put_i64 _ (now ++ numI 1 p) q 8 w3 _ (unhide HG) (by decide) (by rw [List.length_append, unhide HL, numI_len]; omega)).mono ?_
      rintro r w9 ⟨u9, rfl, hg, _⟩
      rw [unhide HUn] at hg
      replace HG := hide hg
      clear hg d0 d1
      go_wp2_with fail
      go_roundw
      case rel => exact ⟨k + 1, by omega, by go_num, by rw [unhide HUP]; exact HG⟩
      case measure => simp [intOf]; omega
    · obtain rfl : k = n := by omega
      rw [unhide HUa] at HG
      have HM := hide (sum_any _ _ wr (unhide HG).row (unhide HCs))
      clear HUk HUl HR c2 hlt
      go_wp2_with fail
      refine (unhide HM).mono ?_
      rintro r w8 ⟨rfl, rfl⟩
      clear HM
      go_wp2_with fail
      refine (put_u32 _ _ (crcSum (bodyN s e l) : Nat) 4 w3 _ (unhide HG) (by decide) (by rw [unhide HBl]; omega)).mono ?_
      rintro r w9 ⟨u9, rfl, hg, _⟩
      replace HG := hide (hg.from (unhide HB))
      clear hg
      go_wp2_with fail
      go_ret2
      exact ⟨_, rfl, unhide HG⟩
theorem put_any (s e : Int) (v : Value) (l : List Li) (w : World) (h : RowG 2 w v (l.map liL)) : Calls Try.prog 10 #[.agg #[.int .i64 s, .int .i64 e, v]] w fun r w' => ∃ u, r = .returned (.tuple #[u, .int .i64 (chkB s e l)]) ∧ GrowG 5 1 w w' u (bys (putB s e l)) := by
  by_cases hc : chkB s e l = 0
  · rw [putB_ok hc, hc]
    exact put_ok s e v l w h hc
  · rw [putB_no hc]
    exact (put_no s e v l w h hc).mono fun r w' ⟨h1, h2⟩ => ⟨_, h1, GrowG.nil _ _ _ _ h2⟩
end Go.Proofs.Ytfahgphkceilkaa
