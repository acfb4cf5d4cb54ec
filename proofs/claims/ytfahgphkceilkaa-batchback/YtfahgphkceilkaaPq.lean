/- Put of the document. -/
import Derived.Test.YtfahgphkceilkaaPu
import Derived.Test.YtfahgphkceilkaaRv
import Derived.Test.YtfahgphkceilkaaSn
namespace Go.Proofs.Ytfahgphkceilkaa
open Go.RowKit
set_option linter.unusedVariables false
set_option linter.unusedSimpArgs false
def u64N (q : Int) : Nat := (q % 18446744073709551616).toNat
theorem u64N_wrap (q : Int) : IntKind.u64.wrap q = (u64N q : Nat) := by rw [IntKind.wrap_u64]; unfold u64N; omega
theorem num4_u64 (q : Int) : numB 4 (u64N q) = numI 4 q := by
  rw [← numI_nat]
  have e : ((u64N q : Nat) : Int) = q + 256 ^ 4 * (4294967296 * (-(q / 18446744073709551616))) := by
    rw [show ((256 : Int) ^ 4) = 4294967296 by decide]
    unfold u64N
    omega
  rw [e, numI_up]
theorem num8_u64 (q : Int) : numB 8 (u64N q) = numI 8 q := by
  rw [← numI_nat]
  have e : ((u64N q : Nat) : Int) = q + 256 ^ 8 * (-(q / 18446744073709551616)) := by
    rw [show ((256 : Int) ^ 8) = 18446744073709551616 by decide]
    unfold u64N
    omega
  rw [e, numI_up]
theorem num1 (q : Int) : numI 1 q = [(q % 256).toNat] := rfl
theorem grow_new (w : World) (cs : List Nat) (hm : cs.length ≤ maxLen) (vs : Array Value) (hv : vs.toList = cs.map (fun n : Nat => Value.int .u8 (n : Int))) : GrowG 5 1 w (w.alloc (.cells vs 5)) (.slice (some ⟨w.heap.size, 0, none⟩) cs.length cs.length) (bys cs) := by
  have hl : vs.size = cs.length := by rw [← Array.length_toList, hv, List.length_map]
  have hf : (bys cs).flatten = cs.map (fun n : Nat => Value.int .u8 (n : Int)) := by
    clear hm hv hl
    induction cs with
    | nil => rfl
    | cons c r ih => simp only [bys, List.map_cons, List.flatten_cons] at ih ⊢; rw [ih]; rfl
  refine ⟨below1 _ _, ⟨by rw [hf, bys_len, List.length_map, Nat.mul_one], Or.inr ⟨w.heap.size, cs.length, vs, by rw [bys_len], Nat.le_refl _, heap_alloc_new w _, by rw [bys_len]; exact Nat.le_refl _, hm, by rw [hl, Nat.mul_one], ?_⟩⟩, fit_by cs⟩
  rw [hf, hv, bys_len, Nat.mul_one]
  exact List.take_of_length_le (by rw [List.length_map]; exact Nat.le_refl _)
set_option maxHeartbeats 2000000 in
theorem rput_no (s e : Int) (v : Value) (l : List Li) (w : World) (h : RowG 2 w v (l.map liL)) (hc : ¬ chkB s e l = 0) : Calls Try.prog 12 #[.agg #[.int .i64 s, .int .i64 e, v]] w fun r w' => r = .returned (.tuple #[.slice none 0 0, .int .i64 (chkB s e l)]) ∧ Below w.heap.size w w' := by
  obtain ⟨a, cap, rfl⟩ := rowG_slice h
  generalize (l.map liL).length = n at *
  have HR := hide (h.alloc (.cells #[.int .i64 s, .int .i64 e, .slice a n cap] 24))
  have HB := hide (below1 w (.cells #[.int .i64 s, .int .i64 e, .slice a n cap] 24))
  have HX := hide (Blk.new w #[.int .i64 s, .int .i64 e, .slice a n cap] 24)
  have HQ := hide (fun W h => rchkb_any s e (.slice a n cap) l W h)
  clear h
  generalize chkB s e l = C at *
  go_enter Try.func12, Try.ntmps12
  go_wp2_with (refine load_blk rfl 24 _ rfl (show Blk _ _ _ _ from unhide HX) rfl row24 size24 rfl ?_)
  refine (unhide HQ _ (unhide HR)).mono ?_
  rintro r w2 ⟨rfl, hb⟩
  replace HB := hide (below_via (unhide HB) hb)
  clear hb HR HQ HX
  go_wp2_with fail
  go_ret2
  exact ⟨rfl, unhide HB⟩
set_option maxHeartbeats 4000000 in
theorem rput_ok (s e : Int) (v : Value) (l : List Li) (w : World) (h : RowG 2 w v (l.map liL)) (hc : chkB s e l = 0) : Calls Try.prog 12 #[.agg #[.int .i64 s, .int .i64 e, v]] w fun r w' => ∃ u, r = .returned (.tuple #[u, .int .i64 0]) ∧ GrowG 5 1 w w' u (bys (putN s e l)) := by
  have hl64 := (chkB_ok hc).2.2.1
  obtain ⟨a, cap, rfl⟩ := rowG_slice h
  have hn0 : (l.map liL).length = l.length := List.length_map ..
  rw [hn0] at h ⊢
  have HR := hide (h.alloc (.cells #[.int .i64 s, .int .i64 e, .slice a l.length cap] 24))
  have HB := hide (below1 w (.cells #[.int .i64 s, .int .i64 e, .slice a l.length cap] 24))
  have HX := hide (Blk.new w #[.int .i64 s, .int .i64 e, .slice a l.length cap] 24)
  have HQ := hide (fun W h => rchkb_any s e (.slice a l.length cap) l W h)
  rw [hc] at HQ
  have HU0 := hide (upN_zero s e l)
  have HUk := hide (fun k h => upN_next s e l (k := k) h)
  have HUl := hide (fun k h => upN_len s e l k h)
  have HUa := hide (upN_all s e l)
  have HCs := hide (bodyN_bytes s e l)
  have HBl := hide (bodyN_len s e l)
  have hws := u64N_wrap s
  have hwe := u64N_wrap e
  have HNs := hide (num4_u64 s)
  have HNe := hide (num4_u64 e)
  clear h hn0
  generalize hn : l.length = n at *
  generalize u64N s = sN at *
  generalize u64N e = eN at *
  have hn1 : Hid (numI 1 (n : Int) = [n]) := hide (by rw [num1]; congr 1; omega)
  go_enter Try.func12, Try.ntmps12
  go_wp2_with (refine load_blk rfl 24 _ rfl (show Blk _ _ _ _ from unhide HX) rfl row24 size24 rfl ?_)
  refine (unhide HQ _ (unhide HR)).mono ?_
  rintro r w2 ⟨rfl, hb⟩
  replace HR := hide ((show RowG _ _ _ _ from unhide HR).keep hb)
  replace HX := hide ((show Blk _ _ _ _ from unhide HX).keep hb)
  replace HB := hide (below_via (unhide HB) hb)
  clear hb HQ
  have HG := hide (show GrowG 5 1 w2 (w2.alloc (.cells #[.int .u8 76, .int .u8 66] 5)) (.slice (some ⟨w2.heap.size, 0, none⟩) 2 2) (bys [76, 66]) from grow_new w2 [76, 66] (by decide) #[.int .u8 76, .int .u8 66] rfl)
  have c0 := ((show Blk _ _ _ _ from unhide HX).keep (unhide HG).below).at 0 (.int .i64 s) rfl
  go_wp2_with fail
  generalize Value.slice (some ⟨w2.heap.size, 0, none⟩) 2 2 = vv at *
  generalize w2.alloc (.cells #[.int .u8 76, .int .u8 66] 5) = wq at *
  have HK := hide (fun W => rnum_any sN 4 W (by decide))
  refine (unhide HK _).mono ?_
  rintro r w3 ⟨ur, rfl, hg⟩
  rw [unhide HNs] at hg
  replace HG := hide ((show GrowG _ _ _ _ _ _ from unhide HG).keep hg.below)
  have HRr := hide hg.row
  clear hg HK
  go_wp2_with (at_builtin; refine pushB rfl _ _ rfl w2 _ _ ur ([76, 66]) _ (unhide HG) rfl rfl (unhide HRr) (by simp [numI_len]) ?_)
  intro u w4 hg _
  replace HG := hide hg
  clear HRr
  have c1 := ((show Blk _ _ _ _ from unhide HX).keep hg.below).at 1 (.int .i64 e) rfl
  clear hg
  go_wp2_with fail
  have HK := hide (fun W => rnum_any eN 4 W (by decide))
  refine (unhide HK _).mono ?_
  rintro r w5 ⟨ur, rfl, hg⟩
  rw [unhide HNe] at hg
  replace HG := hide ((show GrowG _ _ _ _ _ _ from unhide HG).keep hg.below)
  have HRr := hide hg.row
  clear hg HK
  go_wp2_with (at_builtin; refine pushB rfl _ _ rfl w2 _ _ ur ([76, 66] ++ numI 4 s) _ (unhide HG) rfl rfl (unhide HRr) (by simp [numI_len]) ?_)
  intro u w6 hg _
  replace HG := hide hg
  clear HRr
  have c2 := ((show Blk _ _ _ _ from unhide HX).keep hg.below).at 2 (.slice a n cap) rfl
  clear hg
  have HN := hide (row_new w6 [n] (by simp) (by simp [maxLen]) #[.int .u8 (n : Int)] rfl)
  replace HG := hide ((unhide HG).alloc (.cells #[.int .u8 (n : Int)] 5))
  go_wp2_with (at_builtin; refine pushB rfl _ _ rfl w2 _ _ _ ([76, 66] ++ numI 4 s ++ numI 4 e) [n] (unhide HG) rfl rfl (by simpa [Act.eval, Act.put] using unhide HN) (by simp [numI_len]) ?_)
  intro u w7 hg _
  rw [← unhide hn1] at hg
  replace HG := hide (show GrowG 5 1 w2 w7 u (bys (upN s e l 0)) by
    have := unhide HU0
    rw [← this]
    exact hg)
  have c2 := ((show Blk _ _ _ _ from unhide HX).keep hg.below).at 2 (.slice a n cap) rfl
  clear hg HU0 HN hn1
  go_wp2_with fail
  go_loopw [5, 36] (fun o i wr => ∃ k : Nat, k ≤ n ∧ i = .int .i64 k ∧ Hid (GrowG 5 1 w2 wr o (bys (upN s e l k)))) (fun _ i _ => n - (intOf i).toNat)
  case atStart => exact ⟨0, by omega, rfl, HG⟩
  case round =>
    clear HG
    obtain ⟨k, hk, rfl, HG⟩ := hrel
    by_cases hlt : k < n
    · have hU := (show RowG _ _ _ _ from unhide HR).keep (unhide HG).below
      have hne : 0 < (l.map liL).length := by rw [List.length_map]; omega
      obtain ⟨b, off, cap', e1, _, _⟩ := hU.open hne
      injection e1 with e1 e2 e3
      subst e1 e3
      obtain ⟨m0, m1⟩ := hU.li (k := k) (by omega)
      have k1 : (k : Int) < (n : Int) := by omega
      have HUn := hide (unhide HUk k hlt)
      have HL := hide (unhide HUl k hk)
      clear hU e2 hne c2
      generalize (liA l k).1 = p at *
      generalize (liA l k).2 = q at *
      generalize hup : upN s e l (k + 1) = nx at *
      have HUP := hide hup
      clear hup
      generalize upN s e l k = now at *
      have hp1 := hide (num1 p)
      have hp2 : (p % 256) = ((p % 256).toNat : Nat) := by omega
      have hwq := u64N_wrap q
      have HNq := hide (num8_u64 q)
      generalize (p % 256).toNat = pb at *
      generalize u64N q = qN at *
      have HL2 := hide ((unhide HG).late (Nat.le_refl _))
      have HP := hide ((Blk.new wr #[.int .i64 p, .int .i64 q] 60).alloc (.cells #[.int .u8 (pb : Int)] 5))
      have HN := hide (row_new (wr.alloc (.cells #[.int .i64 p, .int .i64 q] 60)) [pb] (by simp) (by simp [maxLen]) #[.int .u8 (pb : Int)] rfl)
      replace HG := hide (((unhide HG).alloc (.cells #[.int .i64 p, .int .i64 q] 60)).alloc (.cells #[.int .u8 (pb : Int)] 5))
      go_wp2_with (at_builtin; refine pushB rfl _ _ rfl w2 _ _ _ now [pb] (unhide HG) rfl rfl (by simpa [Act.eval, Act.put] using unhide HN) (by rw [unhide HL]; simp; omega) ?_)
      intro u w8 hg hsp
      obtain ⟨d0, d1⟩ := two_cells (hsp.keep (show Blk _ _ _ _ from unhide HP) (unhide HL2)).1
      rw [← unhide hp1] at hg
      replace HG := hide hg
      clear hg hsp HP HL2 HN hp1
      go_wp2_with fail
      refine (rnum_any qN 8 _ (by decide)).mono ?_
      rintro r w9 ⟨ur, rfl, hg⟩
      rw [unhide HNq] at hg
      replace HG := hide ((show GrowG _ _ _ _ _ _ from unhide HG).keep hg.below)
      have HRr := hide hg.row
      clear hg HNq d0 d1
      go_wp2_with (at_builtin; refine pushB rfl _ _ rfl w2 _ _ ur (now ++ numI 1 p) (numI 8 q) (unhide HG) rfl rfl (unhide HRr) (by rw [List.length_append, unhide HL, numI_len, numI_len]; omega) ?_)
      intro u2 w10 hg _
      rw [← List.append_assoc, unhide HUn] at hg
      replace HG := hide hg
      clear hg HRr
      go_wp2_with fail
      go_roundw
      case rel => exact ⟨k + 1, by omega, by go_num, by rw [unhide HUP]; exact HG⟩
      case measure => simp [intOf]; omega
    · obtain rfl : k = n := by omega
      rw [unhide HUa] at HG
      have HM := hide (rsum_any _ _ wr (unhide HG).row (unhide HCs))
      have hcl := crcSum_lt (unhide HCs)
      have hcw : ((crcSum (bodyN s e l) : Nat) : Int) % 18446744073709551616 = ((crcSum (bodyN s e l) : Nat) : Int) := by omega
      have HNc := hide (numI_nat 4 (crcSum (bodyN s e l)))
      have HF : Hid (bodyN s e l ++ numI 4 (crcSum (bodyN s e l) : Nat) = putN s e l) := hide rfl
      clear HUk HUl HR c2 hlt hcl
      generalize crcSum (bodyN s e l) = C at *
      go_wp2_with fail
      refine (unhide HM).mono ?_
      rintro r w8 ⟨rfl, rfl⟩
      clear HM
      go_wp2_with fail
      refine (rnum_any C 4 _ (by decide)).mono ?_
      rintro r w9 ⟨ur, rfl, hg⟩
      rw [← unhide HNc] at hg
      replace HG := hide ((show GrowG _ _ _ _ _ _ from unhide HG).keep hg.below)
      have HRr := hide hg.row
      clear hg HNc
      go_wp2_with (at_builtin; refine pushB rfl _ _ rfl w2 _ _ ur (bodyN s e l) _ (unhide HG) rfl rfl (unhide HRr) (by rw [unhide HBl, numI_len]; omega) ?_)
      intro u2 w10 hg _
      rw [unhide HF] at hg
      replace HG := hide (hg.from (unhide HB))
      clear hg HRr
      go_wp2_with fail
      go_ret2
      exact ⟨_, rfl, unhide HG⟩
theorem rput_any (s e : Int) (v : Value) (l : List Li) (w : World) (h : RowG 2 w v (l.map liL)) : Calls Try.prog 12 #[.agg #[.int .i64 s, .int .i64 e, v]] w fun r w' => ∃ u, r = .returned (.tuple #[u, .int .i64 (chkB s e l)]) ∧ GrowG 5 1 w w' u (bys (putB s e l)) := by
  by_cases hc : chkB s e l = 0
  · rw [putB_ok hc, hc]
    exact rput_ok s e v l w h hc
  · rw [putB_no hc]
    exact (rput_no s e v l w h hc).mono fun r w' ⟨h1, h2⟩ => ⟨_, h1, GrowG.nil _ _ _ _ h2⟩
end Go.Proofs.Ytfahgphkceilkaa
