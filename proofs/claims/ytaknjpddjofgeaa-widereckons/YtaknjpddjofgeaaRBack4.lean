/- The reference's back, of whatever sign and bits; and none. -/
import Derived.Test.YtaknjpddjofgeaaRBack3
import Derived.Test.YtaknjpddjofgeaaBits10e
namespace Go.Proofs.Ytaknjpddjofgeaa
open Go.RowKit
set_option linter.unusedSimpArgs false
theorem build28 (w : World) : Sem.run Try.prog (Instr.build 28 #[]) w = .ok (.agg #[.int .i64 0, .int .u64 0]) w := by kernel_rfl
set_option maxRecDepth 20000 in
set_option maxHeartbeats 4000000 in
theorem back_outp (f : Nat → Nat) (hf : Bit f) (hv : 170141183460469231731687303715884105728 < val f 260) (w : World) : Calls Try.prog 26 #[.agg (gv false f)] w fun e w' => e = .returned (.tuple #[.agg #[.int .i64 0, .int .u64 0], .bool false]) ∧ Below w.heap.size w w' := by
  have HO := hide (show ord (val f 260 : Int) ((P2 127 : Nat) : Int) = 1 by rw [P2_127]; exact ord_gt (by omega))
  clear hv
  have hz4 := zero54
  have HF := hide hf
  clear hf
  obtain ⟨V, s1, r1, b1, hs1⟩ := bits_start ((w.alloc (.cells (gv false f) 60)).alloc (.cells #[.int .i64 0, .int .u64 0] 28)) (upd zb 127 1)
  rw [← bv_tl1] at s1
  have hg := GRow.new w false f
  replace hg := hide ((hg.alloc (.cells #[.int .i64 0, .int .u64 0] 28)).keep b1 (by simp <;> omega))
  have ro := R28.new (w.alloc (.cells (gv false f) 60)) 0 0
  have hsz : (w.alloc (.cells (gv false f) 60)).heap.size = w.heap.size + 1 := by simp
  rw [hsz] at ro
  replace ro := hide (ro.keep b1 (by simp <;> omega))
  replace b1 := hide (below_via (((Below.refl w.heap.size w).alloc (Nat.le_refl _) _).alloc (by simp) _) b1)
  replace r1 := hide r1
  have hsz2 : ((w.alloc (.cells (gv false f) 60)).alloc (.cells #[.int .i64 0, .int .u64 0] 28)).heap.size = w.heap.size + 1 + 1 := by simp
  rw [hsz2] at s1 r1
  clear hs1 hsz hsz2
  have gs := bv_size zb
  go_enter Try.func26, Try.ntmps26
  go_wp2_with fail
  clear s1
  refine wp_loadB (unhide hg) rfl rfl ?_
  go_wp2_with fail
  refine wp_load54 (unhide r1) rfl rfl ?_
  go_wp2_with fail
  refine (size_any f (upd zb 127 1) (unhide HF) (lim_bit 127) _).mono ?_
  rintro e w2 ⟨rfl, hb2⟩
  replace hg := hide ((unhide hg).keep hb2 (unhide hg).lt)
  replace ro := hide ((unhide ro).keep hb2 (unhide ro).lt)
  replace b1 := hide (below_via (unhide b1) hb2)
  clear hb2 r1 gs hz4
  rw [val_lim (by omega), unhide HO]
  clear HO
  have cl := (unhide hg).less
  have y0 := (unhide ro).c0
  have y1 := (unhide ro).c1
  have f0 := (unhide ro).fr 0
  have f1 := (unhide ro).fr 1
  have R := hide (((unhide ro).s0 0).s1 0)
  have BB := hide (((unhide b1).setCell (p := ⟨w.heap.size + 1, 0, none⟩) (by show w.heap.size ≤ w.heap.size + 1; omega) (.int .i64 0)).setCell (p := ⟨w.heap.size + 1, 1, none⟩) (by show w.heap.size ≤ w.heap.size + 1; omega) (.int .u64 0))
  go_wp2_with (rw [build28])
  exact bodyPost_ret (results28 rfl _ rfl rfl (unhide R)) rfl ⟨rfl, unhide BB⟩
set_option maxRecDepth 20000 in
set_option maxHeartbeats 4000000 in
theorem back_outn (f : Nat → Nat) (hf : Bit f) (hv : 170141183460469231731687303715884105728 < val f 260) (w : World) : Calls Try.prog 26 #[.agg (gv true f)] w fun e w' => e = .returned (.tuple #[.agg #[.int .i64 0, .int .u64 0], .bool false]) ∧ Below w.heap.size w w' := by
  have HO := hide (show ord (val f 260 : Int) ((P2 127 : Nat) : Int) = 1 by rw [P2_127]; exact ord_gt (by omega))
  clear hv
  have hz4 := zero54
  have HF := hide hf
  clear hf
  obtain ⟨V, s1, r1, b1, hs1⟩ := bits_start ((w.alloc (.cells (gv true f) 60)).alloc (.cells #[.int .i64 0, .int .u64 0] 28)) (upd zb 127 1)
  rw [← bv_tl1] at s1
  have hg := GRow.new w true f
  replace hg := hide ((hg.alloc (.cells #[.int .i64 0, .int .u64 0] 28)).keep b1 (by simp <;> omega))
  have ro := R28.new (w.alloc (.cells (gv true f) 60)) 0 0
  have hsz : (w.alloc (.cells (gv true f) 60)).heap.size = w.heap.size + 1 := by simp
  rw [hsz] at ro
  replace ro := hide (ro.keep b1 (by simp <;> omega))
  replace b1 := hide (below_via (((Below.refl w.heap.size w).alloc (Nat.le_refl _) _).alloc (by simp) _) b1)
  replace r1 := hide r1
  have hsz2 : ((w.alloc (.cells (gv true f) 60)).alloc (.cells #[.int .i64 0, .int .u64 0] 28)).heap.size = w.heap.size + 1 + 1 := by simp
  rw [hsz2] at s1 r1
  clear hs1 hsz hsz2
  have gs := bv_size zb
  go_enter Try.func26, Try.ntmps26
  go_wp2_with fail
  clear s1
  refine wp_loadB (unhide hg) rfl rfl ?_
  go_wp2_with fail
  refine wp_load54 (unhide r1) rfl rfl ?_
  go_wp2_with fail
  refine (size_any f (upd zb 127 1) (unhide HF) (lim_bit 127) _).mono ?_
  rintro e w2 ⟨rfl, hb2⟩
  replace hg := hide ((unhide hg).keep hb2 (unhide hg).lt)
  replace ro := hide ((unhide ro).keep hb2 (unhide ro).lt)
  replace b1 := hide (below_via (unhide b1) hb2)
  clear hb2 r1 gs hz4
  rw [val_lim (by omega), unhide HO]
  clear HO
  have cl := (unhide hg).less
  have y0 := (unhide ro).c0
  have y1 := (unhide ro).c1
  have f0 := (unhide ro).fr 0
  have f1 := (unhide ro).fr 1
  have R := hide (((unhide ro).s0 0).s1 0)
  have BB := hide (((unhide b1).setCell (p := ⟨w.heap.size + 1, 0, none⟩) (by show w.heap.size ≤ w.heap.size + 1; omega) (.int .i64 0)).setCell (p := ⟨w.heap.size + 1, 1, none⟩) (by show w.heap.size ≤ w.heap.size + 1; omega) (.int .u64 0))
  go_wp2_with (rw [build28])
  exact bodyPost_ret (results28 rfl _ rfl rfl (unhide R)) rfl ⟨rfl, unhide BB⟩
set_option maxRecDepth 20000 in
set_option maxHeartbeats 4000000 in
theorem back_top (f : Nat → Nat) (hf : Bit f) (hv : val f 260 = 170141183460469231731687303715884105728) (w : World) : Calls Try.prog 26 #[.agg (gv false f)] w fun e w' => e = .returned (.tuple #[.agg #[.int .i64 0, .int .u64 0], .bool false]) ∧ Below w.heap.size w w' := by
  have HO := hide (show ord (val f 260 : Int) ((P2 127 : Nat) : Int) = 0 by rw [P2_127]; rw [hv]; exact ord_same _)
  clear hv
  have hz4 := zero54
  have HF := hide hf
  clear hf
  obtain ⟨V, s1, r1, b1, hs1⟩ := bits_start ((w.alloc (.cells (gv false f) 60)).alloc (.cells #[.int .i64 0, .int .u64 0] 28)) (upd zb 127 1)
  rw [← bv_tl1] at s1
  have hg := GRow.new w false f
  replace hg := hide ((hg.alloc (.cells #[.int .i64 0, .int .u64 0] 28)).keep b1 (by simp <;> omega))
  have ro := R28.new (w.alloc (.cells (gv false f) 60)) 0 0
  have hsz : (w.alloc (.cells (gv false f) 60)).heap.size = w.heap.size + 1 := by simp
  rw [hsz] at ro
  replace ro := hide (ro.keep b1 (by simp <;> omega))
  replace b1 := hide (below_via (((Below.refl w.heap.size w).alloc (Nat.le_refl _) _).alloc (by simp) _) b1)
  replace r1 := hide r1
  have hsz2 : ((w.alloc (.cells (gv false f) 60)).alloc (.cells #[.int .i64 0, .int .u64 0] 28)).heap.size = w.heap.size + 1 + 1 := by simp
  rw [hsz2] at s1 r1
  clear hs1 hsz hsz2
  have gs := bv_size zb
  go_enter Try.func26, Try.ntmps26
  go_wp2_with fail
  clear s1
  refine wp_loadB (unhide hg) rfl rfl ?_
  go_wp2_with fail
  refine wp_load54 (unhide r1) rfl rfl ?_
  go_wp2_with fail
  refine (size_any f (upd zb 127 1) (unhide HF) (lim_bit 127) _).mono ?_
  rintro e w2 ⟨rfl, hb2⟩
  replace hg := hide ((unhide hg).keep hb2 (unhide hg).lt)
  replace ro := hide ((unhide ro).keep hb2 (unhide ro).lt)
  replace b1 := hide (below_via (unhide b1) hb2)
  clear hb2 r1 gs hz4
  rw [val_lim (by omega), unhide HO]
  clear HO
  have cl := (unhide hg).less
  have y0 := (unhide ro).c0
  have y1 := (unhide ro).c1
  have f0 := (unhide ro).fr 0
  have f1 := (unhide ro).fr 1
  have R := hide (((unhide ro).s0 0).s1 0)
  have BB := hide (((unhide b1).setCell (p := ⟨w.heap.size + 1, 0, none⟩) (by show w.heap.size ≤ w.heap.size + 1; omega) (.int .i64 0)).setCell (p := ⟨w.heap.size + 1, 1, none⟩) (by show w.heap.size ≤ w.heap.size + 1; omega) (.int .u64 0))
  go_wp2_with (rw [build28])
  exact bodyPost_ret (results28 rfl _ rfl rfl (unhide R)) rfl ⟨rfl, unhide BB⟩
def BackP (l : Bool) (f : Nat → Nat) (a b : Int) (c : Bool) : Prop := ∀ w : World, Calls Try.prog 26 #[.agg (gv l f)] w fun e w' => e = .returned (.tuple #[.agg #[.int .i64 a, .int .u64 b], .bool c]) ∧ Below w.heap.size w w'
theorem back_all (l : Bool) (f : Nat → Nat) (V : Nat)
    (h1 : l = false → V < 170141183460469231731687303715884105728 → BackP l f (hi (V : Int)) (lo (V : Int)) true)
    (h2 : l = true → V < 170141183460469231731687303715884105728 → BackP l f (hi (-(V : Int))) (lo (-(V : Int))) true)
    (h3 : l = true → V = 170141183460469231731687303715884105728 → BackP l f (hi (-(V : Int))) (lo (-(V : Int))) true)
    (h4 : l = false → 170141183460469231731687303715884105728 < V → BackP l f 0 0 false)
    (h5 : l = true → 170141183460469231731687303715884105728 < V → BackP l f 0 0 false)
    (h6 : l = false → V = 170141183460469231731687303715884105728 → BackP l f 0 0 false) : BackP l f (hi (okW (sgn l V))) (lo (okW (sgn l V))) (okWE (sgn l V) == 0) := by
  have e0 : ∀ Z : Int, ¬ In128 Z → hi (okW Z) = 0 ∧ lo (okW Z) = 0 ∧ (okWE Z == 0) = false := fun Z h => by
    rw [okW_out h, okWE_out h]; exact ⟨hi_zero, lo_zero, rfl⟩
  have e1 : ∀ Z : Int, In128 Z → okW Z = Z ∧ (okWE Z == 0) = true := fun Z h => by
    rw [okW_in h, okWE_in h]; exact ⟨rfl, rfl⟩
  cases l
  · rw [show sgn false V = (V : Int) from rfl]
    by_cases h : V < 170141183460469231731687303715884105728
    · obtain ⟨a, b⟩ := e1 (V : Int) ⟨by omega, by omega⟩
      rw [a, b]; exact h1 rfl h
    · obtain ⟨a, b, c⟩ := e0 (V : Int) (fun c => by have := c.hi; omega)
      rw [a, b, c]
      by_cases hm : V = 170141183460469231731687303715884105728
      · exact h6 rfl hm
      · exact h4 rfl (by omega)
  · rw [show sgn true V = -(V : Int) from rfl]
    by_cases h : V ≤ 170141183460469231731687303715884105728
    · obtain ⟨a, b⟩ := e1 (-(V : Int)) ⟨by omega, by omega⟩
      rw [a, b]
      by_cases hm : V = 170141183460469231731687303715884105728
      · exact h3 rfl hm
      · exact h2 rfl (by omega)
    · obtain ⟨a, b, c⟩ := e0 (-(V : Int)) (fun c => by have := c.lo; omega)
      rw [a, b, c]
      exact h5 rfl (by omega)
/-- What is handed back: the number, where 128 bits hold it, and whether. -/
theorem back_any (l : Bool) (f : Nat → Nat) (hf : Bit f) : BackP l f (hi (okW (sgn l (val f 260)))) (lo (okW (sgn l (val f 260)))) (okWE (sgn l (val f 260)) == 0) :=
  back_all l f (val f 260) (fun hl h => by subst hl; exact fun w => back_pos f hf h w) (fun hl h => by subst hl; exact fun w => back_neg f hf h w) (fun hl h => by subst hl; exact fun w => back_min f hf h w)
    (fun hl h => by subst hl; exact fun w => back_outp f hf h w) (fun hl h => by subst hl; exact fun w => back_outn f hf h w) (fun hl h => by subst hl; exact fun w => back_top f hf h w)
set_option maxRecDepth 20000 in
set_option maxHeartbeats 4000000 in
theorem none_any (l : Bool) (f : Nat → Nat) (hf : Bit f) (w : World) : Calls Try.prog 30 #[.agg (gv l f)] w fun e w' => e = .returned (.bool (ord (val f 260) 0 == 0)) ∧ Below w.heap.size w w' := by
  have hz4 := zero54
  have HF := hide hf
  clear hf
  have hg := hide (GRow.new w l f)
  have B := hide ((Below.refl w.heap.size w).alloc (Nat.le_refl _) (.cells (gv l f) 60))
  go_enter Try.func30, Try.ntmps30
  go_wp2_with fail
  refine wp_loadB (unhide hg) rfl rfl ?_
  go_wp2_with fail
  refine (size_any f zb (unhide HF) (fun _ => by simp [zb]) _).mono ?_
  rintro e w2 ⟨rfl, hb2⟩
  replace B := hide (below_via (unhide B) hb2)
  clear hb2 hg hz4
  rw [val_zb]
  go_wp2_with fail
  go_ret
  exact ⟨rfl, unhide B⟩
end Go.Proofs.Ytaknjpddjofgeaa
