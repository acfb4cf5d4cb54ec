/- The reference's sum of two signs and bits. -/
import Derived.Test.YtaknjpddjofgeaaBits11
namespace Go.Proofs.Ytaknjpddjofgeaa
open Go.RowKit
set_option linter.unusedSimpArgs false
structure SR (w wr : World) (l : Bool) (f : Nat → Nat) (m : Bool) (g : Nat → Nat) : Prop where
  ra : GRow wr w.heap.size l f
  rb : GRow wr (w.heap.size + 1) m g
  rc : ∃ (lc : Bool) (fc : Nat → Nat), GRow wr (w.heap.size + 1 + 1) lc fc
  below : Below w.heap.size w wr
theorem SR.keep {w wr w2 : World} {l m : Bool} {f g : Nat → Nat} (t : SR w wr l f m g) (hb : Below wr.heap.size wr w2) : SR w w2 l f m g :=
  ⟨t.ra.keep hb t.ra.lt, t.rb.keep hb t.rb.lt, t.rc.elim fun lc h => h.elim fun fc g => ⟨lc, fc, g.keep hb g.lt⟩, below_via t.below hb⟩
theorem SR.put {w wr : World} {l m : Bool} {f g : Nat → Nat} (t : SR w wr l f m g) (k : Bool) (h : Nat → Nat) : SR w (wr.setRow (w.heap.size + 1 + 1) (gv k h)) l f m g :=
  ⟨t.ra.putOther (by omega) _, t.rb.putOther (by omega) _, t.rc.elim fun _ i => i.elim fun _ j => ⟨k, h, j.put (m := k) h⟩, below_put t.below (by omega) _⟩
theorem SR.start (w : World) (l : Bool) (f : Nat → Nat) (m : Bool) (g : Nat → Nat) : SR w (((w.alloc (.cells (gv l f) 60)).alloc (.cells (gv m g) 60)).alloc (.cells (gv false zb) 60)) l f m g := by
  have a := ((GRow.new w l f).alloc (.cells (gv m g) 60)).alloc (.cells (gv false zb) 60)
  have b := (GRow.new (w.alloc (.cells (gv l f) 60)) m g).alloc (.cells (gv false zb) 60)
  have c := GRow.new ((w.alloc (.cells (gv l f) 60)).alloc (.cells (gv m g) 60)) false zb
  rw [show (w.alloc (.cells (gv l f) 60)).heap.size = w.heap.size + 1 by simp] at b
  rw [show ((w.alloc (.cells (gv l f) 60)).alloc (.cells (gv m g) 60)).heap.size = w.heap.size + 1 + 1 by simp] at c
  exact ⟨a, b, ⟨_, _, c⟩, (((Below.refl w.heap.size w).alloc (Nat.le_refl _) _).alloc (by simp) _).alloc (by simp <;> omega) _⟩
set_option maxRecDepth 20000 in
set_option maxHeartbeats 8000000 in
theorem sum_same (l m : Bool) (f g : Nat → Nat) (hf : Bit f) (hg : Bit g) (hq : (l == m) = true) (w : World) : Calls Try.prog 27 #[.agg (gv l f), .agg (gv m g)] w fun e w' => (∃ h, Plus f g h ∧ e = .returned (.agg (gv l h))) ∧ Below w.heap.size w w' := by
  have HF := hide hf
  have HG := hide hg
  clear hf hg
  have hz := zero56
  have HS := SR.start w l f m g
  have ca := HS.ra.less
  have cb := HS.rb.less
  replace HS := hide HS
  go_enter Try.func27, Try.ntmps27
  go_wp2_with fail
  clear ca cb
  generalize ((w.alloc (.cells (gv l f) 60)).alloc (.cells (gv m g) 60)).alloc (.cells (gv false zb) 60) = W at HS ⊢
  refine wp_region_held_drew (S := fun W => SR w W l f m g) (by kernel_rfl) ((unhide HS).keep (below_drew (Below.refl _ _))) (fun hS => ?_)
  clear HS
  refine wpAnyH_take (i := 0) (v := .pointer (some ⟨w.heap.size, 0, none⟩)) rfl (by kernel_rfl) (by kernel_rfl) (by kernel_rfl) (fun _ _ _ h => h) (Or.inl ⟨by rfl, fun W _ => by go_simp⟩) hS ?_
  refine wpAnyH_take (i := 1) (v := .bool l) rfl (by kernel_rfl) (by kernel_rfl) (by kernel_rfl) (fun _ _ _ h => h) (Or.inl ⟨by rfl, fun W hS => by have c := hS.ra.less; go_simp⟩) hS ?_
  refine wpAnyH_take (i := 2) (v := .pointer (some ⟨w.heap.size, 1, none⟩)) rfl (by kernel_rfl) (by kernel_rfl) (by kernel_rfl) (fun _ _ _ h => h) (Or.inl ⟨by rfl, fun W _ => by go_simp⟩) hS ?_
  refine wpAnyH_take (i := 3) (v := .agg (bv f)) rfl (by kernel_rfl) (by kernel_rfl) (by kernel_rfl) (fun _ _ _ h => h) (yieldsB (fun _ h => h.ra) (by rfl) rfl rfl) hS ?_
  refine wpAnyH_take (i := 4) (v := .pointer (some ⟨w.heap.size + 1, 1, none⟩)) rfl (by kernel_rfl) (by kernel_rfl) (by kernel_rfl) (fun _ _ _ h => h) (Or.inl ⟨by rfl, fun W _ => by go_simp⟩) hS ?_
  refine wpAnyH_take (i := 5) (v := .agg (bv g)) rfl (by kernel_rfl) (by kernel_rfl) (by kernel_rfl) (fun _ _ _ h => h) (yieldsB (fun _ h => h.rb) (by rfl) rfl rfl) hS ?_
  refine wpAnyH_all (rs := [6]) (by kernel_rfl) (by simp) (AllReadyH.cons (i := 6) rfl (fun K' hK => ?_) AllReadyH.nil)
  rw [if_pos (by rfl)]
  replace hS := hide hS
  go_wp2_with fail
  refine (plus_any f g (unhide HF) (unhide HG) _).mono ?_
  rintro e w9 ⟨⟨k, hP, rfl⟩, hb9⟩
  have hS9 := hide ((unhide hS).keep hb9)
  replace hP := hide hP
  clear hb9 hS
  go_wp2_with fail
  refine hK.out _ _ (unhide hS9) (fun hS2 => ?_)
  clear hK hS9
  refine wpAnyH_all (rs := [7]) (by kernel_rfl) (by simp) (AllReadyH.cons (i := 7) rfl (fun K2 hK2 => ?_) AllReadyH.nil)
  rw [if_pos (by rfl)]
  replace hS2 := hide hS2
  have gs := bv_size k
  have gs2 := gv_size false zb
  go_wp2_with fail
  rw [gv_fold]
  clear gs gs2 hz
  obtain ⟨lc, fc, rc⟩ := (unhide hS2).rc
  refine hK2.out _ _ (unhide hS2) (fun hS3 => ?_)
  clear hK2 hS2
  refine wpAnyH_all (rs := [8]) (by kernel_rfl) (by simp) (AllReadyH.cons (i := 8) rfl (fun K3 hK3 => ?_) AllReadyH.nil)
  rw [if_pos (by rfl)]
  have hst := store56c l k rc
  have hR := hide (rc.put (m := l) k)
  have hS4 := hide (hS3.put l k)
  clear rc hS3
  go_wp2_with fail
  clear hst
  refine hK3.out _ _ (unhide hS4) (fun hS5 => ?_)
  clear hK3
  refine wpAnyH_done (by kernel_rfl) ?_ _
  go_wp2_with fail
  exact bodyPost_ret (results56 rfl _ rfl (unhide hR)) rfl ⟨⟨k, unhide hP, rfl⟩, (unhide hS4).below⟩
theorem sum_gt_o {x y : Nat} (h : y < x) : ord (x : Int) (y : Int) = 1 := by
  unfold ord
  rw [if_neg (by omega), if_pos (by omega)]
set_option maxRecDepth 20000 in
set_option maxHeartbeats 8000000 in
theorem sum_gt (l m : Bool) (f g : Nat → Nat) (hf : Bit f) (hg : Bit g) (hq : (l == m) = false) (ho : val g 260 < val f 260) (w : World) : Calls Try.prog 27 #[.agg (gv l f), .agg (gv m g)] w fun e w' => (∃ h, Minus f g h ∧ e = .returned (.agg (gv l h))) ∧ Below w.heap.size w w' := by
  have HF := hide hf
  have HG := hide hg
  have HO := hide (sum_gt_o ho)
  clear hf hg ho
  have hz := zero56
  have HS := SR.start w l f m g
  have ca := HS.ra.less
  have cb := HS.rb.less
  replace HS := hide HS
  go_enter Try.func27, Try.ntmps27
  go_wp2_with fail
  clear ca cb
  generalize ((w.alloc (.cells (gv l f) 60)).alloc (.cells (gv m g) 60)).alloc (.cells (gv false zb) 60) = W at HS ⊢
  refine wp_loadB (unhide HS).ra rfl rfl ?_
  go_wp2_with fail
  refine wp_loadB (unhide HS).rb rfl rfl ?_
  go_wp2_with fail
  refine (size_any f g (unhide HF) (unhide HG) _).mono ?_
  rintro e w2 ⟨rfl, hb2⟩
  replace HS := hide ((unhide HS).keep hb2)
  clear hb2
  rw [show ord (val f 260 : Int) (val g 260 : Int) = 1 from unhide HO]
  go_wp2_with fail
  refine wp_region_held_drew (S := fun W => SR w W l f m g) (by kernel_rfl) ((unhide HS).keep (below_drew (Below.refl _ _))) (fun hS => ?_)
  clear HS
  refine wpAnyH_take (i := 0) (v := .pointer (some ⟨w.heap.size, 0, none⟩)) rfl (by kernel_rfl) (by kernel_rfl) (by kernel_rfl) (fun _ _ _ h => h) (Or.inl ⟨by rfl, fun W _ => by go_simp⟩) hS ?_
  refine wpAnyH_take (i := 1) (v := .bool l) rfl (by kernel_rfl) (by kernel_rfl) (by kernel_rfl) (fun _ _ _ h => h) (Or.inl ⟨by rfl, fun W hS => by have c := hS.ra.less; go_simp⟩) hS ?_
  refine wpAnyH_take (i := 2) (v := .pointer (some ⟨w.heap.size, 1, none⟩)) rfl (by kernel_rfl) (by kernel_rfl) (by kernel_rfl) (fun _ _ _ h => h) (Or.inl ⟨by rfl, fun W _ => by go_simp⟩) hS ?_
  refine wpAnyH_take (i := 3) (v := .agg (bv f)) rfl (by kernel_rfl) (by kernel_rfl) (by kernel_rfl) (fun _ _ _ h => h) (yieldsB (fun _ h => h.ra) (by rfl) rfl rfl) hS ?_
  refine wpAnyH_take (i := 4) (v := .pointer (some ⟨w.heap.size + 1, 1, none⟩)) rfl (by kernel_rfl) (by kernel_rfl) (by kernel_rfl) (fun _ _ _ h => h) (Or.inl ⟨by rfl, fun W _ => by go_simp⟩) hS ?_
  refine wpAnyH_take (i := 5) (v := .agg (bv g)) rfl (by kernel_rfl) (by kernel_rfl) (by kernel_rfl) (fun _ _ _ h => h) (yieldsB (fun _ h => h.rb) (by rfl) rfl rfl) hS ?_
  refine wpAnyH_all (rs := [6]) (by kernel_rfl) (by simp) (AllReadyH.cons (i := 6) rfl (fun K' hK => ?_) AllReadyH.nil)
  rw [if_pos (by rfl)]
  replace hS := hide hS
  go_wp2_with fail
  refine (minus_any f g (unhide HF) (unhide HG) _).mono ?_
  rintro e w9 ⟨⟨k, hP, rfl⟩, hb9⟩
  have hS9 := hide ((unhide hS).keep hb9)
  replace hP := hide hP
  clear hb9 hS
  go_wp2_with fail
  refine hK.out _ _ (unhide hS9) (fun hS2 => ?_)
  clear hK hS9
  refine wpAnyH_all (rs := [7]) (by kernel_rfl) (by simp) (AllReadyH.cons (i := 7) rfl (fun K2 hK2 => ?_) AllReadyH.nil)
  rw [if_pos (by rfl)]
  replace hS2 := hide hS2
  have gs := bv_size k
  have gs2 := gv_size false zb
  go_wp2_with fail
  rw [gv_fold]
  clear gs gs2 hz
  obtain ⟨lc, fc, rc⟩ := (unhide hS2).rc
  refine hK2.out _ _ (unhide hS2) (fun hS3 => ?_)
  clear hK2 hS2
  refine wpAnyH_all (rs := [8]) (by kernel_rfl) (by simp) (AllReadyH.cons (i := 8) rfl (fun K3 hK3 => ?_) AllReadyH.nil)
  rw [if_pos (by rfl)]
  have hst := store56c l k rc
  have hR := hide (rc.put (m := l) k)
  have hS4 := hide (hS3.put l k)
  clear rc hS3
  go_wp2_with fail
  clear hst
  refine hK3.out _ _ (unhide hS4) (fun hS5 => ?_)
  clear hK3
  refine wpAnyH_done (by kernel_rfl) ?_ _
  go_wp2_with fail
  exact bodyPost_ret (results56 rfl _ rfl (unhide hR)) rfl ⟨⟨k, unhide hP, rfl⟩, (unhide hS4).below⟩
theorem sum_eq_o {x y : Nat} (h : y = x) : ord (x : Int) (y : Int) = 0 := by
  unfold ord
  rw [if_neg (by omega), if_neg (by omega)]
set_option maxRecDepth 20000 in
set_option maxHeartbeats 8000000 in
theorem sum_eq (l m : Bool) (f g : Nat → Nat) (hf : Bit f) (hg : Bit g) (hq : (l == m) = false) (ho : val g 260 = val f 260) (w : World) : Calls Try.prog 27 #[.agg (gv l f), .agg (gv m g)] w fun e w' => (∃ h, Minus f g h ∧ e = .returned (.agg (gv l h))) ∧ Below w.heap.size w w' := by
  have HF := hide hf
  have HG := hide hg
  have HO := hide (sum_eq_o ho)
  clear hf hg ho
  have hz := zero56
  have HS := SR.start w l f m g
  have ca := HS.ra.less
  have cb := HS.rb.less
  replace HS := hide HS
  go_enter Try.func27, Try.ntmps27
  go_wp2_with fail
  clear ca cb
  generalize ((w.alloc (.cells (gv l f) 60)).alloc (.cells (gv m g) 60)).alloc (.cells (gv false zb) 60) = W at HS ⊢
  refine wp_loadB (unhide HS).ra rfl rfl ?_
  go_wp2_with fail
  refine wp_loadB (unhide HS).rb rfl rfl ?_
  go_wp2_with fail
  refine (size_any f g (unhide HF) (unhide HG) _).mono ?_
  rintro e w2 ⟨rfl, hb2⟩
  replace HS := hide ((unhide HS).keep hb2)
  clear hb2
  rw [show ord (val f 260 : Int) (val g 260 : Int) = 0 from unhide HO]
  go_wp2_with fail
  refine wp_region_held_drew (S := fun W => SR w W l f m g) (by kernel_rfl) ((unhide HS).keep (below_drew (Below.refl _ _))) (fun hS => ?_)
  clear HS
  refine wpAnyH_take (i := 0) (v := .pointer (some ⟨w.heap.size, 0, none⟩)) rfl (by kernel_rfl) (by kernel_rfl) (by kernel_rfl) (fun _ _ _ h => h) (Or.inl ⟨by rfl, fun W _ => by go_simp⟩) hS ?_
  refine wpAnyH_take (i := 1) (v := .bool l) rfl (by kernel_rfl) (by kernel_rfl) (by kernel_rfl) (fun _ _ _ h => h) (Or.inl ⟨by rfl, fun W hS => by have c := hS.ra.less; go_simp⟩) hS ?_
  refine wpAnyH_take (i := 2) (v := .pointer (some ⟨w.heap.size, 1, none⟩)) rfl (by kernel_rfl) (by kernel_rfl) (by kernel_rfl) (fun _ _ _ h => h) (Or.inl ⟨by rfl, fun W _ => by go_simp⟩) hS ?_
  refine wpAnyH_take (i := 3) (v := .agg (bv f)) rfl (by kernel_rfl) (by kernel_rfl) (by kernel_rfl) (fun _ _ _ h => h) (yieldsB (fun _ h => h.ra) (by rfl) rfl rfl) hS ?_
  refine wpAnyH_take (i := 4) (v := .pointer (some ⟨w.heap.size + 1, 1, none⟩)) rfl (by kernel_rfl) (by kernel_rfl) (by kernel_rfl) (fun _ _ _ h => h) (Or.inl ⟨by rfl, fun W _ => by go_simp⟩) hS ?_
  refine wpAnyH_take (i := 5) (v := .agg (bv g)) rfl (by kernel_rfl) (by kernel_rfl) (by kernel_rfl) (fun _ _ _ h => h) (yieldsB (fun _ h => h.rb) (by rfl) rfl rfl) hS ?_
  refine wpAnyH_all (rs := [6]) (by kernel_rfl) (by simp) (AllReadyH.cons (i := 6) rfl (fun K' hK => ?_) AllReadyH.nil)
  rw [if_pos (by rfl)]
  replace hS := hide hS
  go_wp2_with fail
  refine (minus_any f g (unhide HF) (unhide HG) _).mono ?_
  rintro e w9 ⟨⟨k, hP, rfl⟩, hb9⟩
  have hS9 := hide ((unhide hS).keep hb9)
  replace hP := hide hP
  clear hb9 hS
  go_wp2_with fail
  refine hK.out _ _ (unhide hS9) (fun hS2 => ?_)
  clear hK hS9
  refine wpAnyH_all (rs := [7]) (by kernel_rfl) (by simp) (AllReadyH.cons (i := 7) rfl (fun K2 hK2 => ?_) AllReadyH.nil)
  rw [if_pos (by rfl)]
  replace hS2 := hide hS2
  have gs := bv_size k
  have gs2 := gv_size false zb
  go_wp2_with fail
  rw [gv_fold]
  clear gs gs2 hz
  obtain ⟨lc, fc, rc⟩ := (unhide hS2).rc
  refine hK2.out _ _ (unhide hS2) (fun hS3 => ?_)
  clear hK2 hS2
  refine wpAnyH_all (rs := [8]) (by kernel_rfl) (by simp) (AllReadyH.cons (i := 8) rfl (fun K3 hK3 => ?_) AllReadyH.nil)
  rw [if_pos (by rfl)]
  have hst := store56c l k rc
  have hR := hide (rc.put (m := l) k)
  have hS4 := hide (hS3.put l k)
  clear rc hS3
  go_wp2_with fail
  clear hst
  refine hK3.out _ _ (unhide hS4) (fun hS5 => ?_)
  clear hK3
  refine wpAnyH_done (by kernel_rfl) ?_ _
  go_wp2_with fail
  exact bodyPost_ret (results56 rfl _ rfl (unhide hR)) rfl ⟨⟨k, unhide hP, rfl⟩, (unhide hS4).below⟩
theorem sum_lt_o {x y : Nat} (h : x < y) : ord (x : Int) (y : Int) = -1 := by
  unfold ord
  rw [if_pos (by omega)]
set_option maxRecDepth 20000 in
set_option maxHeartbeats 8000000 in
theorem sum_lt (l m : Bool) (f g : Nat → Nat) (hf : Bit f) (hg : Bit g) (hq : (l == m) = false) (ho : val f 260 < val g 260) (w : World) : Calls Try.prog 27 #[.agg (gv l f), .agg (gv m g)] w fun e w' => (∃ h, Minus g f h ∧ e = .returned (.agg (gv m h))) ∧ Below w.heap.size w w' := by
  have HF := hide hf
  have HG := hide hg
  have HO := hide (sum_lt_o ho)
  clear hf hg ho
  have hz := zero56
  have HS := SR.start w l f m g
  have ca := HS.ra.less
  have cb := HS.rb.less
  replace HS := hide HS
  go_enter Try.func27, Try.ntmps27
  go_wp2_with fail
  clear ca cb
  generalize ((w.alloc (.cells (gv l f) 60)).alloc (.cells (gv m g) 60)).alloc (.cells (gv false zb) 60) = W at HS ⊢
  refine wp_loadB (unhide HS).ra rfl rfl ?_
  go_wp2_with fail
  refine wp_loadB (unhide HS).rb rfl rfl ?_
  go_wp2_with fail
  refine (size_any f g (unhide HF) (unhide HG) _).mono ?_
  rintro e w2 ⟨rfl, hb2⟩
  replace HS := hide ((unhide HS).keep hb2)
  clear hb2
  rw [show ord (val f 260 : Int) (val g 260 : Int) = -1 from unhide HO]
  go_wp2_with fail
  refine wp_region_held_drew (S := fun W => SR w W l f m g) (by kernel_rfl) ((unhide HS).keep (below_drew (Below.refl _ _))) (fun hS => ?_)
  clear HS
  refine wpAnyH_take (i := 0) (v := .pointer (some ⟨w.heap.size + 1, 0, none⟩)) rfl (by kernel_rfl) (by kernel_rfl) (by kernel_rfl) (fun _ _ _ h => h) (Or.inl ⟨by rfl, fun W _ => by go_simp⟩) hS ?_
  refine wpAnyH_take (i := 1) (v := .bool m) rfl (by kernel_rfl) (by kernel_rfl) (by kernel_rfl) (fun _ _ _ h => h) (Or.inl ⟨by rfl, fun W hS => by have c := hS.rb.less; go_simp⟩) hS ?_
  refine wpAnyH_take (i := 2) (v := .pointer (some ⟨w.heap.size + 1, 1, none⟩)) rfl (by kernel_rfl) (by kernel_rfl) (by kernel_rfl) (fun _ _ _ h => h) (Or.inl ⟨by rfl, fun W _ => by go_simp⟩) hS ?_
  refine wpAnyH_take (i := 3) (v := .agg (bv g)) rfl (by kernel_rfl) (by kernel_rfl) (by kernel_rfl) (fun _ _ _ h => h) (yieldsB (fun _ h => h.rb) (by rfl) rfl rfl) hS ?_
  refine wpAnyH_take (i := 4) (v := .pointer (some ⟨w.heap.size, 1, none⟩)) rfl (by kernel_rfl) (by kernel_rfl) (by kernel_rfl) (fun _ _ _ h => h) (Or.inl ⟨by rfl, fun W _ => by go_simp⟩) hS ?_
  refine wpAnyH_take (i := 5) (v := .agg (bv f)) rfl (by kernel_rfl) (by kernel_rfl) (by kernel_rfl) (fun _ _ _ h => h) (yieldsB (fun _ h => h.ra) (by rfl) rfl rfl) hS ?_
  refine wpAnyH_all (rs := [6]) (by kernel_rfl) (by simp) (AllReadyH.cons (i := 6) rfl (fun K' hK => ?_) AllReadyH.nil)
  rw [if_pos (by rfl)]
  replace hS := hide hS
  go_wp2_with fail
  refine (minus_any g f (unhide HG) (unhide HF) _).mono ?_
  rintro e w9 ⟨⟨k, hP, rfl⟩, hb9⟩
  have hS9 := hide ((unhide hS).keep hb9)
  replace hP := hide hP
  clear hb9 hS
  go_wp2_with fail
  refine hK.out _ _ (unhide hS9) (fun hS2 => ?_)
  clear hK hS9
  refine wpAnyH_all (rs := [7]) (by kernel_rfl) (by simp) (AllReadyH.cons (i := 7) rfl (fun K2 hK2 => ?_) AllReadyH.nil)
  rw [if_pos (by rfl)]
  replace hS2 := hide hS2
  have gs := bv_size k
  have gs2 := gv_size false zb
  go_wp2_with fail
  rw [gv_fold]
  clear gs gs2 hz
  obtain ⟨lc, fc, rc⟩ := (unhide hS2).rc
  refine hK2.out _ _ (unhide hS2) (fun hS3 => ?_)
  clear hK2 hS2
  refine wpAnyH_all (rs := [8]) (by kernel_rfl) (by simp) (AllReadyH.cons (i := 8) rfl (fun K3 hK3 => ?_) AllReadyH.nil)
  rw [if_pos (by rfl)]
  have hst := store56c m k rc
  have hR := hide (rc.put (m := m) k)
  have hS4 := hide (hS3.put m k)
  clear rc hS3
  go_wp2_with fail
  clear hst
  refine hK3.out _ _ (unhide hS4) (fun hS5 => ?_)
  clear hK3
  refine wpAnyH_done (by kernel_rfl) ?_ _
  go_wp2_with fail
  exact bodyPost_ret (results56 rfl _ rfl (unhide hR)) rfl ⟨⟨k, unhide hP, rfl⟩, (unhide hS4).below⟩
end Go.Proofs.Ytaknjpddjofgeaa
