/- A loan that is paid out: New. -/
import Derived.Test.YtpeoabopeihadaaYL
import Derived.Test.YtpeoabopeihadaaYQK
set_option linter.unusedVariables false
set_option linter.unusedSimpArgs false
set_option linter.unusedSectionVars false
namespace Go.Proofs.Ytpeoabopeihadaa.Mn
open Go.RowKit
attribute [local simp] Tri.typeInfo Tri.sizeOf Tri.underlying Tri.runUnderlying Tri.isAgg Tri.zeroValue Tri.depth Tri.stoodInHeld Tri.eqGuardType Tri.call15 Tri.call27 Tri.call31 Tri.call32 Tri.call38 Tri.call39 Tri.call40 Tri.call41 Tri.call43 Tri.call44 Tri.call45 Tri.call46 Tri.call49 Tri.call52 Tri.call54 Tri.call65 Tri.call69 Tri.call70 Tri.call72 Tri.call73 Tri.call74 Tri.call75 Tri.call82 Tri.call86 Tri.call89 Tri.call90 Tri.call91 Tri.call92 Tri.call93 Tri.call94 Tri.call95 Tri.call96 Tri.call97 Tri.call98 Tri.call99 Tri.call100 Tri.call102 Tri.call103 Tri.call104 Tri.call106 Tri.call116 Tri.call117 Tri.call118 Tri.call119 Tri.call120 Tri.call122 Tri.call126 Tri.call130 Tri.call131 Tri.call132 Tri.call143 Tri.call144 Tri.call145 Tri.call146 Tri.call147 Tri.call156 Tri.call157 Tri.call159 Tri.call160 Tri.call161 Tri.call162 Tri.call163 Tri.call164 Tri.call165 Tri.call175 Tri.call176 Tri.call186 Tri.call188 Tri.call205
def newK (id out r : Int) : Ln := ⟨id, 1, 0, out, r, out, 0, 0, 0, 0, 0, 0⟩
def NewE (id out : Int) (l : List Int) (r e : Int) : Prop := (inB 0 id 2147483647 = false ∧ r = 0 ∧ e = 2) ∨ (inB 0 id 2147483647 = true ∧ Eir out l r e)
def NewA (w : World) (id out : Int) (v : Value) (l : List Int) : Prop := Calls (Tri Try.prog) 27 #[.int .i64 id, .int .i64 out, v] w fun z w' => ∃ r e, NewE id out l r e ∧ ((e ≠ 0 ∧ z = .returned (.tuple #[.agg lnZ, .int .i64 e])) ∨ (e = 0 ∧ ∃ a' c', z = .returned (.tuple #[.agg (lnA (newK id out r) (.slice a' l.length c')), .int .i64 0]) ∧ Row w' (.slice a' l.length c') l ∧ Sl a' l.length c' ∧ (∀ x, a' = some x → w.heap.size ≤ x.block))) ∧ Below w.heap.size w w'
theorem new_a (id out : Int) (a : Option Addr) (n c : Nat) (w : World) (l : List Int) (h : inB 0 id 2147483647 = false) : NewA w id out (.slice a n c) l := by
  unfold NewA
  have H := hide (name_is h)
  have HN := hide (show NewE id out l 0 2 from .inl ⟨h, rfl, rfl⟩)
  clear h
  go_enter (Tri.at (by decide) Try.func27), Try.ntmps27
  go_wp2_with fail
  refine (unhide H _).mono ?_
  rintro z w1 ⟨rfl, rfl⟩
  go_wp2_with fail
  exact bodyPost_ret (v := .tuple #[.agg lnZ, .int .i64 2]) (by simp [results, Try.results27, go_sem]) rfl ⟨0, 2, unhide HN, .inl ⟨by decide, rfl⟩, below1L w _⟩
set_option maxHeartbeats 4000000 in
theorem new_b (id out : Int) (a : Option Addr) (n c : Nat) (w : World) (l : List Int) (h : inB 0 id 2147483647 = true) (ho : In64 out) (hR : Row w (.slice a n c) l) (hS : Sl a n c) (hl : l.length ≤ 1000000) : NewA w id out (.slice a n c) l := by
  unfold NewA
  have H := hide (name_is h)
  have HB := hide (below1L w (.cells lnZ 53))
  have HZ := hide (Blk.new w lnZ 53)
  have HR := hide (hR.alloc (.cells lnZ 53))
  have HS : Hid (∀ w1, Row w1 (.slice a n c) l → SolA9 w1 out (.slice a n c) l) := hide (fun w1 h1 => s9_any ho h1)
  unfold SolA9 at HS
  have HN : Hid (∀ r e, Eir out l r e → NewE id out l r e) := hide (fun r e k => .inr ⟨h, k⟩)
  have HSl := hide hS
  have HL := hide hl
  clear h ho hR hS hl
  go_enter (Tri.at (by decide) Try.func27), Try.ntmps27
  go_wp2_with fail
  refine (unhide H _).mono ?_
  rintro z w0 ⟨rfl, rfl⟩
  go_wp2_with fail
  refine (unhide HS _ (unhide HR)).mono ?_
  rintro z w1 ⟨r, e, hE, rfl, hb⟩
  replace HB := hide (below_via (unhide HB) hb)
  replace HZ := hide ((unhide HZ).keep hb)
  replace HR := hide ((unhide HR).below hb (Nat.le_refl _))
  replace HN := hide (unhide HN r e hE)
  clear hb hE HS H
  by_cases he : e = 0
  · subst he
    have t0 : ((0 : Int) != 0) = false := rfl
    go_wp2_with fail
    refine (copied_any (unhide HR) (unhide HSl) (unhide HL)).mono ?_
    rintro z w2 ⟨a', c', rfl, hr, hs, hf, hb⟩
    have HF : Hid (∀ x, a' = some x → w.heap.size < x.block) := hide (fun x hx => Nat.lt_of_lt_of_le (unhide HZ).lt (hf x hx))
    replace HB := hide (below_via (unhide HB) hb)
    replace HZ := hide ((unhide HZ).keep hb)
    have HR2 := hide hr
    have HS2 := hide hs
    clear hb hr hs hf
    obtain ⟨z0, z1, z2, z3, z4, z5, z6, z7, z8, z9, z10, z11, z12⟩ := Blk.c13 (show Blk _ _ _ _ from (unhide HZ))
    obtain ⟨f0, f1, f2, f3, f4, f5, f6, f7, f8, f9, f10, f11, f12⟩ := Blk.z13 (show Blk _ _ _ _ from (unhide HZ))
    go_wp2_with fail
    clear z0 f0 z1 f1 z2 f2 z3 f3 z4 f4 z5 f5 z6 f6 z7 f7 z8 f8 z9 f9 z10 f10 z11 f11 z12 f12
    generalize hW : World.setCell _ _ _ = W
    have k2 : Blk W w.heap.size #[.int .i64 id, .int .i64 1, .int .i64 0, .int .i64 out, .int .i64 r, .int .i64 out, .int .i64 0, .int .i64 0, .int .i64 0, .int .i64 0, .int .i64 0, .int .i64 0, .slice a' l.length c'] 53 := by rw [← hW]; exact (unhide HZ).wr13 _ _ _ _ _ _ _ _ _ _ _ _ _
    have k4 : Below w.heap.size w W := by rw [← hW]; exact below_putN (Nat.le_refl _) [_, _, _, _, _, _, _, _, _, _, _, _, _] 0 (unhide HB)
    have k5 : Row W (.slice a' l.length c') l := by rw [← hW]; exact Row.offN (fun x hx => by have := unhide HF x hx; omega) [_, _, _, _, _, _, _, _, _, _, _, _, _] 0 (unhide HR2)
    have k6 : ∀ x, a' = some x → w.heap.size ≤ x.block := fun x hx => Nat.le_of_lt (unhide HF x hx)
    have k7 := unhide HS2
    clear hW
    obtain ⟨p0, p1, p2, p3, p4, p5, p6, p7, p8, p9, p10, p11, p12⟩ := Blk.c13 k2
    exact bodyPost_ret (v := .tuple #[.agg #[.int .i64 id, .int .i64 1, .int .i64 0, .int .i64 out, .int .i64 r, .int .i64 out, .int .i64 0, .int .i64 0, .int .i64 0, .int .i64 0, .int .i64 0, .int .i64 0, .slice a' l.length c'], .int .i64 0]) (by simp [results, Try.results27, go_sem, p0, p1, p2, p3, p4, p5, p6, p7, p8, p9, p10, p11, p12]) rfl ⟨r, 0, unhide HN, .inr ⟨rfl, a', c', rfl, k5, k7, k6⟩, k4⟩
  · have t0 : (e != 0) = true := by simpa using he
    obtain ⟨z0, z1, z2, z3, z4, z5, z6, z7, z8, z9, z10, z11, z12⟩ := Blk.c13 (show Blk _ _ _ _ from (unhide HZ))
    obtain ⟨f0, f1, f2, f3, f4, f5, f6, f7, f8, f9, f10, f11, f12⟩ := Blk.z13 (show Blk _ _ _ _ from (unhide HZ))
    go_wp2_with fail
    clear z0 f0 z1 f1 z2 f2 z3 f3 z4 f4 z5 f5 z6 f6 z7 f7 z8 f8 z9 f9 z10 f10 z11 f11 z12 f12
    generalize hW : World.setCell _ _ _ = W
    have k2 : Blk W w.heap.size lnZ 53 := by rw [← hW]; exact (unhide HZ).wr13 _ _ _ _ _ _ _ _ _ _ _ _ _
    have k4 : Below w.heap.size w W := by rw [← hW]; exact below_putN (Nat.le_refl _) [_, _, _, _, _, _, _, _, _, _, _, _, _] 0 (unhide HB)
    clear hW
    obtain ⟨p0, p1, p2, p3, p4, p5, p6, p7, p8, p9, p10, p11, p12⟩ := Blk.c13 k2
    exact bodyPost_ret (v := .tuple #[.agg lnZ, .int .i64 e]) (by simp [results, Try.results27, go_sem, p0, p1, p2, p3, p4, p5, p6, p7, p8, p9, p10, p11, p12]) rfl ⟨r, e, unhide HN, .inl ⟨he, rfl⟩, k4⟩
theorem new_any {id out : Int} {a : Option Addr} {n c : Nat} {w : World} {l : List Int} (ho : In64 out) (hR : Row w (.slice a n c) l) (hS : Sl a n c) (hl : l.length ≤ 1000000) : NewA w id out (.slice a n c) l := by
  by_cases h : inB 0 id 2147483647 = true
  · exact new_b id out a n c w l h ho hR hS hl
  · exact new_a id out a n c w l (Bool.eq_false_iff.2 h)
set_option maxHeartbeats 4000000 in
theorem to_any {L : Ln} {a : Option Addr} {n c : Nat} {l : List Int} {w : World} (hR : Row w (.slice a n c) l) (hS : Sl a n c) (hl : l.length ≤ 100000) : Calls (Tri Try.prog) 32 #[.agg (lnA L (.slice a n c))] w fun z w' => ∃ a3 c3, z = .returned (.agg (lnA L (.slice a3 l.length c3))) ∧ Row w' (.slice a3 l.length c3) l ∧ Sl a3 l.length c3 ∧ (∀ x, a3 = some x → w.heap.size ≤ x.block) ∧ Below w.heap.size w w' := by

  have HG := hide (Grow.empty (((w.alloc (.cells (lnA L (.slice a n c)) 56)).alloc (.cells lnZ 53)).alloc (.cells (lnA L (.slice a n c)) 53)) (((w.alloc (.cells (lnA L (.slice a n c)) 56)).alloc (.cells lnZ 53)).alloc (.cells (lnA L (.slice a n c)) 53)) (Below.refl _ _))
  have HFr : Hid (From ((((w.alloc (.cells (lnA L (.slice a n c)) 56)).alloc (.cells lnZ 53)).alloc (.cells (lnA L (.slice a n c)) 53)).alloc (.cells #[] 2)) (.slice a n c) l) := hide (from_row ((((hR.alloc _).alloc _).alloc _).alloc _) hS.2)
  have HIn := hide (row_in hR)
  have HL := hide hl
  have HB : Hid (Below w.heap.size w (((w.alloc (.cells (lnA L (.slice a n c)) 56)).alloc (.cells lnZ 53)).alloc (.cells (lnA L (.slice a n c)) 53))) := hide (((below1L w _).alloc (by simp) _).alloc (by simp; omega) _)
  have H1 : Hid (Blk (((w.alloc (.cells (lnA L (.slice a n c)) 56)).alloc (.cells lnZ 53)).alloc (.cells (lnA L (.slice a n c)) 53)) (w.heap.size + 1) lnZ 53) := hide (by have h := (Blk.new (w.alloc (.cells (lnA L (.slice a n c)) 56)) lnZ 53).alloc (.cells (lnA L (.slice a n c)) 53); simpa using h)
  have H2 : Hid (Blk (((w.alloc (.cells (lnA L (.slice a n c)) 56)).alloc (.cells lnZ 53)).alloc (.cells (lnA L (.slice a n c)) 53)) (w.heap.size + 1 + 1) (lnA L (.slice a n c)) 53) := hide (by have h := Blk.new ((w.alloc (.cells (lnA L (.slice a n c)) 56)).alloc (.cells lnZ 53)) (lnA L (.slice a n c)) 53; simpa using h)
  clear hR hS hl
  go_enter (Tri.at (by decide) Try.func32), Try.ntmps32
  go_wp2_with (refine list_from rfl (.tmp 5) (.tmp 7) rfl _ _ _ _ [] l (unhide HG) (unhide HFr) (by simp [Act.eval, Act.put]) (by simp [Act.eval, Act.put]) (by have := unhide HL; simp; omega) (unhide HIn) ?_)
  intro v W2 hG
  obtain ⟨a3, c3, rfl, hr, hs, hf⟩ := grow_sl hG (by have := unhide HL; simp; omega)
  replace HB := hide (below_via (unhide HB) hG.below)
  replace H1 := hide ((unhide H1).keep hG.below)
  replace H2 := hide ((unhide H2).keep hG.below)
  have HF : Hid (∀ x, a3 = some x → w.heap.size + 1 + 1 < x.block) := hide (fun x hx => by
    have h := hf x hx
    simp at h
    omega)
  have HR3 := hide hr
  have HS3 := hide hs
  clear hr hs hf hG HG HFr
  generalize hn3 : l.length = n3 at *
  replace hn3 := hide hn3
  obtain ⟨x0, x1, x2, x3, x4, x5, x6, x7, x8, x9, x10, x11, x12⟩ := Blk.c13 (show Blk _ _ _ _ from unhide H1)
  obtain ⟨u0, u1, u2, u3, u4, u5, u6, u7, u8, u9, u10, u11, u12⟩ := Blk.z13 (show Blk _ _ _ _ from unhide H1)
  obtain ⟨y0, y1, y2, y3, y4, y5, y6, y7, y8, y9, y10, y11, y12⟩ := Blk.c13 (show Blk _ _ _ _ from unhide H2)
  have yf := (show Blk _ _ _ _ from unhide H2).fz 12
  go_wp2_with fail
  clear x0 u0 y0 x1 u1 y1 x2 u2 y2 x3 u3 y3 x4 u4 y4 x5 u5 y5 x6 u6 y6 x7 u7 y7 x8 u8 y8 x9 u9 y9 x10 u10 y10 x11 u11 y11 x12 u12 y12 yf
  generalize hW : World.setCell _ _ _ = W
  have k2 : Blk W (w.heap.size + 1) (lnA L (.slice a3 n3 c3)) 53 := by rw [← hW]; exact ((show Blk _ _ _ _ from unhide H1).other (by omega) 12 _).wr13 _ _ _ _ _ _ _ _ _ _ _ _ _
  have k4 : Below w.heap.size w W := by rw [← hW]; exact below_putN (by omega) [_, _, _, _, _, _, _, _, _, _, _, _, _] 0 ((unhide HB).setCell (p := ⟨w.heap.size + 1 + 1, 12, none⟩) (by simp; omega) _)
  have k5 : Row W (.slice a3 n3 c3) l := by rw [← hW]; exact Row.offN (fun x hx => by have := unhide HF x hx; omega) [_, _, _, _, _, _, _, _, _, _, _, _, _] 0 ((unhide HR3).off (fun x hx => by have := unhide HF x hx; omega))
  have k6 : ∀ x, a3 = some x → w.heap.size ≤ x.block := fun x hx => by have := unhide HF x hx; omega
  have k7 := unhide HS3
  clear hW
  obtain ⟨p0, p1, p2, p3, p4, p5, p6, p7, p8, p9, p10, p11, p12⟩ := Blk.c13 k2
  have e3 := unhide hn3
  subst e3
  exact bodyPost_ret (v := .agg (lnA L (.slice a3 l.length c3))) (by simp [results, Try.results32, go_sem, p0, p1, p2, p3, p4, p5, p6, p7, p8, p9, p10, p11, p12]) rfl ⟨a3, c3, rfl, k5, k7, k6, k4⟩
end Go.Proofs.Ytpeoabopeihadaa.Mn
