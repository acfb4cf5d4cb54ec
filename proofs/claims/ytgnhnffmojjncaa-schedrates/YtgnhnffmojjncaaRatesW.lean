/- For SchedRates: a row of numbers that grows inside a struct; rates of 0, and rates that are no less. -/
import Derived.Test.YtgnhnffmojjncaaSRes
namespace Go.Proofs.Ytgnhnffmojjncaa.Mn
open Go.RowKit
set_option linter.unusedSimpArgs false
def ups (zs : List Int) : List (List Int) := zs.map (fun z => [z])
theorem ups_len (zs : List Int) : (ups zs).length = zs.length := by simp [ups]
theorem row_of_ups {w : World} {v : Value} {zs : List Int} (h : RowN 1 w v (ups zs)) : Row w v zs := by
  rcases h with ⟨a, c, h1, h2, _⟩ | ⟨b, off, c, h1, h2, h3, h4, h5, h6⟩
  · have : zs = [] := by
      cases zs with
      | nil => rfl
      | cons _ _ => cases h2
    exact Or.inl ⟨a, c, h1, this⟩
  · rw [ups_len] at h1 h2 h3
    refine Or.inr ⟨b, off, c, h1, h2, by omega, fun j hj => ?_, fun z hz => ?_⟩
    · have e := h5 j (by rw [ups_len]; exact hj) 0 (by decide)
      rw [Nat.mul_one, Nat.add_zero] at e
      rw [e]
      simp [getN, ups, List.getD, hj]
    · exact (h6 [z] (by simp [ups]; exact hz)).2 z (by simp)
/-- Since w, block g (new since) holds terms whose rates are a row of their own that grows. -/
structure OSt (w wr : World) (g : Nat) (kd P n : Int) (v : Value) (zs : List Int) : Prop where
  grow : GrowN 2 1 w wr v (ups zs)
  base : w.heap.size ≤ g
  sep : v.ownBlock ≠ some g
  tm : Tm wr g 24 kd P v n
theorem Tm.set2 {w : World} {b : Nat} {T : TypeId} {kd P n : Int} {rv : Value} (h : Tm w b T kd P rv n) (v : Value) : Tm (w.setCell ⟨b, 2, none⟩ v) b T kd P v n := by unfold Tm; rw [Go.heap_setCell_same w b 2 _ _ _ h]; rfl
theorem Tm.fz {w : World} {b : Nat} {T : TypeId} {kd P n : Int} {rv : Value} (h : Tm w b T kd P rv n) (j : Nat) : w.frozen? ⟨b, j, none⟩ = false := frozen_of_row w b j _ _ h
theorem OSt.push {w wr w' : World} {g : Nat} {kd P n : Int} {v v' : Value} {zs : List Int} {z : Int} (h : OSt w wr g kd P n v zs) (hG : GrowN 2 1 w w' v' (ups zs ++ [[z]])) (hg : wr.grownBy w' v.ownBlock) (hs : ∀ j, v'.ownBlock = some j → v.ownBlock = some j ∨ wr.heap.size ≤ j) : OSt w (w'.setCell ⟨g, 2, none⟩ v') g kd P n v' (zs ++ [z]) := by
  have hl := h.tm.lt
  have hsep : v'.ownBlock ≠ some g := fun c => by
    rcases hs g c with e | e
    · exact h.sep e
    · omega
  have ht : Tm w' g 24 kd P v n := (hg.block g hl (fun c => h.sep c.symm)).trans h.tm
  have e : ups zs ++ [[z]] = ups (zs ++ [z]) := by simp [ups]
  rw [e] at hG
  exact ⟨⟨hG.below.setCell h.base _, hG.owns.kept (gb_set w' g 2 v') (Or.inr hsep), hG.small⟩, h.base, hsep, ht.set2 v'⟩
/-- Rates of 0. -/
theorem zero_terms {kd P : Int} {rs : List Int} {n : Nat} (h : TermsOk kd P rs n) : TermsOk kd P [0] n :=
  ⟨h.k0, h.k1, h.p0, h.p1, h.n0, h.n1, by decide, h.n0, fun r hr => by simp at hr; subst hr; decide⟩
theorem zero_rt (i : Nat) : rtAt [0] i = 0 := by simp [rtAt]
theorem zero_res {kd P : Int} {rs : List Int} {n : Nat} (h : TermsOk kd P rs n) : Res kd P [0] n (rowsUp (loanOf kd P [0] n) n) 0 :=
  Or.inr ⟨n, rfl, zero_terms h, Or.inl ⟨rfl, rfl, flat_fine qI_int2 (zero_terms h).loan (fun i => zero_rt i)⟩⟩
theorem zero_sum {kd P : Int} {rs : List Int} {n : Nat} (h : TermsOk kd P rs n) : ((List.range n).map (paid qI (loanOf kd P [0] n))).sum = P :=
  flat_sum (L := loanOf kd P [0] n) qI_int2 h.n0 (fun i => zero_rt i)
/-- Rates that are no less, none above 1. -/
def more (mo r : Int) : Int := min (r + mo) 1000000000000
theorem more_terms {kd P mo : Int} {rs : List Int} {n : Nat} (h : TermsOk kd P rs n) (h0 : 0 ≤ mo) : TermsOk kd P (rs.map (more mo)) n :=
  ⟨h.k0, h.k1, h.p0, h.p1, h.n0, h.n1, by rw [List.length_map]; exact h.r0, by rw [List.length_map]; exact h.r1, fun r hr => by
    obtain ⟨s, hs, rfl⟩ := List.mem_map.1 hr
    have := bearB_bd (h.rt s hs)
    unfold more
    simp only [bearB, Bool.and_eq_true, decide_eq_true_eq]
    omega⟩
theorem more_rt {mo : Int} {rs : List Int} (h : 0 < rs.length) (i : Nat) : rtAt (rs.map (more mo)) i = more mo (rtAt rs i) := by
  unfold rtAt
  rw [List.length_map]
  have hj : min i (rs.length - 1) < rs.length := by omega
  simp [List.getD, hj]
theorem more_int {kd P mo : Int} {rs : List Int} {n : Nat} (h : TermsOk kd P rs n) (h0 : 0 ≤ mo) (hk : kd ≠ 1) (ho : ∀ j, j < n → ¬ over qI (loanOf kd P rs n) j) {i : Nat} (hi : i < n) : int qI (loanOf kd P rs n) i ≤ int qI (loanOf kd P (rs.map (more mo)) n) i := by
  refine (int_more qI_int2 h.loan (more_terms h h0).loan rfl rfl rfl rfl hk (fun j => ?_) ho i hi).2
  show rtAt rs j ≤ rtAt (rs.map (more mo)) j
  rw [more_rt h.r0]
  have := bearB_bd (h.at j)
  unfold more
  omega
end Go.Proofs.Ytgnhnffmojjncaa.Mn
