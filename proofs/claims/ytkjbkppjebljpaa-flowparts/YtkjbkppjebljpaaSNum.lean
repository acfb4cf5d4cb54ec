/- Plain facts on amounts by days. No program in this text. -/
import Derived.Test.YtkjbkppjebljpaaChk
namespace Go.Proofs.Ytkjbkppjebljpaa
def dAt (ds : List Int) (j : Nat) : Int := ds.getD j 0
/-- The day ahead of the j-th one, 0 ahead of the first. -/
def lo (ds : List Int) (j : Nat) : Int := if j = 0 then 0 else dAt ds (j - 1)
def lastD (a : Int) : List Int → Int
  | [] => a
  | d :: r => lastD d r
def RisesD (a : Int) : List Int → Prop
  | [] => True
  | d :: r => a < d ∧ RisesD d r
theorem chkD_ok {ds : List Int} {a : Int} (h : chkD a ds = 0) : RisesD a ds ∧ ∀ d ∈ ds, d ≤ 3652059 := by
  induction ds generalizing a with
  | nil => exact ⟨trivial, fun d hd => by cases hd⟩
  | cons d r ih =>
    by_cases q : a < d ∧ d ≤ 3652059
    · rw [chkD_next q] at h
      obtain ⟨i1, i2⟩ := ih h
      exact ⟨⟨q.1, i1⟩, fun x hx => by
        rcases List.mem_cons.1 hx with rfl | hx
        · exact q.2
        · exact i2 x hx⟩
    · rw [chkD_no q] at h; cases h
theorem risesD_all {ds : List Int} {a : Int} (h : RisesD a ds) : ∀ d ∈ ds, a < d := by
  induction ds generalizing a with
  | nil => intro d hd; cases hd
  | cons x r ih =>
    intro d hd
    rcases List.mem_cons.1 hd with rfl | hd
    · exact h.1
    · exact Int.lt_trans h.1 (ih h.2 d hd)
theorem risesD_at {ds : List Int} {a : Int} (h : RisesD a ds) : ∀ i j, i < j → j < ds.length → dAt ds i < dAt ds j := by
  induction ds generalizing a with
  | nil => intro i j _ hj; cases hj
  | cons x r ih =>
    intro i j hij hj
    cases j with
    | zero => cases hij
    | succ j =>
      cases i with
      | zero =>
        have hj' : j < r.length := by simpa using hj
        show x < dAt (x :: r) (j + 1)
        have : dAt (x :: r) (j + 1) = r[j] := by simp [dAt, List.getD, hj']
        rw [this]
        exact risesD_all h.2 _ (List.getElem_mem hj')
      | succ i =>
        have := ih h.2 i j (by omega) (by simpa using hj)
        simpa [dAt] using this
theorem lastD_at {ds : List Int} {a : Int} (h : 0 < ds.length) : lastD a ds = dAt ds (ds.length - 1) := by
  induction ds generalizing a with
  | nil => cases h
  | cons x r ih =>
    cases r with
    | nil => rfl
    | cons y s =>
      show lastD y s = _
      have := ih (a := x) (by simp)
      have e : lastD x (y :: s) = lastD y s := rfl
      rw [e] at this
      rw [this]
      simp [dAt]
theorem lastD_ge {ds : List Int} (h : RisesD 0 ds) : ∀ j, j < ds.length → dAt ds j ≤ lastD 0 ds := by
  intro j hj
  rw [lastD_at (by omega)]
  by_cases e : j = ds.length - 1
  · rw [e]; exact Int.le_refl _
  · exact Int.le_of_lt (risesD_at h j (ds.length - 1) (by omega) (by omega))
theorem within_append (a b : Int) (l m : List (Int × Int)) : within a b (l ++ m) = within a b l + within a b m := by
  induction l with
  | nil => simp [within]
  | cons f r ih => simp only [List.cons_append, within, ih]; omega
theorem within_one (a b : Int) (f : Int × Int) : within a b [f] = if a < f.1 ∧ f.1 ≤ b then f.2 else 0 := by
  show (if a < f.1 ∧ f.1 ≤ b then f.2 else 0) + 0 = _
  omega
theorem within_bd {l : List (Int × Int)} (a b : Int) (h : ∀ f ∈ l, may f.2 = true) : -(10000000000000 * (l.length : Int)) ≤ within a b l ∧ within a b l ≤ 10000000000000 * (l.length : Int) := by
  induction l with
  | nil => simp [within]
  | cons f r ih =>
    have h1 := may_bd (h f List.mem_cons_self)
    have h2 := ih (fun g hg => h g (List.mem_cons_of_mem _ hg))
    simp only [within, List.length_cons]
    rw [show ((r.length + 1 : Nat) : Int) = (r.length : Int) + 1 from by omega, Int.mul_add]
    split <;> omega
/-- One flow more, at its place. -/
theorem within_place {ds : List Int} {l : List (Int × Int)} {f : Int × Int} {A : Nat} (h : RisesD 0 ds) (hA : A < ds.length) (h1 : lo ds A < f.1) (h2 : f.1 ≤ dAt ds A) (j : Nat) (hj : j < ds.length) :
    (if j = A then within (lo ds A) (dAt ds A) l + f.2 else within (lo ds j) (dAt ds j) l) = within (lo ds j) (dAt ds j) (l ++ [f]) := by
  rw [within_append, within_one]
  by_cases e : j = A
  · subst e
    rw [if_pos rfl, if_pos ⟨h1, h2⟩]
  · rw [if_neg e, if_neg, Int.add_zero]
    rintro ⟨q1, q2⟩
    by_cases c : j < A
    · have hlo : lo ds A = dAt ds (A - 1) := if_neg (by omega)
      rw [hlo] at h1
      by_cases c2 : j = A - 1
      · subst c2; omega
      · have := risesD_at h j (A - 1) (by omega) (by omega); omega
    · have hlo : lo ds j = dAt ds (j - 1) := if_neg (by omega)
      rw [hlo] at q1
      by_cases c2 : A = j - 1
      · subst c2; omega
      · have := risesD_at h A (j - 1) (by omega) (by omega); omega
theorem spr_at (l : List (Int × Int)) : ∀ (ds : List Int) (a : Int), spr a l ds = (List.range ds.length).map (fun j => within (if j = 0 then a else dAt ds (j - 1)) (dAt ds j) l)
  | [], _ => rfl
  | d :: r, a => by
    show within a d l :: spr d l r = _
    rw [spr_at l r d, List.length_cons, List.range_succ_eq_map, List.map_cons, List.map_map]
    congr 1
    refine List.map_congr_left (fun j hj => ?_)
    show within (if j = 0 then d else dAt r (j - 1)) (dAt r j) l = within (if j + 1 = 0 then a else dAt (d :: r) (j + 1 - 1)) (dAt (d :: r) (j + 1)) l
    cases j with
    | zero => rfl
    | succ j => rfl
theorem spr_lo (l : List (Int × Int)) (ds : List Int) : spr 0 l ds = (List.range ds.length).map (fun j => within (lo ds j) (dAt ds j) l) := spr_at l ds 0
/-- Spread's error. -/
def sE (l : List (Int × Int)) (ds : List Int) : Int := if chkE l = 0 then (if dayE ds = 0 then (if (l.any fun f => decide (lastD 0 ds < f.1)) = true then 2 else if ((spr 0 l ds).all may) = true then 0 else 3) else dayE ds) else chkE l
def sL (l : List (Int × Int)) (ds : List Int) : List Int := if sE l ds = 0 then spr 0 l ds else []
theorem sE_l {l : List (Int × Int)} {ds : List Int} (h : chkE l ≠ 0) : sE l ds = chkE l ∧ sL l ds = [] := by
  have : sE l ds = chkE l := if_neg h
  exact ⟨this, if_neg (by rw [this]; exact h)⟩
theorem sE_d {l : List (Int × Int)} {ds : List Int} (h : chkE l = 0) (h2 : dayE ds ≠ 0) : sE l ds = dayE ds ∧ sL l ds = [] := by
  have : sE l ds = dayE ds := by unfold sE; rw [if_pos h, if_neg h2]
  exact ⟨this, if_neg (by rw [this]; exact h2)⟩
/-- What Spread answers, of flows and days that may be. -/
def SRes (l : List (Int × Int)) (ds : List Int) (en : Int) (r : List Int) : Prop :=
  ((∃ f ∈ l, lastD 0 ds < f.1) ∧ en = 2 ∧ r = []) ∨ ((∀ f ∈ l, f.1 ≤ lastD 0 ds) ∧ (∃ j, j < ds.length ∧ may (within (lo ds j) (dAt ds j) l) = false) ∧ en = 3 ∧ r = []) ∨ ((∀ f ∈ l, f.1 ≤ lastD 0 ds) ∧ (∀ j, j < ds.length → may (within (lo ds j) (dAt ds j) l) = true) ∧ en = 0 ∧ r = spr 0 l ds)
theorem SRes.same {l : List (Int × Int)} {ds : List Int} {en : Int} {r : List Int} (h1 : chkE l = 0) (h2 : dayE ds = 0) (h : SRes l ds en r) : en = sE l ds ∧ r = sL l ds := by
  have hany : (∀ f ∈ l, f.1 ≤ lastD 0 ds) → (l.any fun f => decide (lastD 0 ds < f.1)) = false := fun h => by
    rw [List.any_eq_false]
    intro f hf
    have := h f hf
    simp; omega
  rcases h with ⟨⟨f, hf, q⟩, rfl, rfl⟩ | ⟨q, ⟨j, hj, hm⟩, rfl, rfl⟩ | ⟨q, hm, rfl, rfl⟩
  · have e : sE l ds = 2 := by
      unfold sE
      rw [if_pos h1, if_pos h2, if_pos]
      rw [List.any_eq_true]
      exact ⟨f, hf, decide_eq_true q⟩
    exact ⟨e.symm, by unfold sL; rw [e]; rfl⟩
  · have e : sE l ds = 3 := by
      unfold sE
      rw [if_pos h1, if_pos h2, if_neg (by rw [hany q]; decide), if_neg]
      rw [List.all_eq_true, spr_lo]
      intro c
      have := c _ (List.mem_map.2 ⟨j, List.mem_range.2 hj, rfl⟩)
      rw [hm] at this
      cases this
    exact ⟨e.symm, by unfold sL; rw [e]; rfl⟩
  · have e : sE l ds = 0 := by
      unfold sE
      rw [if_pos h1, if_pos h2, if_neg (by rw [hany q]; decide), if_pos]
      rw [List.all_eq_true, spr_lo]
      intro x hx
      obtain ⟨j, hj, rfl⟩ := List.mem_map.1 hx
      exact hm j (List.mem_range.1 hj)
    exact ⟨e.symm, by unfold sL; rw [e]; rfl⟩
end Go.Proofs.Ytkjbkppjebljpaa
