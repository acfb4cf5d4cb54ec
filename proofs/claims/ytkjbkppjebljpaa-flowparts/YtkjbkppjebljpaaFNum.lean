/- Plain facts on flows: amounts on days, merged, parted and spread. No program in this text. -/
import Derived.Test.YtkjbkppjebljpaaNum
namespace Go.Proofs.Ytkjbkppjebljpaa
theorem may_bd {x : Int} (h : may x = true) : -10000000000000 ≤ x ∧ x ≤ 10000000000000 := by
  unfold may at h
  simpa using h
/-- The error of the flows, behind a day. -/
def chk (last : Int) : List (Int × Int) → Int
  | [] => 0
  | f :: r => if f.1 ≤ last ∨ 3652059 < f.1 then 5 else if may f.2 = true then chk f.1 r else 2
/-- Days rise, behind a day. -/
def Rises (last : Int) : List (Int × Int) → Prop
  | [] => True
  | f :: r => last < f.1 ∧ Rises f.1 r
theorem Rises.mono {l : List (Int × Int)} {a b : Int} (h : Rises b l) (hab : a ≤ b) : Rises a l := by
  cases l with
  | nil => trivial
  | cons f r => exact ⟨Int.lt_of_le_of_lt hab h.1, h.2⟩
theorem Rises.all {l : List (Int × Int)} {a : Int} (h : Rises a l) : ∀ f ∈ l, a < f.1 := by
  induction l generalizing a with
  | nil => intro f hf; cases hf
  | cons g r ih =>
    intro f hf
    rcases List.mem_cons.1 hf with rfl | hf
    · exact h.1
    · exact Int.lt_trans h.1 (ih h.2 f hf)
theorem chk_ok {l : List (Int × Int)} {a : Int} (h : chk a l = 0) : Rises a l ∧ ∀ f ∈ l, f.1 ≤ 3652059 ∧ may f.2 = true := by
  induction l generalizing a with
  | nil => exact ⟨trivial, fun f hf => by cases hf⟩
  | cons g r ih =>
    unfold chk at h
    split at h
    · cases h
    · split at h
      · rename_i h1 h2
        obtain ⟨i1, i2⟩ := ih h
        refine ⟨⟨by omega, i1⟩, fun f hf => ?_⟩
        rcases List.mem_cons.1 hf with rfl | hf
        · exact ⟨by omega, h2⟩
        · exact i2 f hf
      · cases h
theorem chk_of {l : List (Int × Int)} {a : Int} (h : Rises a l) (h2 : ∀ f ∈ l, f.1 ≤ 3652059 ∧ may f.2 = true) : chk a l = 0 := by
  induction l generalizing a with
  | nil => rfl
  | cons g r ih =>
    have hg := h2 g List.mem_cons_self
    unfold chk
    rw [if_neg (by have := h.1; omega), if_pos hg.2]
    exact ih h.2 (fun f hf => h2 f (List.mem_cons_of_mem _ hf))
/-- A day's amount. -/
def on : List (Int × Int) → Int → Int
  | [], _ => 0
  | f :: r, d => if f.1 = d then f.2 else on r d
theorem on_low {l : List (Int × Int)} {a d : Int} (h : Rises a l) (hd : d ≤ a) : on l d = 0 := by
  induction l generalizing a with
  | nil => rfl
  | cons g r ih =>
    unfold on
    rw [if_neg (by have := h.1; omega)]
    exact ih h.2 (by have := h.1; omega)
/-- All amounts together. -/
def tot : List (Int × Int) → Int
  | [] => 0
  | f :: r => f.2 + tot r
theorem tot_append (l m : List (Int × Int)) : tot (l ++ m) = tot l + tot m := by
  induction l with
  | nil => simp [tot]
  | cons f r ih => simp only [List.cons_append, tot, ih]; omega
/-- One flow into the others, the rest of its row by rec. -/
def ins (x : Int × Int) (rec_ : List (Int × Int) → List (Int × Int)) : List (Int × Int) → List (Int × Int)
  | [] => x :: rec_ []
  | y :: b => if x.1 < y.1 then x :: rec_ (y :: b) else if y.1 < x.1 then y :: ins x rec_ b else (x.1, x.2 + y.2) :: rec_ b
/-- Both rows, the least day first, with those of 0. -/
def mrg : List (Int × Int) → List (Int × Int) → List (Int × Int)
  | [], b => b
  | x :: a, b => ins x (mrg a) b
theorem mrg_nil (a : List (Int × Int)) : mrg a [] = a := by
  induction a with
  | nil => rfl
  | cons x a ih => show x :: mrg a [] = _; rw [ih]
theorem mrg_lt {x y : Int × Int} {a b : List (Int × Int)} (h : x.1 < y.1) : mrg (x :: a) (y :: b) = x :: mrg a (y :: b) := if_pos h
theorem mrg_gt {x y : Int × Int} {a b : List (Int × Int)} (h : y.1 < x.1) : mrg (x :: a) (y :: b) = y :: mrg (x :: a) b := by
  show (if x.1 < y.1 then _ else _) = _
  rw [if_neg (by omega), if_pos h]
  rfl
theorem mrg_eq {x y : Int × Int} {a b : List (Int × Int)} (h : x.1 = y.1) : mrg (x :: a) (y :: b) = (x.1, x.2 + y.2) :: mrg a b := by
  show (if x.1 < y.1 then _ else _) = _
  rw [if_neg (by omega), if_neg (by omega)]
/-- Merging: by the heads. -/
theorem mrg_ind {P : List (Int × Int) → List (Int × Int) → Prop} (h1 : ∀ b, P [] b) (h2 : ∀ a, P a []) (hl : ∀ x y a b, x.1 < y.1 → P a (y :: b) → P (x :: a) (y :: b)) (hg : ∀ x y a b, y.1 < x.1 → P (x :: a) b → P (x :: a) (y :: b)) (he : ∀ x y a b, x.1 = y.1 → P a b → P (x :: a) (y :: b)) : ∀ a b, P a b := by
  intro a
  induction a with
  | nil => exact h1
  | cons x a iha =>
    intro b
    induction b with
    | nil => exact h2 _
    | cons y b ihb =>
      by_cases c : x.1 < y.1
      · exact hl x y a b c (iha _)
      · by_cases c2 : y.1 < x.1
        · exact hg x y a b c2 ihb
        · exact he x y a b (by omega) (iha _)
theorem mrg_comm (a b : List (Int × Int)) : mrg a b = mrg b a := by
  refine mrg_ind (P := fun a b => mrg a b = mrg b a) (fun b => (mrg_nil b).symm) (fun a => mrg_nil a) ?_ ?_ ?_ a b
  · intro x y a b h ih; rw [mrg_lt h, mrg_gt h, ih]
  · intro x y a b h ih; rw [mrg_gt h, mrg_lt h, ih]
  · intro x y a b h ih; rw [mrg_eq h, mrg_eq h.symm, ih, h, Int.add_comm]
theorem mrg_rises (a b : List (Int × Int)) : ∀ last, Rises last a → Rises last b → Rises last (mrg a b) := by
  refine mrg_ind (P := fun a b => ∀ last, Rises last a → Rises last b → Rises last (mrg a b)) (fun b _ _ h => h) (fun a _ h _ => by rw [mrg_nil]; exact h) ?_ ?_ ?_ a b
  · intro x y a b h ih last ha hb; rw [mrg_lt h]; exact ⟨ha.1, ih _ ha.2 ⟨h, hb.2⟩⟩
  · intro x y a b h ih last ha hb; rw [mrg_gt h]; exact ⟨hb.1, ih _ ⟨h, ha.2⟩ hb.2⟩
  · intro x y a b h ih last ha hb; rw [mrg_eq h]; exact ⟨ha.1, ih _ ha.2 (by rw [h]; exact hb.2)⟩
theorem mrg_on (a b : List (Int × Int)) : ∀ last, Rises last a → Rises last b → ∀ d, on (mrg a b) d = on a d + on b d := by
  refine mrg_ind (P := fun a b => ∀ last, Rises last a → Rises last b → ∀ d, on (mrg a b) d = on a d + on b d) (fun b _ _ _ d => by simp [mrg, on]) (fun a _ _ _ d => by rw [mrg_nil]; simp [on]) ?_ ?_ ?_ a b
  · intro x y a b h ih last ha hb d
    rw [mrg_lt h]
    have e := ih x.1 ha.2 ⟨h, hb.2⟩ d
    show (if x.1 = d then _ else _) = (if x.1 = d then _ else _) + _
    by_cases c : x.1 = d
    · rw [if_pos c, if_pos c, on_low (l := y :: b) (a := x.1) ⟨h, hb.2⟩ (by omega)]; omega
    · rw [if_neg c, if_neg c, e]
  · intro x y a b h ih last ha hb d
    rw [mrg_gt h]
    have e := ih y.1 ⟨h, ha.2⟩ hb.2 d
    show (if y.1 = d then _ else _) = _ + (if y.1 = d then _ else _)
    by_cases c : y.1 = d
    · rw [if_pos c, if_pos c, on_low (l := x :: a) (a := y.1) ⟨h, ha.2⟩ (by omega)]; omega
    · rw [if_neg c, if_neg c, e]
  · intro x y a b h ih last ha hb d
    rw [mrg_eq h]
    have e := ih x.1 ha.2 (by rw [h]; exact hb.2) d
    show (if x.1 = d then x.2 + y.2 else _) = (if x.1 = d then _ else _) + (if y.1 = d then _ else _)
    by_cases c : x.1 = d
    · rw [if_pos c, if_pos c, if_pos (by omega)]
    · rw [if_neg c, if_neg c, if_neg (by omega), e]
theorem mrg_tot (a b : List (Int × Int)) : tot (mrg a b) = tot a + tot b := by
  refine mrg_ind (P := fun a b => tot (mrg a b) = tot a + tot b) (fun b => by simp [mrg, tot]) (fun a => by rw [mrg_nil]; simp [tot]) ?_ ?_ ?_ a b
  · intro x y a b h ih; rw [mrg_lt h]; simp only [tot] at *; omega
  · intro x y a b h ih; rw [mrg_gt h]; simp only [tot] at *; omega
  · intro x y a b h ih; rw [mrg_eq h]; simp only [tot] at *; omega
theorem mrg_len (a b : List (Int × Int)) : (mrg a b).length ≤ a.length + b.length := by
  refine mrg_ind (P := fun a b => (mrg a b).length ≤ a.length + b.length) (fun b => by simp [mrg]) (fun a => by rw [mrg_nil]; simp) ?_ ?_ ?_ a b
  · intro x y a b h ih; rw [mrg_lt h]; simp only [List.length_cons] at *; omega
  · intro x y a b h ih; rw [mrg_gt h]; simp only [List.length_cons] at *; omega
  · intro x y a b h ih; rw [mrg_eq h]; simp only [List.length_cons] at *; omega
theorem mrg_days (a b : List (Int × Int)) : ∀ f ∈ mrg a b, (∃ g ∈ a, g.1 = f.1) ∨ ∃ g ∈ b, g.1 = f.1 := by
  refine mrg_ind (P := fun a b => ∀ f ∈ mrg a b, (∃ g ∈ a, g.1 = f.1) ∨ ∃ g ∈ b, g.1 = f.1) (fun b f hf => Or.inr ⟨f, hf, rfl⟩) (fun a f hf => Or.inl ⟨f, by rwa [mrg_nil] at hf, rfl⟩) ?_ ?_ ?_ a b
  · intro x y a b h ih f hf
    rw [mrg_lt h] at hf
    rcases List.mem_cons.1 hf with rfl | hf
    · exact Or.inl ⟨_, List.mem_cons_self, rfl⟩
    · rcases ih f hf with ⟨g, h1, h2⟩ | ⟨g, h1, h2⟩
      · exact Or.inl ⟨g, List.mem_cons_of_mem _ h1, h2⟩
      · exact Or.inr ⟨g, h1, h2⟩
  · intro x y a b h ih f hf
    rw [mrg_gt h] at hf
    rcases List.mem_cons.1 hf with rfl | hf
    · exact Or.inr ⟨_, List.mem_cons_self, rfl⟩
    · rcases ih f hf with ⟨g, h1, h2⟩ | ⟨g, h1, h2⟩
      · exact Or.inl ⟨g, h1, h2⟩
      · exact Or.inr ⟨g, List.mem_cons_of_mem _ h1, h2⟩
  · intro x y a b h ih f hf
    rw [mrg_eq h] at hf
    rcases List.mem_cons.1 hf with rfl | hf
    · exact Or.inl ⟨x, List.mem_cons_self, rfl⟩
    · rcases ih f hf with ⟨g, h1, h2⟩ | ⟨g, h1, h2⟩
      · exact Or.inl ⟨g, List.mem_cons_of_mem _ h1, h2⟩
      · exact Or.inr ⟨g, List.mem_cons_of_mem _ h1, h2⟩
/-- Without those of 0. -/
def nz : List (Int × Int) → List (Int × Int)
  | [] => []
  | f :: r => if f.2 = 0 then nz r else f :: nz r
theorem nz_append (l m : List (Int × Int)) : nz (l ++ m) = nz l ++ nz m := by
  induction l with
  | nil => rfl
  | cons f r ih =>
    by_cases c : f.2 = 0
    · have e : nz (f :: r) = nz r := if_pos c
      have e2 : nz (f :: (r ++ m)) = nz (r ++ m) := if_pos c
      rw [List.cons_append, e, e2, ih]
    · have e : nz (f :: r) = f :: nz r := if_neg c
      have e2 : nz (f :: (r ++ m)) = f :: nz (r ++ m) := if_neg c
      rw [List.cons_append, e, e2, ih]; rfl
theorem nz_mem {l : List (Int × Int)} : ∀ f ∈ nz l, f ∈ l ∧ f.2 ≠ 0 := by
  induction l with
  | nil => intro f hf; cases hf
  | cons g r ih =>
    intro f hf
    unfold nz at hf
    by_cases c : g.2 = 0
    · rw [if_pos c] at hf
      exact ⟨List.mem_cons_of_mem _ (ih f hf).1, (ih f hf).2⟩
    · rw [if_neg c] at hf
      rcases List.mem_cons.1 hf with rfl | hf
      · exact ⟨List.mem_cons_self, c⟩
      · exact ⟨List.mem_cons_of_mem _ (ih f hf).1, (ih f hf).2⟩
theorem nz_rises {l : List (Int × Int)} {a : Int} (h : Rises a l) : Rises a (nz l) := by
  induction l generalizing a with
  | nil => trivial
  | cons g r ih =>
    unfold nz
    by_cases c : g.2 = 0
    · rw [if_pos c]; exact (ih h.2).mono (by have := h.1; omega)
    · rw [if_neg c]; exact ⟨h.1, ih h.2⟩
theorem nz_on {l : List (Int × Int)} {a : Int} (h : Rises a l) (d : Int) : on (nz l) d = on l d := by
  induction l generalizing a with
  | nil => rfl
  | cons g r ih =>
    unfold nz
    by_cases c : g.2 = 0
    · rw [if_pos c, ih h.2]
      show _ = if g.1 = d then _ else _
      by_cases e : g.1 = d
      · rw [if_pos e, c, on_low h.2 (by omega)]
      · rw [if_neg e]
    · rw [if_neg c]
      show (if g.1 = d then _ else _) = if g.1 = d then _ else _
      rw [ih h.2]
theorem nz_tot (l : List (Int × Int)) : tot (nz l) = tot l := by
  induction l with
  | nil => rfl
  | cons g r ih =>
    unfold nz
    by_cases c : g.2 = 0
    · rw [if_pos c, ih]; simp only [tot, c]; omega
    · rw [if_neg c]; simp only [tot, ih]
theorem nz_len (l : List (Int × Int)) : (nz l).length ≤ l.length := by
  induction l with
  | nil => exact Nat.le_refl _
  | cons g r ih =>
    unfold nz
    by_cases c : g.2 = 0
    · rw [if_pos c]; simp only [List.length_cons]; omega
    · rw [if_neg c]; simp only [List.length_cons]; omega
theorem nz_nz (l : List (Int × Int)) : nz (nz l) = nz l := by
  induction l with
  | nil => rfl
  | cons g r ih =>
    by_cases c : g.2 = 0
    · have e : nz (g :: r) = nz r := if_pos c
      rw [e, ih]
    · have e : nz (g :: r) = g :: nz r := if_neg c
      have e2 : nz (g :: nz r) = g :: nz (nz r) := if_neg c
      rw [e, e2, ih]
theorem nz_id {l : List (Int × Int)} (h : ∀ f ∈ l, f.2 ≠ 0) : nz l = l := by
  induction l with
  | nil => rfl
  | cons g r ih =>
    have e : nz (g :: r) = g :: nz r := if_neg (h g List.mem_cons_self)
    rw [e, ih (fun f hf => h f (List.mem_cons_of_mem _ hf))]
/-- Rows that rise, without those of 0, are the same where their amounts are. -/
theorem rises_only {l m : List (Int × Int)} {a b : Int} (hl : Rises a l) (hm : Rises b m) (zl : ∀ f ∈ l, f.2 ≠ 0) (zm : ∀ f ∈ m, f.2 ≠ 0) (h : ∀ d, on l d = on m d) : l = m := by
  induction l generalizing a b m with
  | nil =>
    cases m with
    | nil => rfl
    | cons g r =>
      exfalso
      have := h g.1
      unfold on at this
      rw [if_pos rfl] at this
      exact zm g List.mem_cons_self this.symm
  | cons f r ih =>
    cases m with
    | nil =>
      exfalso
      have := h f.1
      unfold on at this
      rw [if_pos rfl] at this
      exact zl f List.mem_cons_self this
    | cons g s =>
      have z1 := zl f List.mem_cons_self
      have z2 := zm g List.mem_cons_self
      have hd : f.1 = g.1 := by
        by_cases c : f.1 < g.1
        · exfalso
          have := h f.1
          have e1 : on (f :: r) f.1 = f.2 := if_pos rfl
          have e2 : on (g :: s) f.1 = on s f.1 := if_neg (by omega)
          rw [e1, e2, on_low hm.2 (by omega)] at this
          exact z1 this
        · by_cases c2 : g.1 < f.1
          · exfalso
            have := h g.1
            have e1 : on (g :: s) g.1 = g.2 := if_pos rfl
            have e2 : on (f :: r) g.1 = on r g.1 := if_neg (by omega)
            rw [e1, e2, on_low hl.2 (by omega)] at this
            exact z2 this.symm
          · omega
      have hx : f.2 = g.2 := by
        have := h f.1
        have e1 : on (f :: r) f.1 = f.2 := if_pos rfl
        have e2 : on (g :: s) f.1 = g.2 := if_pos hd.symm
        rw [e1, e2] at this
        exact this
      have hfg : f = g := Prod.ext hd hx
      subst hfg
      have := ih hl.2 hm.2 (fun q hq => zl q (List.mem_cons_of_mem _ hq)) (fun q hq => zm q (List.mem_cons_of_mem _ hq)) (fun d => by
        by_cases c : f.1 = d
        · rw [on_low hl.2 (by omega), on_low hm.2 (by omega)]
        · have := h d
          have e1 : on (f :: r) d = on r d := if_neg c
          have e2 : on (f :: s) d = on s d := if_neg c
          rw [e1, e2] at this
          exact this)
      rw [this]
/-- Merge's answer, where there is no error. -/
def both (a b : List (Int × Int)) : List (Int × Int) := nz (mrg a b)
theorem both_on {a b : List (Int × Int)} {last : Int} (ha : Rises last a) (hb : Rises last b) (d : Int) : on (both a b) d = on a d + on b d := by
  unfold both
  rw [nz_on (mrg_rises a b last ha hb), mrg_on a b last ha hb]
theorem both_rises {a b : List (Int × Int)} {last : Int} (ha : Rises last a) (hb : Rises last b) : Rises last (both a b) := nz_rises (mrg_rises a b last ha hb)
theorem both_nz {a b : List (Int × Int)} : ∀ f ∈ both a b, f.2 ≠ 0 := fun f hf => (nz_mem f hf).2
theorem both_comm (a b : List (Int × Int)) : both a b = both b a := by unfold both; rw [mrg_comm]
theorem both_tot (a b : List (Int × Int)) : tot (both a b) = tot a + tot b := by unfold both; rw [nz_tot, mrg_tot]
theorem both_nil (a : List (Int × Int)) : both a [] = nz a := by unfold both; rw [mrg_nil]
theorem both_assoc {a b c : List (Int × Int)} {last : Int} (ha : Rises last a) (hb : Rises last b) (hc : Rises last c) : both (both a b) c = both a (both b c) :=
  rises_only (both_rises (both_rises ha hb) hc) (both_rises ha (both_rises hb hc)) both_nz both_nz (fun d => by
    rw [both_on (both_rises ha hb) hc, both_on ha hb, both_on ha (both_rises hb hc), both_on hb hc]; omega)
/-- Those up to a day, and those behind it. -/
def upto (D : Int) : List (Int × Int) → List (Int × Int)
  | [] => []
  | f :: r => if f.1 ≤ D then f :: upto D r else upto D r
def behind (D : Int) : List (Int × Int) → List (Int × Int)
  | [] => []
  | f :: r => if f.1 ≤ D then behind D r else f :: behind D r
theorem upto_none {l : List (Int × Int)} {a D : Int} (h : Rises a l) (hD : D ≤ a) : upto D l = [] ∧ behind D l = l := by
  induction l generalizing a with
  | nil => exact ⟨rfl, rfl⟩
  | cons f r ih =>
    have := h.1
    obtain ⟨i1, i2⟩ := ih h.2 (by omega)
    have e1 : upto D (f :: r) = upto D r := if_neg (by omega)
    have e2 : behind D (f :: r) = f :: behind D r := if_neg (by omega)
    rw [e1, e2, i1, i2]
    exact ⟨rfl, rfl⟩
theorem parts_whole {l : List (Int × Int)} {a D : Int} (h : Rises a l) : upto D l ++ behind D l = l := by
  induction l generalizing a with
  | nil => rfl
  | cons f r ih =>
    by_cases c : f.1 ≤ D
    · have e1 : upto D (f :: r) = f :: upto D r := if_pos c
      have e2 : behind D (f :: r) = behind D r := if_pos c
      rw [e1, e2, List.cons_append, ih h.2]
    · obtain ⟨i1, i2⟩ := upto_none h.2 (show D ≤ f.1 by omega)
      have e1 : upto D (f :: r) = upto D r := if_neg c
      have e2 : behind D (f :: r) = f :: behind D r := if_neg c
      rw [e1, e2, i1, i2]
      rfl
theorem upto_mem {l : List (Int × Int)} {D : Int} : ∀ f ∈ upto D l, f ∈ l ∧ f.1 ≤ D := by
  induction l with
  | nil => intro f hf; cases hf
  | cons g r ih =>
    intro f hf
    unfold upto at hf
    by_cases c : g.1 ≤ D
    · rw [if_pos c] at hf
      rcases List.mem_cons.1 hf with rfl | hf
      · exact ⟨List.mem_cons_self, c⟩
      · exact ⟨List.mem_cons_of_mem _ (ih f hf).1, (ih f hf).2⟩
    · rw [if_neg c] at hf
      exact ⟨List.mem_cons_of_mem _ (ih f hf).1, (ih f hf).2⟩
theorem behind_mem {l : List (Int × Int)} {D : Int} : ∀ f ∈ behind D l, f ∈ l ∧ D < f.1 := by
  induction l with
  | nil => intro f hf; cases hf
  | cons g r ih =>
    intro f hf
    unfold behind at hf
    by_cases c : g.1 ≤ D
    · rw [if_pos c] at hf
      exact ⟨List.mem_cons_of_mem _ (ih f hf).1, (ih f hf).2⟩
    · rw [if_neg c] at hf
      rcases List.mem_cons.1 hf with rfl | hf
      · exact ⟨List.mem_cons_self, by omega⟩
      · exact ⟨List.mem_cons_of_mem _ (ih f hf).1, (ih f hf).2⟩
theorem upto_rises {l : List (Int × Int)} {a D : Int} (h : Rises a l) : Rises a (upto D l) := by
  induction l generalizing a with
  | nil => trivial
  | cons f r ih =>
    unfold upto
    by_cases c : f.1 ≤ D
    · rw [if_pos c]; exact ⟨h.1, ih h.2⟩
    · rw [if_neg c]; exact (ih h.2).mono (by have := h.1; omega)
theorem behind_rises {l : List (Int × Int)} {a D : Int} (h : Rises a l) : Rises a (behind D l) := by
  induction l generalizing a with
  | nil => trivial
  | cons f r ih =>
    unfold behind
    by_cases c : f.1 ≤ D
    · rw [if_pos c]; exact (ih h.2).mono (by have := h.1; omega)
    · rw [if_neg c]; exact ⟨h.1, ih h.2⟩
theorem parts_on {l : List (Int × Int)} {a D : Int} (h : Rises a l) (d : Int) : on (upto D l) d + on (behind D l) d = on l d := by
  induction l generalizing a with
  | nil => rfl
  | cons f r ih =>
    have e := ih h.2
    by_cases c : f.1 ≤ D
    · have e1 : upto D (f :: r) = f :: upto D r := if_pos c
      have e2 : behind D (f :: r) = behind D r := if_pos c
      rw [e1, e2]
      show (if f.1 = d then _ else _) + _ = if f.1 = d then _ else _
      by_cases q : f.1 = d
      · rw [if_pos q, if_pos q, on_low (behind_rises h.2) (by omega)]; omega
      · rw [if_neg q, if_neg q, e]
    · have e1 : upto D (f :: r) = upto D r := if_neg c
      have e2 : behind D (f :: r) = f :: behind D r := if_neg c
      rw [e1, e2]
      show _ + (if f.1 = d then _ else _) = if f.1 = d then _ else _
      by_cases q : f.1 = d
      · rw [if_pos q, if_pos q, on_low (upto_rises h.2) (by omega)]; omega
      · rw [if_neg q, if_neg q, e]
/-- Parts together are the whole, without those of 0. -/
theorem parts_both {l : List (Int × Int)} {a D : Int} (h : Rises a l) : both (upto D l) (behind D l) = nz l :=
  rises_only (both_rises (upto_rises h) (behind_rises h)) (nz_rises h) both_nz (fun f hf => (nz_mem f hf).2) (fun d => by
    rw [both_on (upto_rises h) (behind_rises h), parts_on h, nz_on h])
/-- The amounts behind a day, up to another, together. -/
def within (a b : Int) : List (Int × Int) → Int
  | [] => 0
  | f :: r => (if a < f.1 ∧ f.1 ≤ b then f.2 else 0) + within a b r
/-- Amounts by days. -/
def spr (a : Int) (l : List (Int × Int)) : List Int → List Int
  | [] => []
  | d :: r => within a d l :: spr d l r
theorem within_all {l : List (Int × Int)} {a b : Int} (h : Rises a l) (hb : ∀ f ∈ l, f.1 ≤ b) : within a b l = tot l := by
  have key : ∀ (l : List (Int × Int)), (∀ f ∈ l, a < f.1) → (∀ f ∈ l, f.1 ≤ b) → within a b l = tot l := by
    intro l
    induction l with
    | nil => intro _ _; rfl
    | cons f r ih =>
      intro h1 h2
      unfold within tot
      rw [if_pos ⟨h1 f List.mem_cons_self, h2 f List.mem_cons_self⟩, ih (fun g hg => h1 g (List.mem_cons_of_mem _ hg)) (fun g hg => h2 g (List.mem_cons_of_mem _ hg))]
  exact key l h.all hb
theorem mem_len {l : List (Int × Int)} (h : ∀ f ∈ l, may f.2 = true) : -(10000000000000 * (l.length : Int)) ≤ tot l ∧ tot l ≤ 10000000000000 * (l.length : Int) := by
  induction l with
  | nil => simp [tot]
  | cons f r ih =>
    have h1 := may_bd (h f List.mem_cons_self)
    have h2 := ih (fun g hg => h g (List.mem_cons_of_mem _ hg))
    simp only [tot, List.length_cons]
    rw [show ((r.length + 1 : Nat) : Int) = (r.length : Int) + 1 from by omega, Int.mul_add]
    omega
/-- No amount of days merged is over. -/
def noOver (l : List (Int × Int)) : Bool := l.all (fun f => may f.2)
theorem mrg_has (a b : List (Int × Int)) : (∀ g ∈ a, ∃ f ∈ mrg a b, f.1 = g.1) ∧ ∀ g ∈ b, ∃ f ∈ mrg a b, f.1 = g.1 := by
  refine mrg_ind (P := fun a b => (∀ g ∈ a, ∃ f ∈ mrg a b, f.1 = g.1) ∧ ∀ g ∈ b, ∃ f ∈ mrg a b, f.1 = g.1) (fun b => ⟨fun g hg => (by cases hg), fun g hg => ⟨g, hg, rfl⟩⟩) (fun a => ⟨fun g hg => ⟨g, by rw [mrg_nil]; exact hg, rfl⟩, fun g hg => (by cases hg)⟩) ?_ ?_ ?_ a b
  · intro x y a b h ih
    rw [mrg_lt h]
    refine ⟨fun g hg => ?_, fun g hg => ?_⟩
    · rcases List.mem_cons.1 hg with rfl | hg
      · exact ⟨_, List.mem_cons_self, rfl⟩
      · obtain ⟨f, h1, h2⟩ := ih.1 g hg
        exact ⟨f, List.mem_cons_of_mem _ h1, h2⟩
    · obtain ⟨f, h1, h2⟩ := ih.2 g hg
      exact ⟨f, List.mem_cons_of_mem _ h1, h2⟩
  · intro x y a b h ih
    rw [mrg_gt h]
    refine ⟨fun g hg => ?_, fun g hg => ?_⟩
    · obtain ⟨f, h1, h2⟩ := ih.1 g hg
      exact ⟨f, List.mem_cons_of_mem _ h1, h2⟩
    · rcases List.mem_cons.1 hg with rfl | hg
      · exact ⟨_, List.mem_cons_self, rfl⟩
      · obtain ⟨f, h1, h2⟩ := ih.2 g hg
        exact ⟨f, List.mem_cons_of_mem _ h1, h2⟩
  · intro x y a b h ih
    rw [mrg_eq h]
    refine ⟨fun g hg => ?_, fun g hg => ?_⟩
    · rcases List.mem_cons.1 hg with rfl | hg
      · exact ⟨_, List.mem_cons_self, rfl⟩
      · obtain ⟨f, h1, h2⟩ := ih.1 g hg
        exact ⟨f, List.mem_cons_of_mem _ h1, h2⟩
    · rcases List.mem_cons.1 hg with rfl | hg
      · exact ⟨_, List.mem_cons_self, h⟩
      · obtain ⟨f, h1, h2⟩ := ih.2 g hg
        exact ⟨f, List.mem_cons_of_mem _ h1, h2⟩
/-- The next flow of a row that rises, behind a day. -/
theorem step_next {S t : List (Int × Int)} {h : Int × Int} {a D : Int} (hS : Rises a S) (hb : behind D S = h :: t) : upto h.1 S = upto D S ++ [h] ∧ behind h.1 S = t ∧ D < h.1 ∧ on S h.1 = h.2 ∧ h ∈ S := by
  induction S generalizing a with
  | nil => cases hb
  | cons f r ih =>
    by_cases c : f.1 ≤ D
    · have e2 : behind D (f :: r) = behind D r := if_pos c
      rw [e2] at hb
      obtain ⟨i1, i2, i3, i4, i5⟩ := ih hS.2 hb
      have e1 : upto D (f :: r) = f :: upto D r := if_pos c
      have e3 : upto h.1 (f :: r) = f :: upto h.1 r := if_pos (by omega)
      have e4 : behind h.1 (f :: r) = behind h.1 r := if_pos (by omega)
      have e5 : on (f :: r) h.1 = on r h.1 := if_neg (by omega)
      rw [e1, e3, e4, e5, i1, i2, i4]
      exact ⟨rfl, rfl, i3, rfl, List.mem_cons_of_mem _ i5⟩
    · obtain ⟨j1, j2⟩ := upto_none hS.2 (show D ≤ f.1 by omega)
      have e2 : behind D (f :: r) = f :: behind D r := if_neg c
      rw [e2, j2] at hb
      simp only [List.cons.injEq] at hb
      obtain ⟨rfl, rfl⟩ := hb
      obtain ⟨k1, k2⟩ := upto_none hS.2 (Int.le_refl f.1)
      have e1 : upto D (f :: r) = upto D r := if_neg c
      have e3 : upto f.1 (f :: r) = f :: upto f.1 r := if_pos (Int.le_refl _)
      have e4 : behind f.1 (f :: r) = behind f.1 r := if_pos (Int.le_refl _)
      have e5 : on (f :: r) f.1 = f.2 := if_pos rfl
      rw [e1, e3, e4, e5, j1, k1, k2]
      exact ⟨rfl, rfl, by omega, rfl, List.mem_cons_self⟩
theorem behind_nil {S : List (Int × Int)} {D : Int} (h : behind D S = []) : upto D S = S ∧ ∀ f ∈ S, f.1 ≤ D := by
  induction S with
  | nil => exact ⟨rfl, fun f hf => by cases hf⟩
  | cons f r ih =>
    by_cases c : f.1 ≤ D
    · have e2 : behind D (f :: r) = behind D r := if_pos c
      rw [e2] at h
      have e1 : upto D (f :: r) = f :: upto D r := if_pos c
      rw [e1, (ih h).1]
      exact ⟨rfl, fun g hg => by
        rcases List.mem_cons.1 hg with rfl | hg
        · exact c
        · exact (ih h).2 g hg⟩
    · have e2 : behind D (f :: r) = f :: behind D r := if_neg c
      rw [e2] at h
      cases h
/-- The least day behind a day, 0 if there is none. -/
def IsNext (D : Int) (l : List (Int × Int)) (c : Int) : Prop := (c = 0 ∧ ∀ f ∈ l, ¬ D < f.1) ∨ (D < c ∧ (∃ f ∈ l, f.1 = c) ∧ ∀ f ∈ l, D < f.1 → c ≤ f.1)
theorem isNext_nil (D : Int) : IsNext D [] 0 := Or.inl ⟨rfl, fun f hf => by cases hf⟩
theorem isNext_take {D : Int} {l : List (Int × Int)} {c : Int} {f : Int × Int} (hD : 0 ≤ D) (h : IsNext D l c) (h1 : D < f.1) (h2 : c = 0 ∨ f.1 < c) : IsNext D (l ++ [f]) f.1 := by
  refine Or.inr ⟨h1, ⟨f, by simp, rfl⟩, fun g hg hd => ?_⟩
  rcases List.mem_append.1 hg with hg | hg
  · rcases h with ⟨_, h⟩ | ⟨h3, _, h⟩
    · exact absurd hd (h g hg)
    · have := h g hg hd
      rcases h2 with h2 | h2
      · omega
      · omega
  · simp at hg; subst hg; exact Int.le_refl _
theorem isNext_pass {D : Int} {l : List (Int × Int)} {c : Int} {f : Int × Int} (h : IsNext D l c) (h1 : ¬ D < f.1 ∨ (c ≠ 0 ∧ ¬ f.1 < c)) : IsNext D (l ++ [f]) c := by
  rcases h with ⟨e, h⟩ | ⟨h3, ⟨g, g1, g2⟩, h⟩
  · refine Or.inl ⟨e, fun g hg => ?_⟩
    rcases List.mem_append.1 hg with hg | hg
    · exact h g hg
    · simp at hg; subst hg
      rcases h1 with h1 | h1
      · exact h1
      · exact absurd e h1.1
  · refine Or.inr ⟨h3, ⟨g, List.mem_append_left _ g1, g2⟩, fun q hq hd => ?_⟩
    rcases List.mem_append.1 hq with hq | hq
    · exact h q hq hd
    · simp at hq; subst hq
      rcases h1 with h1 | h1
      · exact absurd hd h1
      · omega
/-- The next day of both rows is the next one of them merged. -/
theorem isNext_mrg {a b : List (Int × Int)} {D c : Int} (ha : Rises 0 a) (hb : Rises 0 b) (hD : 0 ≤ D) (h : IsNext D (a ++ b) c) :
    (c = 0 ∧ behind D (mrg a b) = []) ∨ ∃ f t, behind D (mrg a b) = f :: t ∧ f.1 = c ∧ c ≠ 0 ∧ f.2 = on a c + on b c := by
  have hS := mrg_rises a b 0 ha hb
  cases hbe : behind D (mrg a b) with
  | nil =>
    refine Or.inl ⟨?_, rfl⟩
    rcases h with ⟨e, _⟩ | ⟨h1, ⟨f, f1, f2⟩, _⟩
    · exact e
    · exfalso
      have := (behind_nil hbe).2
      rcases List.mem_append.1 f1 with q | q
      · obtain ⟨g, g1, g2⟩ := (mrg_has a b).1 f q
        have := this g g1; omega
      · obtain ⟨g, g1, g2⟩ := (mrg_has a b).2 f q
        have := this g g1; omega
  | cons f t =>
    obtain ⟨_, _, h3, h4, h5⟩ := step_next hS hbe
    have hc : f.1 = c := by
      have hf := mrg_days a b f h5
      rcases h with ⟨_, h⟩ | ⟨h1, ⟨g, g1, g2⟩, h⟩
      · exfalso
        rcases hf with ⟨g, g1, g2⟩ | ⟨g, g1, g2⟩
        · exact h g (List.mem_append_left _ g1) (by omega)
        · exact h g (List.mem_append_right _ g1) (by omega)
      · have le1 : c ≤ f.1 := by
          rcases hf with ⟨q, q1, q2⟩ | ⟨q, q1, q2⟩
          · have := h q (List.mem_append_left _ q1) (by omega); omega
          · have := h q (List.mem_append_right _ q1) (by omega); omega
        have hg : ∃ x ∈ mrg a b, x.1 = c := by
          rcases List.mem_append.1 g1 with q | q
          · obtain ⟨x, x1, x2⟩ := (mrg_has a b).1 g q
            exact ⟨x, x1, by omega⟩
          · obtain ⟨x, x1, x2⟩ := (mrg_has a b).2 g q
            exact ⟨x, x1, by omega⟩
        obtain ⟨x, x1, x2⟩ := hg
        have hx : x ∈ behind D (mrg a b) := by
          rw [← parts_whole (D := D) hS] at x1
          rcases List.mem_append.1 x1 with q | q
          · have := (upto_mem x q).2; omega
          · exact q
        rw [hbe] at hx
        have hr : Rises D (f :: t) := by
          rw [← hbe]
          have := behind_rises (D := D) hS
          rw [hbe] at this ⊢
          exact ⟨h3, this.2⟩
        rcases List.mem_cons.1 hx with e | hx
        · rw [← e]; exact x2
        · have := hr.2.all x hx
          omega
    refine Or.inr ⟨f, t, rfl, hc, by omega, ?_⟩
    rw [← h4, mrg_on a b 0 ha hb, hc]
end Go.Proofs.Ytkjbkppjebljpaa
