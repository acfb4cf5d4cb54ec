/- What the document's Merge answers. -/
import Derived.Test.YtkjbkppjebljpaaConv
import Derived.Test.YtkjbkppjebljpaaFn
namespace Go.Proofs.Ytkjbkppjebljpaa
open Go.RowKit
set_option linter.unusedSimpArgs false
/-- Merge's error. -/
def mE (a b : List (Int × Int)) : Int := if chkE a = 0 then (if chkE b = 0 then (if noOver (both a b) = true then (if (both a b).length ≤ 600 then 0 else 10) else 3) else chkE b) else chkE a
/-- Merge's flows. -/
def mL (a b : List (Int × Int)) : List (Int × Int) := if mE a b = 0 then both a b else []
theorem mE_a {a b : List (Int × Int)} (h : chkE a ≠ 0) : mE a b = chkE a ∧ mL a b = [] := by
  have : mE a b = chkE a := if_neg h
  exact ⟨this, if_neg (by rw [this]; exact h)⟩
theorem mE_b {a b : List (Int × Int)} (h : chkE a = 0) (h2 : chkE b ≠ 0) : mE a b = chkE b ∧ mL a b = [] := by
  have : mE a b = chkE b := by unfold mE; rw [if_pos h, if_neg h2]
  exact ⟨this, if_neg (by rw [this]; exact h2)⟩
theorem mE_over {a b : List (Int × Int)} (h : chkE a = 0) (h2 : chkE b = 0) (h3 : noOver (both a b) = false) : mE a b = 3 ∧ mL a b = [] := by
  have : mE a b = 3 := by unfold mE; rw [if_pos h, if_pos h2, if_neg (by rw [h3]; decide)]
  exact ⟨this, if_neg (by rw [this]; decide)⟩
theorem mE_full {a b : List (Int × Int)} (h : chkE a = 0) (h2 : chkE b = 0) (h3 : noOver (both a b) = true) (h4 : 600 < (both a b).length) : mE a b = 10 ∧ mL a b = [] := by
  have : mE a b = 10 := by unfold mE; rw [if_pos h, if_pos h2, if_pos h3, if_neg (by omega)]
  exact ⟨this, if_neg (by rw [this]; decide)⟩
theorem mE_ok {a b : List (Int × Int)} (h : chkE a = 0) (h2 : chkE b = 0) (h3 : noOver (both a b) = true) (h4 : (both a b).length ≤ 600) : mE a b = 0 ∧ mL a b = both a b := by
  have : mE a b = 0 := by unfold mE; rw [if_pos h, if_pos h2, if_pos h3, if_pos h4]
  exact ⟨this, if_pos this⟩
theorem may_zero : may 0 = true := by decide
theorem noOver_nz (l : List (Int × Int)) : noOver (nz l) = noOver l := by
  induction l with
  | nil => rfl
  | cons f r ih =>
    unfold nz
    by_cases h : f.2 = 0
    · rw [if_pos h, ih]
      show noOver r = (may f.2 && noOver r)
      rw [h, may_zero, Bool.true_and]
    · rw [if_neg h]
      show (may f.2 && noOver (nz r)) = (may f.2 && noOver r)
      rw [ih]
theorem noOver_no {l : List (Int × Int)} {f : Int × Int} (h : f ∈ l) (hf : may f.2 = false) : noOver l = false := by
  cases e : noOver l
  · rfl
  · unfold noOver at e
    rw [List.all_eq_true] at e
    have := e f h
    rw [hf] at this
    cases this
theorem noOver_of {l : List (Int × Int)} (h : ∀ f ∈ l, may f.2 = true) : noOver l = true := by
  unfold noOver
  rw [List.all_eq_true]
  exact h
/-- The reference's way: the days up to D are done. -/
structure RW (w wr : World) (o : Value) (a b : List (Int × Int)) (D : Int) : Prop where
  grow : GrowF 40 w wr o (nz (upto D (mrg a b)))
  pos : 0 ≤ D
  mays : ∀ f ∈ upto D (mrg a b), may f.2 = true
def mleft (a b : List (Int × Int)) (D : Int) : Nat := (behind D (mrg a b)).length
theorem In64.may {x : Int} (h : may x = true) : In64 x := by have := may_bd h; exact ⟨by omega, by omega⟩
structure Two (a b : List (Int × Int)) : Prop where
  ra : Rises 0 a
  rb : Rises 0 b
  ma : ∀ f ∈ a, f.1 ≤ 3652059 ∧ may f.2 = true
  mb : ∀ f ∈ b, f.1 ≤ 3652059 ∧ may f.2 = true
  la : a.length ≤ 600
  lb : b.length ≤ 600
theorem on_bd {l : List (Int × Int)} (h : ∀ f ∈ l, f.1 ≤ 3652059 ∧ may f.2 = true) (d : Int) : may (on l d) = true := by
  induction l with
  | nil => exact may_zero
  | cons f r ih =>
    unfold on
    by_cases c : f.1 = d
    · rw [if_pos c]; exact (h f List.mem_cons_self).2
    · rw [if_neg c]; exact ih (fun g hg => h g (List.mem_cons_of_mem _ hg))
theorem RW.done {w wr : World} {o : Value} {a b : List (Int × Int)} {D : Int} (h : RW w wr o a b D) (hn : behind D (mrg a b) = []) : GrowF 40 w wr o (both a b) ∧ noOver (both a b) = true := by
  obtain ⟨h1, _⟩ := behind_nil hn
  have g := h.grow
  have m := h.mays
  rw [h1] at g m
  exact ⟨g, by unfold both; rw [noOver_nz]; exact noOver_of m⟩
theorem RW.over {a b : List (Int × Int)} {D c : Int} {f : Int × Int} {t : List (Int × Int)} (T : Two a b) (hb : behind D (mrg a b) = f :: t) (e : f.2 = c) (hm : may c = false) : noOver (both a b) = false := by
  unfold both
  rw [noOver_nz]
  exact noOver_no (step_next (mrg_rises a b 0 T.ra T.rb) hb).2.2.2.2 (by rw [e]; exact hm)
theorem RW.next {w wr wr' : World} {o o' : Value} {a b : List (Int × Int)} {D : Int} {f : Int × Int} {t : List (Int × Int)} (T : Two a b) (h : RW w wr o a b D) (hb : behind D (mrg a b) = f :: t) (hm : may f.2 = true) (hg : GrowF 40 w wr' o' (if f.2 = 0 then nz (upto D (mrg a b)) else nz (upto D (mrg a b)) ++ [f])) : RW w wr' o' a b f.1 ∧ mleft a b f.1 < mleft a b D := by
  obtain ⟨e1, e2, e3, _, _⟩ := step_next (mrg_rises a b 0 T.ra T.rb) hb
  refine ⟨⟨?_, by have := h.pos; omega, ?_⟩, ?_⟩
  · rw [e1, nz_append]
    by_cases c : f.2 = 0
    · rw [if_pos c] at hg
      rw [show nz [f] = [] from by simp [nz, c], List.append_nil]
      exact hg
    · rw [if_neg c] at hg
      rw [show nz [f] = [f] from by simp [nz, c]]
      exact hg
  · rw [e1]
    intro g hg'
    rcases List.mem_append.1 hg' with q | q
    · exact h.mays g q
    · simp at q; subst q; exact hm
  · unfold mleft
    rw [e2, hb]
    simp
/-- What Merge answers, of flows that may be. -/
def MRes (a b : List (Int × Int)) (en : Int) (l : List (Int × Int)) : Prop :=
  (noOver (both a b) = false ∧ en = 3 ∧ l = []) ∨ (noOver (both a b) = true ∧ 600 < (both a b).length ∧ en = 10 ∧ l = []) ∨ (noOver (both a b) = true ∧ (both a b).length ≤ 600 ∧ en = 0 ∧ l = both a b)
def ChkOk (f : Nat) (v : Value) (a : List (Int × Int)) : Prop := ∀ w, RowF w v a → Calls Try.prog f #[v] w fun e w' => e = .returned (.int .i64 0) ∧ Below w.heap.size w w'
def MAns (w : World) (a b : List (Int × Int)) (e : Ending) (w' : World) : Prop := ∃ x en l, e = .returned (.tuple #[x, .int .i64 en]) ∧ RowF w' x l ∧ MRes a b en l ∧ Below w.heap.size w w'
theorem idx62_0 (a a' : Option Addr) (n c n' c' : Nat) (w : World) : Sem.run Try.prog (Instr.index 62 (.agg #[.slice a n c, .slice a' n' c']) (.int .i64 0)) w = .ok (.slice a n c) w := by kernel_rfl
theorem idx62_1 (a a' : Option Addr) (n c n' c' : Nat) (w : World) : Sem.run Try.prog (Instr.index 62 (.agg #[.slice a n c, .slice a' n' c']) (.int .i64 1)) w = .ok (.slice a' n' c') w := by kernel_rfl
theorem RW.keep {w wr wr' : World} {o : Value} {a b : List (Int × Int)} {D : Int} (h : RW w wr o a b D) (hb : Below wr.heap.size wr wr') : RW w wr' o a b D := ⟨h.grow.keep hb, h.pos, h.mays⟩
def pre (a b : List (Int × Int)) (J : Nat) : List (Int × Int) := if J = 0 then [] else if J = 1 then a else a ++ b
def rowJ (a b : List (Int × Int)) (J : Nat) : List (Int × Int) := if J = 0 then a else b
theorem pre_next (a b : List (Int × Int)) (J : Nat) (h : J < 2) : pre a b J ++ (rowJ a b J).take (rowJ a b J).length = pre a b (J + 1) := by
  rw [List.take_length]
  have : J = 0 ∨ J = 1 := by omega
  rcases this with rfl | rfl <;> rfl
theorem next_take {D C d x : Int} {P l : List (Int × Int)} {k : Nat} (hk : k < l.length) (hD : 0 ≤ D) (h : IsNext D (P ++ l.take k) C) (e : getF l k = (d, x)) (h1 : D < d) (h2 : C = 0 ∨ d < C) : IsNext D (P ++ l.take (k + 1)) d := by
  rw [← take_getF hk, ← List.append_assoc, e]
  exact isNext_take (f := (d, x)) hD h h1 h2
theorem next_pass {D C d x : Int} {P l : List (Int × Int)} {k : Nat} (hk : k < l.length) (h : IsNext D (P ++ l.take k) C) (e : getF l k = (d, x)) (h1 : ¬ D < d ∨ (C ≠ 0 ∧ ¬ d < C)) : IsNext D (P ++ l.take (k + 1)) C := by
  rw [← take_getF hk, ← List.append_assoc, e]
  exact isNext_pass (f := (d, x)) h h1
theorem mans_no {w w' : World} {a b : List (Int × Int)} {en : Int} (h : MRes a b en []) (hb : Below w.heap.size w w') : MAns w a b (.returned (.tuple #[.slice none 0 0, .int .i64 en])) w' := ⟨_, _, _, rfl, Or.inl ⟨none, 0, rfl, rfl, fun _ => rfl⟩, h, hb⟩
set_option maxRecDepth 20000 in
set_option maxHeartbeats 4000000 in
theorem rmerge_core (v u : Value) (a b : List (Int × Int)) (w : World) (ha : RowF w v a) (hb : RowF w u b) (T : Two a b) (hca : Hid (ChkOk 19 v a)) (hcb : Hid (ChkOk 19 u b)) :
    Calls Try.prog 11 #[v, u] w fun e w' => MAns w a b e w' := by
  obtain ⟨av, ac, ea⟩ := rowF_slice ha
  obtain ⟨bv, bc, eb⟩ := rowF_slice hb
  subst ea eb
  have HA := hide ha
  have HB := hide hb
  have HT := hide T
  have hla := T.la
  have hlb := T.lb
  clear ha hb T
  go_enter Try.func11, Try.ntmps11
  go_wp2_with fail
  refine (unhide hca _ (unhide HA)).mono ?_
  rintro e w1 ⟨rfl, hb1⟩
  replace hb1 := hide hb1
  go_wp2_with fail
  refine (unhide hcb _ ((unhide HB).keep (unhide hb1))).mono ?_
  rintro e w2 ⟨rfl, hb2⟩
  replace hb1 := hide (below_via (unhide hb1) hb2)
  clear hb2
  go_wp2_with fail
  go_loopw [8, 9] (fun o d wr => ∃ D : Int, d = .int .i64 D ∧ Hid (RW w wr o a b D)) (fun _ d _ => mleft a b (intOf d))
  case atStart => exact ⟨0, rfl, hide ⟨by rw [(upto_none (mrg_rises a b 0 (unhide HT).ra (unhide HT).rb) (Int.le_refl 0)).1]; exact GrowF.nil _ _ _ (unhide hb1), Int.le_refl _, by rw [(upto_none (mrg_rises a b 0 (unhide HT).ra (unhide HT).rb) (Int.le_refl 0)).1]; intro f hf; cases hf⟩⟩
  case round =>
    clear hb1
    obtain ⟨D, rfl, HR⟩ := hrel
    go_wp2_with fail
    go_loopw [10, 29] (fun c j wq => ∃ (J : Nat) (C : Int), J ≤ 2 ∧ c = .int .i64 C ∧ j = .int .i64 J ∧ Hid (IsNext D (pre a b J) C) ∧ Hid (RW w wq u8 a b D)) (fun _ j _ => 2 - (intOf j).toNat)
    case atStart => exact ⟨0, 0, by decide, rfl, rfl, hide (isNext_nil D), HR⟩
    case round =>
      clear HR
      obtain ⟨J, C, hJ, rfl, rfl, HN, HR⟩ := hrel
      have hJ3 : J = 0 ∨ J = 1 ∨ J = 2 := by omega
      rcases hJ3 with rfl | rfl | rfl
      · skip
        go_wp2_with (simp only [idx62_0])
        go_loopw [10, 34] (fun c i wq => ∃ (k : Nat) (C : Int), k ≤ a.length ∧ c = .int .i64 C ∧ i = .int .i64 k ∧ Hid (IsNext D (pre a b 0 ++ a.take k) C) ∧ Hid (RW w wq u8 a b D)) (fun _ i _ => a.length - (intOf i).toNat)
        case atStart => exact ⟨0, C, Nat.zero_le _, rfl, rfl, hide (by rw [List.take_zero, List.append_nil]; exact unhide HN), HR⟩
        case round =>
          clear HR HN
          obtain ⟨k, C, hk, rfl, rfl, HN, HR⟩ := hrel
          by_cases hlt : k < a.length
          · rcases unhide HA with ⟨_, _, _, h, _⟩ | ⟨bb, oo, cc, h1, _, h3, h4, h5, h6⟩
            · rw [h] at hlt; cases hlt
            cases h1
            obtain ⟨c0, c1⟩ := (show CellsF w bb oo a from h5).keep (unhide HR).grow.below k hlt
            have HP := hide (unhide HR).pos
            obtain ⟨f', he⟩ : ∃ f', getF a k = f' := ⟨_, rfl⟩
            have HE := hide he
            rw [he] at c0 c1
            clear he h3 h4 h5 h6
            obtain ⟨d, x⟩ := f'
            replace c0 : wr.cell? ⟨bb, oo + k * 2, none⟩ = some (.int .i64 d) := c0
            replace c1 : wr.cell? ⟨bb, oo + k * 2 + 1, none⟩ = some (.int .i64 x) := c1
            have HL := hide hlt
            replace HR := hide ((unhide HR).keep ((Below.refl wr.heap.size wr).alloc (Nat.le_refl _) (.cells #[.int .i64 d, .int .i64 x] 40)))
            by_cases q : D < d
            · have q1 := decide_eq_true q
              by_cases z : C = 0
              · have z1 : (C == 0) = true := by simp [z]
                replace HN := hide (next_take hlt (unhide HP) (unhide HN) (unhide HE) q (Or.inl z))
                subst z
                go_wp2_with fail
                go_roundw
                case rel => exact ⟨k + 1, d, by omega, rfl, by go_num, HN, HR⟩
                case measure => simp [intOf]; omega
              · have z1 : (C == 0) = false := by simp [z]
                by_cases y : d < C
                · have y1 := decide_eq_true y
                  replace HN := hide (next_take hlt (unhide HP) (unhide HN) (unhide HE) q (Or.inr y))
                  go_wp2_with fail
                  go_roundw
                  case rel => exact ⟨k + 1, d, by omega, rfl, by go_num, HN, HR⟩
                  case measure => simp [intOf]; omega
                · have y1 := decide_eq_false y
                  replace HN := hide (next_pass hlt (unhide HN) (unhide HE) (Or.inr ⟨z, y⟩))
                  go_wp2_with fail
                  go_roundw
                  case rel => exact ⟨k + 1, C, by omega, rfl, by go_num, HN, HR⟩
                  case measure => simp [intOf]; omega
            · have q1 := decide_eq_false q
              replace HN := hide (next_pass hlt (unhide HN) (unhide HE) (Or.inl q))
              go_wp2_with fail
              go_roundw
              case rel => exact ⟨k + 1, C, by omega, rfl, by go_num, HN, HR⟩
              case measure => simp [intOf]; omega
          · have HN2 : Hid (IsNext D (pre a b (0 + 1)) C) := hide (by
              have h := pre_next a b 0 (by decide)
              have e : k = a.length := by omega
              rw [← h]
              have := unhide HN
              rw [e] at this
              exact this)
            go_wp2_with fail
            go_roundw
            case rel => exact ⟨0 + 1, C, by decide, rfl, rfl, HN2, HR⟩
            case measure => simp [intOf]
      · skip
        go_wp2_with (simp only [idx62_1])
        go_loopw [10, 34] (fun c i wq => ∃ (k : Nat) (C : Int), k ≤ b.length ∧ c = .int .i64 C ∧ i = .int .i64 k ∧ Hid (IsNext D (pre a b 1 ++ b.take k) C) ∧ Hid (RW w wq u8 a b D)) (fun _ i _ => b.length - (intOf i).toNat)
        case atStart => exact ⟨0, C, Nat.zero_le _, rfl, rfl, hide (by rw [List.take_zero, List.append_nil]; exact unhide HN), HR⟩
        case round =>
          clear HR HN
          obtain ⟨k, C, hk, rfl, rfl, HN, HR⟩ := hrel
          by_cases hlt : k < b.length
          · rcases unhide HB with ⟨_, _, _, h, _⟩ | ⟨bb, oo, cc, h1, _, h3, h4, h5, h6⟩
            · rw [h] at hlt; cases hlt
            cases h1
            obtain ⟨c0, c1⟩ := (show CellsF w bb oo b from h5).keep (unhide HR).grow.below k hlt
            have HP := hide (unhide HR).pos
            obtain ⟨f', he⟩ : ∃ f', getF b k = f' := ⟨_, rfl⟩
            have HE := hide he
            rw [he] at c0 c1
            clear he h3 h4 h5 h6
            obtain ⟨d, x⟩ := f'
            replace c0 : wr.cell? ⟨bb, oo + k * 2, none⟩ = some (.int .i64 d) := c0
            replace c1 : wr.cell? ⟨bb, oo + k * 2 + 1, none⟩ = some (.int .i64 x) := c1
            have HL := hide hlt
            replace HR := hide ((unhide HR).keep ((Below.refl wr.heap.size wr).alloc (Nat.le_refl _) (.cells #[.int .i64 d, .int .i64 x] 40)))
            by_cases q : D < d
            · have q1 := decide_eq_true q
              by_cases z : C = 0
              · have z1 : (C == 0) = true := by simp [z]
                replace HN := hide (next_take hlt (unhide HP) (unhide HN) (unhide HE) q (Or.inl z))
                subst z
                go_wp2_with fail
                go_roundw
                case rel => exact ⟨k + 1, d, by omega, rfl, by go_num, HN, HR⟩
                case measure => simp [intOf]; omega
              · have z1 : (C == 0) = false := by simp [z]
                by_cases y : d < C
                · have y1 := decide_eq_true y
                  replace HN := hide (next_take hlt (unhide HP) (unhide HN) (unhide HE) q (Or.inr y))
                  go_wp2_with fail
                  go_roundw
                  case rel => exact ⟨k + 1, d, by omega, rfl, by go_num, HN, HR⟩
                  case measure => simp [intOf]; omega
                · have y1 := decide_eq_false y
                  replace HN := hide (next_pass hlt (unhide HN) (unhide HE) (Or.inr ⟨z, y⟩))
                  go_wp2_with fail
                  go_roundw
                  case rel => exact ⟨k + 1, C, by omega, rfl, by go_num, HN, HR⟩
                  case measure => simp [intOf]; omega
            · have q1 := decide_eq_false q
              replace HN := hide (next_pass hlt (unhide HN) (unhide HE) (Or.inl q))
              go_wp2_with fail
              go_roundw
              case rel => exact ⟨k + 1, C, by omega, rfl, by go_num, HN, HR⟩
              case measure => simp [intOf]; omega
          · have HN2 : Hid (IsNext D (pre a b (1 + 1)) C) := hide (by
              have h := pre_next a b 1 (by decide)
              have e : k = b.length := by omega
              rw [← h]
              have := unhide HN
              rw [e] at this
              exact this)
            go_wp2_with fail
            go_roundw
            case rel => exact ⟨1 + 1, C, by decide, rfl, rfl, HN2, HR⟩
            case measure => simp [intOf]
      · rcases isNext_mrg (unhide HT).ra (unhide HT).rb (unhide HR).pos (show IsNext D (a ++ b) C from unhide HN) with ⟨rfl, hbe⟩ | ⟨f, t, hbe, hf, hC, hfv⟩
        · obtain ⟨g, hno⟩ := (unhide HR).done hbe
          have HG := hide g
          obtain ⟨x, c, ex⟩ := rowF_slice g.row
          subst ex
          have HNo := hide hno
          clear g hno hbe HR HN HT hca hcb
          by_cases q : 600 < (both a b).length
          · have q1 : decide (600 < ((both a b).length : Int)) = true := decide_eq_true (by omega)
            have HM : Hid (MRes a b 10 []) := hide (Or.inr (Or.inl ⟨unhide HNo, q, rfl, rfl⟩))
            go_wp2_with fail
            go_ret2
            exact mans_no (unhide HM) (unhide HG).below
          · have q1 : decide (600 < ((both a b).length : Int)) = false := decide_eq_false (by omega)
            have HM : Hid (MRes a b 0 (both a b)) := hide (Or.inr (Or.inr ⟨unhide HNo, by omega, rfl, rfl⟩))
            go_wp2_with fail
            go_ret2
            exact ⟨_, _, _, rfl, (unhide HG).row, unhide HM, (unhide HG).below⟩
        · have hC1 : (C == 0) = false := by simp [hC]
          obtain ⟨d, x⟩ := f
          replace hf : d = C := hf
          subst hf
          have HA2 := hide (on_any _ d a wr ((unhide HA).keep (unhide HR).grow.below) (by have := (unhide HT).la; omega))
          have HB2 : Hid (∀ w' : World, Below w.heap.size w w' → Calls Try.prog 31 #[.slice bv b.length bc, .int .i64 d] w' fun e w'' => e = .returned (.int .i64 (on b d)) ∧ Below w'.heap.size w' w'') := hide (fun w' hb => on_any _ d b w' ((unhide HB).keep hb) (by have := (unhide HT).lb; omega))
          have p1 := may_bd (on_bd (unhide HT).ma d)
          have p2 := may_bd (on_bd (unhide HT).mb d)
          have HV : Hid (x = on a d + on b d) := hide hfv
          have HBe := hide hbe
          generalize on a d = p at *
          generalize on b d = q at *
          clear hbe hfv HN
          go_wp2_with fail
          refine (unhide HA2).mono ?_
          rintro e w3 ⟨rfl, hb3⟩
          replace HR := hide ((unhide HR).keep hb3)
          clear HA2 hb3
          go_wp2_with fail
          refine (unhide HB2 _ (unhide HR).grow.below).mono ?_
          rintro e w4 ⟨rfl, hb4⟩
          replace HR := hide ((unhide HR).keep hb4)
          clear HB2 hb4
          cases hy : may (p + q) with
          | false =>
            have HM : Hid (MRes a b 3 []) := hide (Or.inl ⟨RW.over (unhide HT) (unhide HBe) (unhide HV) hy, rfl, rfl⟩)
            have HY := hide hy
            clear hy
            go_wp2_with fail
            refine (rmay_of (unhide HY) _).mono ?_
            rintro e w5 ⟨rfl, rfl⟩
            go_wp2_with fail
            go_ret2
            exact mans_no (unhide HM) (unhide HR).grow.below
          | true =>
            have HY := hide hy
            have HX : Hid (may x = true) := hide (by rw [unhide HV]; exact hy)
            clear hy
            by_cases z : p + q = 0
            · have z1 : (p + q != 0) = false := by simp [z]
              obtain ⟨R1, R2⟩ := RW.next (unhide HT) (unhide HR) (unhide HBe) (unhide HX) (by rw [if_pos (by show x = 0; rw [unhide HV]; exact z)]; exact (unhide HR).grow)
              replace R1 := hide R1
              go_wp2_with fail
              refine (rmay_of may_zero _).mono ?_
              rintro e w5 ⟨rfl, rfl⟩
              go_wp2_with fail
              go_roundw
              case rel => exact ⟨d, rfl, R1⟩
              case measure => exact R2
            · have z1 : (p + q != 0) = true := by simp [z]
              have HG := hide (unhide HR).grow
              have HL : Hid ((nz (upto D (mrg a b))).length ≤ 1000000) := hide (by
                have h1 := nz_len (upto D (mrg a b))
                have h2 := upto_len D (mrg a b)
                have h3 := mrg_len a b
                have := (unhide HT).la
                have := (unhide HT).lb
                omega)
              have HS : Hid (In64 d ∧ In64 (p + q)) := hide ⟨(by
                have h5 := (step_next (mrg_rises a b 0 (unhide HT).ra (unhide HT).rb) (unhide HBe)).2.2.2.2
                rcases mrg_days a b _ h5 with ⟨g, g1, g2⟩ | ⟨g, g1, g2⟩
                · have := ((unhide HT).ma g g1).1
                  have := (unhide HT).ra.all g g1
                  exact ⟨by simp only at g2; omega, by simp only at g2; omega⟩
                · have := ((unhide HT).mb g g1).1
                  have := (unhide HT).rb.all g g1
                  exact ⟨by simp only at g2; omega, by simp only at g2; omega⟩), ⟨by omega, by omega⟩⟩
              have HK : Hid (∀ (o' : Value) (wr' : World), GrowF 40 w wr' o' (nz (upto D (mrg a b)) ++ [(d, p + q)]) → RW w wr' o' a b d ∧ mleft a b d < mleft a b D) := hide (fun o' wr' hg => RW.next (unhide HT) (unhide HR) (unhide HBe) (unhide HX) (by rw [if_neg (by show ¬ x = 0; rw [unhide HV]; exact z), show ((d, x) : Int × Int) = (d, p + q) from by rw [unhide HV]]; exact hg))
              clear HR
              generalize nz (upto D (mrg a b)) = zs at *
              go_wp2_with fail
              refine (rmay_of (unhide HY) _).mono ?_
              rintro e w5 ⟨rfl, rfl⟩
              go_wp2_with (first | simp only [build40] | (at_builtin; refine pushF_law 40 22 Try.underlying22 Try.info40 rfl _ _ rfl w _ _ zs (d, p + q) (unhide HG) rfl (by simp [Act.eval, Act.put]) (unhide HL) (unhide HS) ?_))
              intro v2 W2 hG2
              obtain ⟨R1, R2⟩ := unhide HK v2 W2 hG2
              replace R1 := hide R1
              clear hG2 HK HG
              go_wp2
              go_roundw
              case rel => exact ⟨d, rfl, R1⟩
              case measure => exact R2
theorem two_of {a b : List (Int × Int)} (h : chkE a = 0) (h2 : chkE b = 0) : Two a b := by
  obtain ⟨l1, c1⟩ := chkE_ok h
  obtain ⟨l2, c2⟩ := chkE_ok h2
  obtain ⟨r1, m1⟩ := chk_ok c1
  obtain ⟨r2, m2⟩ := chk_ok c2
  exact ⟨r1, r2, m1, m2, l1, l2⟩
theorem MRes.same {a b : List (Int × Int)} {en : Int} {l : List (Int × Int)} (h1 : chkE a = 0) (h2 : chkE b = 0) (h : MRes a b en l) : en = mE a b ∧ l = mL a b := by
  rcases h with ⟨q, rfl, rfl⟩ | ⟨q, q2, rfl, rfl⟩ | ⟨q, q2, rfl, rfl⟩
  · have := mE_over h1 h2 q; exact ⟨this.1.symm, this.2.symm⟩
  · have := mE_full h1 h2 q q2; exact ⟨this.1.symm, this.2.symm⟩
  · have := mE_ok h1 h2 q q2; exact ⟨this.1.symm, this.2.symm⟩
/-- What Merge answers. -/
def MergeA (f : Nat) (v u : Value) (a b : List (Int × Int)) (w : World) : Prop := Calls Try.prog f #[v, u] w fun e w' => ∃ x, e = .returned (.tuple #[x, .int .i64 (mE a b)]) ∧ RowF w' x (mL a b) ∧ Below w.heap.size w w'
theorem rmerge_a (v u : Value) (c : Int) (w : World) (hc : (c != 0) = true) (hca : Hid (Calls Try.prog 19 #[v] w fun e w' => e = .returned (.int .i64 c) ∧ Below w.heap.size w w')) : Calls Try.prog 11 #[v, u] w fun e w' => e = .returned (.tuple #[.slice none 0 0, .int .i64 c]) ∧ Below w.heap.size w w' := by
  go_enter Try.func11, Try.ntmps11
  go_wp2_with fail
  refine (unhide hca).mono ?_
  rintro e w1 ⟨rfl, hb1⟩
  replace hb1 := hide hb1
  go_wp2_with fail
  go_ret2
  exact ⟨rfl, unhide hb1⟩
theorem rmerge_b (v u : Value) (c : Int) (w : World) (hc : (c != 0) = true) (hca : Hid (Calls Try.prog 19 #[v] w fun e w' => e = .returned (.int .i64 0) ∧ Below w.heap.size w w')) (hcb : Hid (∀ w' : World, Below w.heap.size w w' → Calls Try.prog 19 #[u] w' fun e w'' => e = .returned (.int .i64 c) ∧ Below w'.heap.size w' w'')) : Calls Try.prog 11 #[v, u] w fun e w' => e = .returned (.tuple #[.slice none 0 0, .int .i64 c]) ∧ Below w.heap.size w w' := by
  go_enter Try.func11, Try.ntmps11
  go_wp2_with fail
  refine (unhide hca).mono ?_
  rintro e w1 ⟨rfl, hb1⟩
  have hcb2 := hide (unhide hcb w1 hb1)
  replace hb1 := hide hb1
  clear hcb
  go_wp2_with fail
  refine (unhide hcb2).mono ?_
  rintro e w2 ⟨rfl, hb2⟩
  replace hb1 := hide (below_via (unhide hb1) hb2)
  clear hb2
  go_wp2_with fail
  go_ret2
  exact ⟨rfl, unhide hb1⟩
theorem rowF_nil (w : World) : RowF w (.slice none 0 0) [] := Or.inl ⟨none, 0, rfl, rfl, fun _ => rfl⟩
theorem rmerge_all (v u : Value) (a b : List (Int × Int)) (w : World) (ha : RowF w v a) (hb : RowF w u b) : MergeA 11 v u a b w := by
  by_cases h1 : chkE a = 0
  · by_cases h2 : chkE b = 0
    · refine (rmerge_core v u a b w ha hb (two_of h1 h2) (hide fun w h => by have := rcheck_any v a w h; rwa [h1] at this) (hide fun w h => by have := rcheck_any u b w h; rwa [h2] at this)).mono ?_
      rintro e w' ⟨x, en, l, rfl, hr, hm, hbl⟩
      obtain ⟨rfl, rfl⟩ := hm.same h1 h2
      exact ⟨x, rfl, hr, hbl⟩
    · refine (rmerge_b v u (chkE b) w (by simpa using h2) (hide (by have := rcheck_any v a w ha; rwa [h1] at this)) (hide fun w' hbl => rcheck_any u b w' (hb.keep hbl))).mono ?_
      rintro e w' ⟨rfl, hbl⟩
      rw [(mE_b h1 h2).1, (mE_b h1 h2).2]
      exact ⟨_, rfl, rowF_nil w', hbl⟩
  · refine (rmerge_a v u (chkE a) w (by simpa using h1) (hide (rcheck_any v a w ha))).mono ?_
    rintro e w' ⟨rfl, hbl⟩
    rw [(mE_a h1).1, (mE_a h1).2]
    exact ⟨_, rfl, rowF_nil w', hbl⟩
end Go.Proofs.Ytkjbkppjebljpaa
