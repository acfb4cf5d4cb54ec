/- Changes of allowances, and what they put (plain). -/
import Derived.Test.YtkccladbcehdbaaCl
namespace Go.Proofs.Ytkccladbcehdbaa
open Go.RowKit
set_option linter.unusedVariables false
set_option linter.unusedSimpArgs false
structure Ch where
  fr : Int
  to : Int
  was : Int
  now : Int
  wr : Int
abbrev chL (c : Ch) : List Value := [.int .i64 c.fr, .int .i64 c.to, .int .i64 c.was, .int .i64 c.now, .int .i64 c.wr]
abbrev chA (l : List Ch) (k : Nat) : Ch := l.getD k ⟨0, 0, 0, 0, 0⟩
def inB (n m : Int) : Bool := decide (0 ≤ n) && decide (n ≤ m)
def stB (s : Int) : Bool := decide (1 ≤ s) && decide (s ≤ 3)
/-- May a change be? -/
def okC (c : Ch) : Bool := stB c.fr && stB c.to && inB c.was 562949953421312 && inB c.now 562949953421312 && inB c.wr 562949953421312
structure OkC (c : Ch) : Prop where
  fr : 1 ≤ c.fr ∧ c.fr ≤ 3
  to : 1 ≤ c.to ∧ c.to ≤ 3
  was : 0 ≤ c.was ∧ c.was ≤ 562949953421312
  now : 0 ≤ c.now ∧ c.now ≤ 562949953421312
  wr : 0 ≤ c.wr ∧ c.wr ≤ 562949953421312
theorem okC_iff {c : Ch} : okC c = true ↔ OkC c := by
  simp only [okC, stB, inB, Bool.and_eq_true, decide_eq_true_eq]
  exact ⟨fun ⟨⟨⟨⟨h1, h2⟩, h3⟩, h4⟩, h5⟩ => ⟨h1, h2, h3, h4, h5⟩, fun ⟨h1, h2, h3, h4, h5⟩ => ⟨⟨⟨⟨h1, h2⟩, h3⟩, h4⟩, h5⟩⟩
def addP (f : Int → Int → Int) (s c n : Int) : Int → Int → Int := upd f s c (f s c + n)
/-- What a change puts, and where. -/
def addC (f : Int → Int → Int) (c : Ch) : Int → Int → Int :=
  addP (addP (if c.fr != c.to then addP (addP f c.fr 1 c.was) c.to 0 c.was else f) c.to 2 (c.now - c.was + c.wr)) c.to 3 c.wr
/-- What is put to the column c of the stage s by one change. -/
def putN (c : Ch) (s k : Int) : Int :=
  if k = 0 then (if c.fr ≠ c.to ∧ c.to = s then c.was else 0)
  else if k = 1 then (if c.fr ≠ c.to ∧ c.fr = s then c.was else 0)
  else if k = 2 then (if c.to = s then c.now - c.was + c.wr else 0)
  else if k = 3 then (if c.to = s then c.wr else 0) else 0
theorem addC_put (f : Int → Int → Int) (c : Ch) (s k : Int) : addC f c s k = f s k + putN c s k := by
  unfold addC addP upd putN
  by_cases h : c.fr = c.to
  · have e : (c.fr != c.to) = false := by simp [h]
    simp only [e, Bool.false_eq_true, if_false]
    by_cases h0 : k = 0
    · subst h0; simp [h]
    by_cases h1 : k = 1
    · subst h1; simp [h]
    by_cases h2 : k = 2
    · subst h2
      by_cases hs : s = c.to
      · subst hs; simp
      · have : ¬ c.to = s := fun e => hs e.symm
        simp [hs, this]
    by_cases h3 : k = 3
    · subst h3
      by_cases hs : s = c.to
      · subst hs; simp
      · have : ¬ c.to = s := fun e => hs e.symm
        simp [hs, this]
    simp [h0, h1, h2, h3]
  · have e : (c.fr != c.to) = true := by simp [h]
    simp only [e, if_true]
    by_cases h0 : k = 0
    · subst h0
      by_cases hs : s = c.to
      · subst hs; simp [h]
      · have : ¬ c.to = s := fun e => hs e.symm
        simp [h, hs, this]
    by_cases h1 : k = 1
    · subst h1
      by_cases hs : s = c.fr
      · subst hs; simp [h]
      · have : ¬ c.fr = s := fun e => hs e.symm
        simp [h, hs, this]
    by_cases h2 : k = 2
    · subst h2
      by_cases hs : s = c.to
      · subst hs; simp
      · have : ¬ c.to = s := fun e => hs e.symm
        simp [hs, this]
    by_cases h3 : k = 3
    · subst h3
      by_cases hs : s = c.to
      · subst hs; simp
      · have : ¬ c.to = s := fun e => hs e.symm
        simp [hs, this]
    simp [h0, h1, h2, h3]
theorem putN_bd {c : Ch} (h : OkC c) (s k : Int) : -562949953421312 ≤ putN c s k ∧ putN c s k ≤ 1125899906842624 := by
  obtain ⟨_, _, ⟨a, b⟩, ⟨d, e⟩, ⟨x, y⟩⟩ := h
  unfold putN
  repeat' split
  all_goals omega
/-- All that changes put to the column k of the stage s. -/
def putS : List Ch → Int → Int → Int
  | [], _, _ => 0
  | c :: l, s, k => putN c s k + putS l s k
theorem putS_append (l m : List Ch) (s k : Int) : putS (l ++ m) s k = putS l s k + putS m s k := by
  induction l with
  | nil => simp [putS]
  | cons c r ih => simp only [List.cons_append, putS, ih]; omega
theorem putS_take (l : List Ch) {j : Nat} (h : j < l.length) (s k : Int) : putS (l.take (j + 1)) s k = putS (l.take j) s k + putN (chA l j) s k := by
  rw [← take_getD (d := ⟨0, 0, 0, 0, 0⟩) h, putS_append]
  simp [putS]
def AllOk (l : List Ch) : Prop := ∀ c ∈ l, OkC c
theorem chA_ok {l : List Ch} (h : AllOk l) {k : Nat} (hk : k < l.length) : OkC (chA l k) := by
  have : chA l k = l[k] := by simp [List.getD, hk]
  rw [this]
  exact h _ (List.getElem_mem hk)
theorem putS_bd {l : List Ch} (h : AllOk l) (s k : Int) : -562949953421312 * (l.length : Int) ≤ putS l s k ∧ putS l s k ≤ 1125899906842624 * (l.length : Int) := by
  induction l with
  | nil => simp [putS]
  | cons c r ih =>
    have h1 := putN_bd (h c List.mem_cons_self) s k
    have h2 := ih (fun x hx => h x (List.mem_cons_of_mem _ hx))
    simp only [putS, List.length_cons, Int.natCast_add]
    omega
theorem putS_take_bd {l : List Ch} (h : AllOk l) (hl : l.length ≤ 4096) (j : Nat) (s k : Int) : -2305843009213693952 ≤ putS (l.take j) s k ∧ putS (l.take j) s k ≤ 4611686018427387904 := by
  have := putS_bd (l := l.take j) (fun c hc => h c (List.mem_of_mem_take hc)) s k
  have hj : (l.take j).length ≤ 4096 := by rw [List.length_take]; omega
  omega
theorem addC_S (l : List Ch) {j : Nat} (h : j < l.length) : addC (putS (l.take j)) (chA l j) = putS (l.take (j + 1)) := by
  funext s k
  rw [addC_put, putS_take l h]
theorem RowG.ch {w : World} {b off n cap : Nat} {l : List Ch} (h : RowG 5 w (.slice (some ⟨b, off, none⟩) n cap) (l.map chL)) {k : Nat} (hk : k < l.length) : w.cell? ⟨b, off + k * 5, none⟩ = some (.int .i64 (chA l k).fr) ∧ w.cell? ⟨b, off + k * 5 + 1, none⟩ = some (.int .i64 (chA l k).to) ∧ w.cell? ⟨b, off + k * 5 + 2, none⟩ = some (.int .i64 (chA l k).was) ∧ w.cell? ⟨b, off + k * 5 + 3, none⟩ = some (.int .i64 (chA l k).now) ∧ w.cell? ⟨b, off + k * 5 + 4, none⟩ = some (.int .i64 (chA l k).wr) := by
  have e : ∀ t, getG (l.map chL) k t = (chL (chA l k)).getD t undef := fun t => by simp [getG, List.getD, hk]
  have h0 := h.cells (j := k) (t := 0) (by simpa using hk) (by decide)
  have h1 := h.cells (j := k) (t := 1) (by simpa using hk) (by decide)
  have h2 := h.cells (j := k) (t := 2) (by simpa using hk) (by decide)
  have h3 := h.cells (j := k) (t := 3) (by simpa using hk) (by decide)
  have h4 := h.cells (j := k) (t := 4) (by simpa using hk) (by decide)
  rw [e] at h0 h1 h2 h3 h4
  exact ⟨h0, h1, h2, h3, h4⟩
theorem fit_chs (l : List Ch) : Fit 5 (l.map chL) := fun f hf => by
  obtain ⟨c, _, rfl⟩ := List.mem_map.1 hf
  refine ⟨rfl, fun x hx => ?_⟩
  simp at hx
  rcases hx with rfl | rfl | rfl | rfl | rfl <;> rfl
theorem wrap_in' {n : Int} (h : In64 n) : IntKind.i64.wrap n = n := by
  obtain ⟨a, b⟩ := h
  rw [IntKind.wrap_i64]
  omega
end Go.Proofs.Ytkccladbcehdbaa
