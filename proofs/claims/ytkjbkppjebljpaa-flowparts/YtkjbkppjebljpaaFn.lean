/- The program's small functions of a flow, and where the first flow of a kind lies. -/
import Derived.Test.YtkjbkppjebljpaaChk
import Derived.Laws.EntriesVeiled
namespace Go.Proofs.Ytkjbkppjebljpaa
open Go.RowKit
set_option linter.unusedSimpArgs false
theorem dayOf_any (d a : Int) (w : World) : Calls Try.prog 26 #[.agg #[.int .i64 d, .int .i64 a]] w fun e w' => e = .returned (.int .i64 d) ∧ Below w.heap.size w w' := by
  go_enter Try.func26, Try.ntmps26
  go_wp2_with fail
  go_ret
  exact ⟨rfl, (Below.refl _ _).alloc (Nat.le_refl _) _⟩
theorem isZero_any (d a : Int) (w : World) : Calls Try.prog 28 #[.agg #[.int .i64 d, .int .i64 a]] w fun e w' => e = .returned (.bool (a == 0)) ∧ Below w.heap.size w w' := by
  go_enter Try.func28, Try.ntmps28
  go_wp2_with fail
  go_ret
  exact ⟨rfl, (Below.refl _ _).alloc (Nat.le_refl _) _⟩
theorem isOver_any (d a : Int) (w : World) : Calls Try.prog 30 #[.agg #[.int .i64 d, .int .i64 a]] w fun e w' => e = .returned (.bool (!may a)) ∧ Below w.heap.size w w' := by
  obtain ⟨b, hb⟩ : ∃ b, b = may a := ⟨_, rfl⟩
  rw [← hb]
  have H := hide hb.symm
  clear hb
  go_enter Try.func30, Try.ntmps30
  go_wp2_with fail
  refine (may_of (unhide H) _).mono ?_
  rintro e w' ⟨rfl, rfl⟩
  go_wp2_with fail
  go_ret
  exact ⟨rfl, (Below.refl _ _).alloc (Nat.le_refl _) _⟩
theorem build39 (a b : Int) (w : World) : Sem.run Try.prog (Instr.build 39 #[(0, .int .i64 a), (1, .int .i64 b)]) w = .ok (.agg #[.int .i64 a, .int .i64 b]) w := by kernel_rfl
theorem build40 (a b : Int) (w : World) : Sem.run Try.prog (Instr.build 40 #[(0, .int .i64 a), (1, .int .i64 b)]) w = .ok (.agg #[.int .i64 a, .int .i64 b]) w := by kernel_rfl
def R2 (w : World) (b : Nat) (x y : Int) : Prop := w.heap[b]? = some (.cells #[.int .i64 x, .int .i64 y] 39 (0, 0))
theorem R2.c0 {w : World} {b : Nat} {x y : Int} (h : R2 w b x y) : w.cell? ⟨b, 0, none⟩ = some (.int .i64 x) := by rw [cell_of_row w b 0 _ _ _ h]; rfl
theorem R2.c1 {w : World} {b : Nat} {x y : Int} (h : R2 w b x y) : w.cell? ⟨b, 1, none⟩ = some (.int .i64 y) := by rw [cell_of_row w b 1 _ _ _ h]; rfl
theorem R2.lt {w : World} {b : Nat} {x y : Int} (h : R2 w b x y) : b < w.heap.size := (Array.getElem?_eq_some_iff.1 h).1
theorem R2.keep {w w' : World} {b : Nat} {x y : Int} (h : R2 w b x y) (hb : Below w.heap.size w w') : R2 w' b x y := (hb.block b h.lt).trans h
theorem R2.new (w : World) (x y : Int) : R2 (w.alloc (.cells #[.int .i64 x, .int .i64 y] 39)) w.heap.size x y := heap_alloc_new w _
theorem results2 {fn : Func} {p : Tmp} (h : fn.results = #[.cell p 39]) (tmps : Array Value) {w : World} {b : Nat} {x y : Int} (hp : tmps.getD p undef = .pointer (some ⟨b, 0, none⟩)) (hr : R2 w b x y) :
    (results fn tmps).run Try.prog w = .ok (.agg #[.int .i64 x, .int .i64 y]) w := by
  have e1 : tmps[p]?.getD undef = .pointer (some ⟨b, 0, none⟩) := by simpa using hp
  have c0 := hr.c0
  have c1 := hr.c1
  simp [results, h, e1, go_sem, c0, c1]
theorem together_any (d a d' a' : Int) (h : wrap64 (a + a') = a + a') (w : World) : Calls Try.prog 27 #[.agg #[.int .i64 d, .int .i64 a], .agg #[.int .i64 d', .int .i64 a']] w fun e w' => e = .returned (.agg #[.int .i64 d, .int .i64 (a + a')]) ∧ Below w.heap.size w w' := by
  have HR := hide (R2.new ((w.alloc (.cells #[.int .i64 d, .int .i64 a] 39)).alloc (.cells #[.int .i64 d', .int .i64 a'] 39)) d (a + a'))
  have HB := hide ((((Below.refl w.heap.size w).alloc (Nat.le_refl _) (.cells #[.int .i64 d, .int .i64 a] 39)).alloc (by simp) (.cells #[.int .i64 d', .int .i64 a'] 39)).alloc (by simp; omega) (.cells #[.int .i64 d, .int .i64 (a + a')] 39))
  go_enter Try.func27, Try.ntmps27
  go_wp2_with (simp only [build39])
  exact bodyPost_ret (results2 rfl _ (by simp [Act.eval, Act.put]) (unhide HR)) rfl ⟨rfl, unhide HB⟩
/-- Where the first flow of a kind lies, -1 if there is none. -/
def PlaceF (p : Int × Int → Bool) (l : List (Int × Int)) (r : Int) : Prop :=
  (r = -1 ∧ ∀ j, j < l.length → p (getF l j) = false) ∨ ∃ k : Nat, r = k ∧ k < l.length ∧ p (getF l k) = true ∧ ∀ j, j < k → p (getF l j) = false
def zeroF (f : Int × Int) : Bool := f.2 == 0
def overF (f : Int × Int) : Bool := !may f.2
set_option maxHeartbeats 1000000 in
theorem idx28_row (b off cap : Nat) (l : List (Int × Int)) (w : World) (hm : l.length ≤ 10000) (hc : CellsF w b off l) :
    Calls Try.prog 37 #[.slice (some ⟨b, off, none⟩) l.length cap, .func (.func 28) #[] #[]] w fun e w' => ∃ r, e = .returned (.int .i64 r) ∧ PlaceF zeroF l r ∧ Below w.heap.size w w' := by
  have HC := hide hc
  have HB := hide (Below.refl w.heap.size w)
  clear hc
  generalize hl : l.length = len at *
  go_enter Try.func37, Try.ntmps37
  go_wp2_with fail
  go_loopw [8] (fun i wr => ∃ k : Nat, k ≤ len ∧ i = .int .i64 k ∧ Hid (∀ j, j < k → zeroF (getF l j) = false) ∧ Hid (Below w.heap.size w wr)) (fun i _ => len - (intOf i).toNat)
  case atStart => exact ⟨0, by omega, rfl, hide (fun j hj => absurd hj (Nat.not_lt_zero j)), HB⟩
  case round =>
    clear HB
    obtain ⟨k, hk, rfl, HK, HB⟩ := hrel
    by_cases hlt : k < len
    · obtain ⟨c0, c1⟩ := (unhide HC).keep (unhide HB) k (by rw [hl]; exact hlt)
      have HF : Hid (∀ b, zeroF (getF l k) = b → ((b = true → PlaceF zeroF l k) ∧ (b = false → ∀ j, j < k + 1 → zeroF (getF l j) = false))) := hide (fun b hb => ⟨fun h => Or.inr ⟨k, rfl, by omega, by rw [hb, h], unhide HK⟩, fun h j hj => by
        by_cases e : j = k
        · rw [e, hb, h]
        · exact unhide HK j (by omega)⟩)
      generalize getF l k = f at *
      obtain ⟨d, a⟩ := f
      replace c0 : wr.cell? ⟨b, off + k * 2, none⟩ = some (.int .i64 d) := c0
      replace c1 : wr.cell? ⟨b, off + k * 2 + 1, none⟩ = some (.int .i64 a) := c1
      obtain ⟨y, hy⟩ : ∃ y, y = zeroF (d, a) := ⟨_, rfl⟩
      replace HF := hide (unhide HF y hy.symm)
      have HY : Hid (∀ w : World, Calls Try.prog 28 #[.agg #[.int .i64 d, .int .i64 a]] w fun e w' => e = .returned (.bool y) ∧ Below w.heap.size w w') := hide (fun w => by rw [hy]; exact isZero_any d a w)
      clear hy
      cases y with
      | true =>
        replace HF := hide ((unhide HF).1 rfl)
        go_wp2_with fail
        refine (unhide HY _).mono ?_
        rintro e w2 ⟨rfl, hb⟩
        replace HB := hide (below_via (unhide HB) hb)
        clear hb HY
        go_wp2_with fail
        go_ret
        exact ⟨_, rfl, unhide HF, unhide HB⟩
      | false =>
        replace HF := hide ((unhide HF).2 rfl)
        go_wp2_with fail
        refine (unhide HY _).mono ?_
        rintro e w2 ⟨rfl, hb⟩
        replace HB := hide (below_via (unhide HB) hb)
        clear hb HY
        go_wp2_with fail
        go_roundw
        case rel => exact ⟨k + 1, by omega, by go_num, HF, HB⟩
        case measure => simp [intOf]; omega
    · obtain rfl : k = len := by omega
      go_wp2_with fail
      go_ret
      exact ⟨_, rfl, Or.inl ⟨rfl, by rw [hl]; exact unhide HK⟩, unhide HB⟩
theorem idx28_empty (x : Option Addr) (cap : Nat) (w : World) : Calls Try.prog 37 #[.slice x 0 cap, .func (.func 28) #[] #[]] w fun e w' => e = .returned (.int .i64 (-1)) ∧ w = w' := by
  go_enter Try.func37, Try.ntmps37
  go_wp2_with fail
  refine wp_loop_rounds 1 ?_
  rw [rounds_succ]
  go_wp2_with fail
  go_ret
  exact ⟨rfl, rfl⟩
theorem idx28_any (v : Value) (l : List (Int × Int)) (w : World) (h : RowF w v l) (hm : l.length ≤ 10000) : Calls Try.prog 37 #[v, .func (.func 28) #[] #[]] w fun e w' => ∃ r, e = .returned (.int .i64 r) ∧ PlaceF zeroF l r ∧ Below w.heap.size w w' := by
  rcases h with ⟨a, cap, rfl, rfl, _⟩ | ⟨b, off, cap, rfl, h0, _, _, hc, hin⟩
  · refine (idx28_empty a cap w).mono ?_
    rintro e w' ⟨rfl, rfl⟩
    exact ⟨_, rfl, Or.inl ⟨rfl, fun j hj => (by simp at hj)⟩, Below.refl _ _⟩
  · exact idx28_row b off cap l w hm hc
set_option maxHeartbeats 1000000 in
theorem idx30_row (b off cap : Nat) (l : List (Int × Int)) (w : World) (hm : l.length ≤ 10000) (hc : CellsF w b off l) :
    Calls Try.prog 37 #[.slice (some ⟨b, off, none⟩) l.length cap, .func (.func 30) #[] #[]] w fun e w' => ∃ r, e = .returned (.int .i64 r) ∧ PlaceF overF l r ∧ Below w.heap.size w w' := by
  have HC := hide hc
  have HB := hide (Below.refl w.heap.size w)
  clear hc
  generalize hl : l.length = len at *
  go_enter Try.func37, Try.ntmps37
  go_wp2_with fail
  go_loopw [8] (fun i wr => ∃ k : Nat, k ≤ len ∧ i = .int .i64 k ∧ Hid (∀ j, j < k → overF (getF l j) = false) ∧ Hid (Below w.heap.size w wr)) (fun i _ => len - (intOf i).toNat)
  case atStart => exact ⟨0, by omega, rfl, hide (fun j hj => absurd hj (Nat.not_lt_zero j)), HB⟩
  case round =>
    clear HB
    obtain ⟨k, hk, rfl, HK, HB⟩ := hrel
    by_cases hlt : k < len
    · obtain ⟨c0, c1⟩ := (unhide HC).keep (unhide HB) k (by rw [hl]; exact hlt)
      have HF : Hid (∀ b, overF (getF l k) = b → ((b = true → PlaceF overF l k) ∧ (b = false → ∀ j, j < k + 1 → overF (getF l j) = false))) := hide (fun b hb => ⟨fun h => Or.inr ⟨k, rfl, by omega, by rw [hb, h], unhide HK⟩, fun h j hj => by
        by_cases e : j = k
        · rw [e, hb, h]
        · exact unhide HK j (by omega)⟩)
      generalize getF l k = f at *
      obtain ⟨d, a⟩ := f
      replace c0 : wr.cell? ⟨b, off + k * 2, none⟩ = some (.int .i64 d) := c0
      replace c1 : wr.cell? ⟨b, off + k * 2 + 1, none⟩ = some (.int .i64 a) := c1
      obtain ⟨y, hy⟩ : ∃ y, y = overF (d, a) := ⟨_, rfl⟩
      replace HF := hide (unhide HF y hy.symm)
      have HY : Hid (∀ w : World, Calls Try.prog 30 #[.agg #[.int .i64 d, .int .i64 a]] w fun e w' => e = .returned (.bool y) ∧ Below w.heap.size w w') := hide (fun w => by rw [hy]; exact isOver_any d a w)
      clear hy
      cases y with
      | true =>
        replace HF := hide ((unhide HF).1 rfl)
        go_wp2_with fail
        refine (unhide HY _).mono ?_
        rintro e w2 ⟨rfl, hb⟩
        replace HB := hide (below_via (unhide HB) hb)
        clear hb HY
        go_wp2_with fail
        go_ret
        exact ⟨_, rfl, unhide HF, unhide HB⟩
      | false =>
        replace HF := hide ((unhide HF).2 rfl)
        go_wp2_with fail
        refine (unhide HY _).mono ?_
        rintro e w2 ⟨rfl, hb⟩
        replace HB := hide (below_via (unhide HB) hb)
        clear hb HY
        go_wp2_with fail
        go_roundw
        case rel => exact ⟨k + 1, by omega, by go_num, HF, HB⟩
        case measure => simp [intOf]; omega
    · obtain rfl : k = len := by omega
      go_wp2_with fail
      go_ret
      exact ⟨_, rfl, Or.inl ⟨rfl, by rw [hl]; exact unhide HK⟩, unhide HB⟩
theorem idx30_empty (x : Option Addr) (cap : Nat) (w : World) : Calls Try.prog 37 #[.slice x 0 cap, .func (.func 30) #[] #[]] w fun e w' => e = .returned (.int .i64 (-1)) ∧ w = w' := by
  go_enter Try.func37, Try.ntmps37
  go_wp2_with fail
  refine wp_loop_rounds 1 ?_
  rw [rounds_succ]
  go_wp2_with fail
  go_ret
  exact ⟨rfl, rfl⟩
theorem idx30_any (v : Value) (l : List (Int × Int)) (w : World) (h : RowF w v l) (hm : l.length ≤ 10000) : Calls Try.prog 37 #[v, .func (.func 30) #[] #[]] w fun e w' => ∃ r, e = .returned (.int .i64 r) ∧ PlaceF overF l r ∧ Below w.heap.size w w' := by
  rcases h with ⟨a, cap, rfl, rfl, _⟩ | ⟨b, off, cap, rfl, h0, _, _, hc, hin⟩
  · refine (idx30_empty a cap w).mono ?_
    rintro e w' ⟨rfl, rfl⟩
    exact ⟨_, rfl, Or.inl ⟨rfl, fun j hj => (by simp at hj)⟩, Below.refl _ _⟩
  · exact idx30_row b off cap l w hm hc
theorem place_over {l : List (Int × Int)} {r : Int} (h : PlaceF overF l r) : decide (0 ≤ r) = !noOver l := by
  rcases h with ⟨rfl, h⟩ | ⟨k, rfl, hk, h, _⟩
  · have : noOver l = true := by
      unfold noOver
      rw [List.all_eq_true]
      intro f hf
      obtain ⟨j, hj, rfl⟩ := List.getElem_of_mem hf
      have := h j hj
      simpa [overF, getF, List.getD, hj] using this
    rw [this]; rfl
  · have : noOver l = false := by
      cases e : noOver l
      · rfl
      · unfold noOver at e
        rw [List.all_eq_true] at e
        have := e l[k] (List.getElem_mem hk)
        have h2 : overF l[k] = true := by simpa [getF, List.getD, hk] using h
        unfold overF at h2
        rw [this] at h2
        cases h2
    rw [this]
    exact decide_eq_true (by omega)
theorem contains_any (v : Value) (l : List (Int × Int)) (w : World) (h : RowF w v l) (hm : l.length ≤ 10000) : Calls Try.prog 29 #[v, .func (.func 30) #[] #[]] w fun e w' => e = .returned (.bool (!noOver l)) ∧ Below w.heap.size w w' := by
  have H := hide (idx30_any v l w h hm)
  have HO := hide (fun r => place_over (l := l) (r := r))
  generalize (!noOver l) = o at *
  clear h
  go_enter Try.func29, Try.ntmps29
  go_wp2_with fail
  refine (unhide H).mono ?_
  rintro e w' ⟨r, rfl, hp, hb⟩
  have e1 : decide (0 ≤ r) = o := unhide HO r hp
  have HB := hide hb
  clear hb hp H HO
  go_wp2_with fail
  go_ret
  exact ⟨rfl, unhide HB⟩
end Go.Proofs.Ytkjbkppjebljpaa
