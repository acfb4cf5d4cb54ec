/- Plain facts for BlockLasts. -/
import Derived.Test.YtdbefnghljjieaaTw
import Derived.Test.YtdbefnghljjieaaPl
namespace Go.Proofs.Ytdbefnghljjieaa
open Go.RowKit
set_option linter.unusedVariables false
set_option linter.unusedSimpArgs false
/-- The two stores behind Sync and behind a crash of ones. -/
theorem crash_ones (A : Stt) : crashS (fateN (List.replicate A.W.length 1)) A = crashS (fun _ => 1) A := run_congr A.W 0 _ (fun j hj => by
  rw [Nat.zero_add, fateN, List.getD, List.getElem?_replicate, if_pos hj]
  rfl)
def ints (l : List Int) : List Value := l.map (Value.int .i64)
def bools (l : List Bool) : List Value := l.map Value.bool
theorem ints_len (l : List Int) : (ints l).length = l.length := List.length_map ..
theorem bools_len (l : List Bool) : (bools l).length = l.length := List.length_map ..
theorem ints_set (l : List Int) (k : Nat) (x : Int) : (ints l).toArray.setIfInBounds k (.int .i64 x) = (ints (l.set k x)).toArray := by rw [List.setIfInBounds_toArray, ints, ints, List.map_set]
theorem bools_set (l : List Bool) (k : Nat) (x : Bool) : (bools l).toArray.setIfInBounds k (.bool x) = (bools (l.set k x)).toArray := by rw [List.setIfInBounds_toArray, bools, bools, List.map_set]
theorem ints_at {w : World} {b : Nat} {l : List Int} {T : TypeId} (h : Blk w b (ints l).toArray T) {k : Nat} {x : Int} (hk : l[k]? = some x) : w.cell? ⟨b, k, none⟩ = some (.int .i64 x) := h.at k _ (by simp [ints, hk])
theorem bools_at {w : World} {b : Nat} {l : List Bool} {T : TypeId} (h : Blk w b (bools l).toArray T) {k : Nat} {x : Bool} (hk : l[k]? = some x) : w.cell? ⟨b, k, none⟩ = some (.bool x) := h.at k _ (by simp [bools, hk])
theorem al54 (w : World) : (Instr.alloc 54 true (.tuple #[])).run Try.prog w = .ok (.pointer (some ⟨w.heap.size, 0, none⟩)) (w.alloc (.cells (ints (List.replicate 30 0)).toArray 54)) := by kernel_rfl
theorem al55 (w : World) : (Instr.alloc 55 true (.tuple #[])).run Try.prog w = .ok (.pointer (some ⟨w.heap.size, 0, none⟩)) (w.alloc (.cells (bools (List.replicate 30 false)).toArray 55)) := by kernel_rfl
theorem size26 : (Try.prog.info? 26).map (·.size) = some 1 := by kernel_rfl
def mixI (new old : List Int) (j : Nat) : List Int := new.take j ++ old.drop j
theorem mixI_len {new old : List Int} (h1 : new.length = 30) (h2 : old.length = 30) {j : Nat} (h : j ≤ 30) : (mixI new old j).length = 30 := by simp [mixI]; omega
theorem mixI_next {new old : List Int} (h1 : new.length = 30) (h2 : old.length = 30) {j : Nat} {x : Int} (h : new[j]? = some x) : (mixI new old j).set j x = mixI new old (j + 1) := by
  have hj : j < new.length := (List.getElem?_eq_some_iff.1 h).1
  have hj2 : j < old.length := by omega
  unfold mixI
  rw [List.set_append_right _ _ (by simp; omega), List.take_add_one, h]
  have e : j - (List.take j new).length = 0 := by rw [List.length_take]; omega
  rw [e, List.drop_eq_getElem_cons hj2]
  simp only [Option.toList_some, List.append_assoc, List.cons_append, List.nil_append, List.set_cons_zero]
theorem mixI_all {new old : List Int} (h1 : new.length = 30) (h2 : old.length = 30) : mixI new old 30 = new := by
  unfold mixI
  rw [List.take_of_length_le (by omega), List.drop_of_length_le (by omega), List.append_nil]
def mix (new old : List (List Nat)) (j : Nat) : List (List Nat) := new.take j ++ old.drop j
theorem mix_ok {new old : List (List Nat)} (h1 : L64 new) (h2 : L64 old) {j : Nat} (h : j ≤ 30) : L64 (mix new old j) := ⟨by have e1 := h1.1; have e2 := h2.1; simp [mix]; omega, fun x hx => by
  rcases List.mem_append.1 hx with hx | hx
  · exact h1.2 x (List.mem_of_mem_take hx)
  · exact h2.2 x (List.mem_of_mem_drop hx)⟩
theorem mix_next {new old : List (List Nat)} (h1 : L64 new) (h2 : L64 old) {j : Nat} {x : List Nat} (h : new[j]? = some x) : (mix new old j).set j x = mix new old (j + 1) := by
  have hj : j < new.length := (List.getElem?_eq_some_iff.1 h).1
  have hj2 : j < old.length := by rw [h2.1, ← h1.1]; exact hj
  unfold mix
  rw [List.set_append_right _ _ (by simp; omega), List.take_add_one, h]
  have e : j - (List.take j new).length = 0 := by rw [List.length_take]; omega
  rw [e, List.drop_eq_getElem_cons hj2]
  simp only [Option.toList_some, List.append_assoc, List.cons_append, List.nil_append, List.set_cons_zero]
theorem mix_all {new old : List (List Nat)} (h1 : L64 new) (h2 : L64 old) : mix new old 30 = new := by
  unfold mix
  rw [List.take_of_length_le (by rw [h1.1]; exact Nat.le_refl _), List.drop_of_length_le (by rw [h2.1]; exact Nat.le_refl _), List.append_nil]
theorem bks_range {w : World} {b : Nat} {l : List (List Nat)} {T : TypeId} (h : Blk w b (bks l).toArray T) (hl : L64 l) {j : Nat} {x : List Nat} (hj : l[j]? = some x) : w.rangeAt b (j * 64) (byv x) :=
  h.part (flat_part (bks_fit hl) (by rw [List.getElem?_map, hj]; rfl))
def rdBs (A : Stt) : List (List Nat) := (List.range 30).map fun a : Nat => rdB A (a : Int)
def rdEs (A : Stt) : List Int := (List.range 30).map fun a : Nat => rdE A (a : Int)
theorem rdBs_at (A : Stt) {a : Nat} (h : a < 30) : (rdBs A)[a]? = some (rdB A (a : Int)) := by simp [rdBs, h]
theorem rdEs_at (A : Stt) {a : Nat} (h : a < 30) : (rdEs A)[a]? = some (rdE A (a : Int)) := by simp [rdEs, h]
theorem rdBs_ok {A : Stt} (h : Good A) : L64 (rdBs A) := ⟨by simp [rdBs], fun x hx => by
  obtain ⟨a, _, rfl⟩ := List.mem_map.1 hx
  exact rdB_len h _⟩
theorem rdEs_len (A : Stt) : (rdEs A).length = 30 := by simp [rdEs]
/-- What isn't written again is as it was. -/
structure KI (A0 A : Stt) (again : List Bool) : Prop where
  n : A.L.length = 30
  m : again.length = 30
  r : ∀ a : Nat, again[a]? = some false → A.L.getD a none = A0.L.getD a none
  w : ∀ q ∈ A.W, again[q.1]? = some true
theorem KI.new {A : Stt} (h : A.L.length = 30) (hw : A.W = []) : KI A A (List.replicate 30 false) := ⟨h, List.length_replicate, fun _ _ => rfl, fun q hq => by rw [hw] at hq; cases hq⟩
theorem KI.run {A0 A : Stt} {again : List Bool} (h : KI A0 A again) (fs : Nat → Nat) : KI A0 (crashS fs A) again := ⟨by rw [crashS_len, h.n], h.m, fun a ha => by
  have hout : ∀ q ∈ A.W, q.1 ≠ a := fun q hq e => by
    have := h.w q hq
    rw [e, ha] at this
    cases this
  have := run_out (fs := fs) A.W 0 ⟨A.L, []⟩ hout
  exact this.trans (h.r a ha), fun q hq => by rw [crashS_W] at hq; cases hq⟩
theorem KI.no {A0 A : Stt} {again : List Bool} (h : KI A0 A again) {o : Opx} (h1 : ¬ (o.k = 1 ∧ doE A o = 0)) : KI A0 (doS A o) again := by
  unfold doS
  by_cases hk : o.k = 1
  · rw [if_pos hk]
    have : wrE A o.at_ ≠ 0 := fun e => h1 ⟨hk, by rw [doE, if_pos hk]; exact e⟩
    rw [wrS, if_neg this]
    exact h
  · rw [if_neg hk]
    split
    · exact h.run _
    · split
      · exact h.run _
      · exact h
theorem KI.yes {A0 A : Stt} {again : List Bool} (h : KI A0 A again) {o : Opx} (h1 : o.k = 1) (h0 : doE A o = 0) : ∃ k : Nat, o.at_ = (k : Int) ∧ k < 30 ∧ KI A0 (doS A o) (again.set k true) := by
  rw [doE, if_pos h1] at h0
  rcases wrE_cases A o.at_ with ⟨_, k, hk, hlt⟩ | h2 | h2
  · rw [hk] at h0
    rw [h.n] at hlt
    refine ⟨k, hk, hlt, ?_⟩
    have e : doS A o = ⟨A.L, A.W ++ [(k, ofB o.B)]⟩ := by rw [doS, if_pos h1, hk, wrS, if_pos h0]; rfl
    rw [e]
    refine ⟨h.n, by rw [List.length_set, h.m], fun a ha => ?_, fun q hq => ?_⟩
    · by_cases hka : k = a
      · subst hka
        rw [List.getElem?_set_self (by rw [h.m]; exact hlt)] at ha
        cases ha
      · rw [List.getElem?_set_ne hka] at ha
        exact h.r a ha
    · rcases List.mem_append.1 hq with hq | hq
      · have := h.w q hq
        by_cases hka : k = q.1
        · rw [← hka, List.getElem?_set_self (by rw [h.m]; exact hlt)]
        · rw [List.getElem?_set_ne hka]; exact this
      · rw [List.mem_singleton.1 hq]
        exact List.getElem?_set_self (by rw [h.m]; exact hlt)
  · rw [h0] at h2; cases h2
  · rw [h0] at h2; cases h2
theorem KI.read {A0 A : Stt} {again : List Bool} (h : KI A0 A again) (hw0 : A0.W = []) (hn : A0.L.length = 30) (a : Nat) (ha : again[a]? = some false) : rdE (crashS (fateN []) A) (a : Int) = rdE A0 (a : Int) ∧ rdB (crashS (fateN []) A) (a : Int) = rdB A0 (a : Int) := by
  have hlt : a < 30 := by have := (List.getElem?_eq_some_iff.1 ha).1; rw [h.m] at this; exact this
  rw [crash0, rdE_in (A := ⟨A.L, []⟩) (by show a < A.L.length; rw [h.n]; exact hlt), rdB_in (A := ⟨A.L, []⟩) (by show a < A.L.length; rw [h.n]; exact hlt), rdE_in (by rw [hn]; exact hlt), rdB_in (by rw [hn]; exact hlt), hw0]
  simp only [lastF]
  rw [h.r a ha]
  exact ⟨rfl, rfl⟩
/-- Ones, one behind another. -/
theorem ones_next (n : Nat) : bysN (List.replicate n 1) ++ [[Value.int .u8 ((1 : Nat) : Int)]] = bysN (List.replicate (n + 1) 1) := by
  rw [List.replicate_succ']
  simp
theorem info5 : (Try.prog.info? 5).map (fun i => (i.zero, i.size, i.bytes)) = some (some (.int .u8 0), 1, 1) := by kernel_rfl
theorem fit_bysN (l : List Nat) : Fit 1 (bysN l) := fun f hf => by
  obtain ⟨x, _, rfl⟩ := List.mem_map.1 hf
  exact ⟨rfl, fun u hu => by simp at hu; subst hu; rfl⟩
theorem GrowG.fresh {E : TypeId} {m : Nat} {w wr : World} {v : Value} {l : List (List Value)} (h : GrowG E m w wr v l) {y : Addr} {n c : Nat} (hv : v = .slice (some y) n c) : w.heap.size ≤ y.block := by
  obtain ⟨_, ⟨_, h3⟩, _⟩ := h
  rcases h3 with ⟨e, _⟩ | ⟨g, cap, cur, e, e2, _⟩
  · rw [hv] at e; cases e
  · rw [hv] at e
    injection e with e
    injection e with e
    subst e
    exact e2
end Go.Proofs.Ytdbefnghljjieaa
