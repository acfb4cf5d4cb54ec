/- Plain facts of what is read, synced, crashed. -/
import Derived.Test.YtdbefnghljjieaaAr
namespace Go.Proofs.Ytdbefnghljjieaa
open Go.RowKit
set_option linter.unusedVariables false
set_option linter.unusedSimpArgs false
theorem lastF_snoc (l : List Wt) (q : Wt) (a : Int) : lastF (l ++ [q]) a = if (q.1 : Int) = a then some q else lastF l a := by
  induction l with
  | nil => rw [List.nil_append, lastF, lastF]; simp [lastF]
  | cons y r ih =>
    rw [List.cons_append, lastF, ih, lastF]
    by_cases hq : (q.1 : Int) = a
    · rw [if_pos hq, if_pos hq]
    · rw [if_neg hq, if_neg hq]
theorem setL_1 (q : Wt) (A : Stt) : setL 1 q A = ⟨A.L.set q.1 (some q.2), A.W⟩ := rfl
theorem run1 : ∀ (W : List Wt) (i : Nat) (A : Stt) (a : Nat), a < A.L.length → (runS (fun _ => 1) i W A).L.getD a none = match lastF W (a : Int) with
    | some q => some q.2
    | none => A.L.getD a none
  | [], _, _, _, _ => rfl
  | q :: r, i, A, a, h => by
    rw [runS, run1 r (i + 1) _ a (by rw [setL_len]; exact h), lastF]
    cases hr : lastF r (a : Int) with
    | some y => rfl
    | none =>
      simp only []
      rw [setL_1]
      by_cases hq : (q.1 : Int) = (a : Int)
      · rw [if_pos hq]
        obtain rfl : q.1 = a := by omega
        simp [List.getD, h]
      · rw [if_neg hq]
        have : q.1 ≠ a := fun e => hq (by rw [e])
        simp [List.getD, this]
theorem fate_nil (i : Nat) : fateN [] i = 0 := rfl
theorem run0 (W : List Wt) : ∀ (i : Nat) (A : Stt), runS (fateN []) i W A = A := by
  induction W with
  | nil => intro i A; rfl
  | cons q r ih => intro i A; rw [runS, ih, fate_nil, setL, if_neg (by decide), if_neg (by decide)]
theorem run_congr {fs gs : Nat → Nat} (W : List Wt) : ∀ (i : Nat) (A : Stt), (∀ j, j < W.length → fs (i + j) = gs (i + j)) → runS fs i W A = runS gs i W A := by
  induction W with
  | nil => intro i A _; rfl
  | cons q r ih =>
    intro i A h
    rw [runS, runS, show fs i = gs i from h 0 (by simp)]
    exact ih (i + 1) _ (fun j hj => by have := h (j + 1) (by simp; omega); rwa [show i + (j + 1) = i + 1 + j by omega] at this)
theorem run_out {fs : Nat → Nat} {a : Nat} (W : List Wt) : ∀ (i : Nat) (A : Stt), (∀ q ∈ W, q.1 ≠ a) → (runS fs i W A).L.getD a none = A.L.getD a none := by
  induction W with
  | nil => intro i A _; rfl
  | cons q r ih =>
    intro i A h
    rw [runS, ih (i + 1) _ (fun y hy => h y (List.mem_cons_of_mem _ hy))]
    have hq := h q List.mem_cons_self
    unfold setL
    split
    · simp [List.getD, hq]
    · split
      · simp [List.getD, hq]
      · rfl
theorem crashS_W (fs : Nat → Nat) (A : Stt) : (crashS fs A).W = [] := runS_W _ _ _ _
theorem crashS_len (fs : Nat → Nat) (A : Stt) : (crashS fs A).L.length = A.L.length := runS_len _ _ _ _
theorem wrS_len (A : Stt) (a : Int) (l : List Nat) : (wrS A a l).L.length = A.L.length := by unfold wrS; split <;> rfl
theorem doS_len (A : Stt) (o : Opx) : (doS A o).L.length = A.L.length := by
  unfold doS
  split
  · exact wrS_len _ _ _
  · split
    · exact crashS_len _ _
    · split
      · exact crashS_len _ _
      · rfl
theorem crash0 (A : Stt) : crashS (fateN []) A = ⟨A.L, []⟩ := run0 _ _ _
theorem inR_nat {a n : Nat} (h : a < n) : inR (a : Int) n = true := by unfold inR; simp; omega
theorem rdE_in {A : Stt} {a : Nat} (h : a < A.L.length) : rdE A (a : Int) = match lastF A.W (a : Int) with
    | some _ => 0
    | none => if (A.L.getD a none).isSome = true then 0 else 7 := by
  rw [rdE, if_pos (inR_nat h), lastB]
  cases lastF A.W (a : Int) <;> simp
theorem rdB_in {A : Stt} {a : Nat} (h : a < A.L.length) : rdB A (a : Int) = match lastF A.W (a : Int) with
    | some q => q.2
    | none => (A.L.getD a none).getD zs64 := by
  rw [rdB, if_pos (inR_nat h), lastB, lastQ]
  cases lastF A.W (a : Int) <;> simp
theorem wrE_cases (A : Stt) (a : Int) : (wrE A a = 0 ∧ ∃ k : Nat, a = (k : Int) ∧ k < A.L.length) ∨ (wrE A a = 2 ∨ wrE A a = 10) := by
  unfold wrE
  cases h : inR a A.L.length with
  | false => right; left; simp
  | true =>
    by_cases hn : A.W.length < 4096
    · left
      have : 0 ≤ a ∧ a < (A.L.length : Int) := by simpa [inR] using h
      exact ⟨by simp [hn], a.toNat, by omega, by omega⟩
    · right; right; simp [hn]
/-- What is read behind a write. -/
theorem rd_write {A : Stt} {k : Nat} {l : List Nat} {a : Nat} (h : a < A.L.length) (hw : wrE A (k : Int) = 0) : rdE (wrS A (k : Int) l) (a : Int) = (if k = a then 0 else rdE A (a : Int)) ∧ rdB (wrS A (k : Int) l) (a : Int) = (if k = a then l else rdB A (a : Int)) := by
  have e : wrS A (k : Int) l = ⟨A.L, A.W ++ [(k, l)]⟩ := by rw [wrS, if_pos hw]; rfl
  rw [e, rdE_in (A := ⟨A.L, A.W ++ [(k, l)]⟩) h, rdB_in (A := ⟨A.L, A.W ++ [(k, l)]⟩) h, rdE_in h, rdB_in h]
  simp only [lastF_snoc]
  by_cases hk : k = a
  · subst hk; simp
  · have : ¬ (k : Int) = (a : Int) := by omega
    rw [if_neg hk, if_neg hk, if_neg this]
    exact ⟨rfl, rfl⟩
/-- What is read behind a sync, where nothing is torn. -/
theorem rd_sync {A : Stt} {a : Nat} (h : a < A.L.length) : (crashS (fun _ => 1) A).L.getD a none = match lastF A.W (a : Int) with
    | some q => some q.2
    | none => A.L.getD a none := run1 _ _ _ a h
theorem rd_sync' {A : Stt} {a : Nat} (h : a < A.L.length) : rdE (crashS (fun _ => 1) A) (a : Int) = rdE A (a : Int) ∧ rdB (crashS (fun _ => 1) A) (a : Int) = rdB A (a : Int) := by
  have h2 : a < (crashS (fun _ => 1) A).L.length := by rw [crashS_len]; exact h
  rw [rdE_in h2, rdB_in h2, crashS_W, rdE_in h, rdB_in h, rd_sync h]
  simp only [lastF]
  cases lastF A.W (a : Int) <;> simp
theorem rd_new {n a : Nat} (h : a < n) : rdE (newS n) (a : Int) = 0 ∧ rdB (newS n) (a : Int) = zs64 := by
  have h2 : a < (newS n).L.length := by simp [newS, h]
  rw [rdE_in h2, rdB_in h2]
  simp [newS, lastF, List.getD, h]
/-- BlockReads: what is read is what was written. -/
structure RI (A : Stt) (want : List (List Nat)) : Prop where
  n : A.L.length = 30
  l : L64 want
  r : ∀ (a : Nat) (x : List Nat), want[a]? = some x → rdE A (a : Int) = 0 ∧ rdB A (a : Int) = x
theorem RI.new : RI (newS 30) zs30 := ⟨by simp [newS], zs30_ok, fun a x h => by
  have ha : a < 30 := by have := (List.getElem?_eq_some_iff.1 h).1; simpa [zs30] using this
  have hx : x = zs64 := (List.mem_replicate.1 (List.mem_of_getElem? h)).2
  rw [hx]
  exact rd_new ha⟩
theorem RI.wr {A : Stt} {want : List (List Nat)} (h : RI A want) {k : Nat} (hw : wrE A (k : Int) = 0) {l : List Nat} (hl : l.length = 64) : RI (wrS A (k : Int) l) (want.set k l) := ⟨by rw [wrS_len, h.n], h.l.set hl, fun a x hx => by
  have ha : a < 30 := by have := (List.getElem?_eq_some_iff.1 hx).1; rw [List.length_set, h.l.1] at this; exact this
  obtain ⟨e1, e2⟩ := rd_write (A := A) (k := k) (l := l) (a := a) (by rw [h.n]; exact ha) hw
  rw [e1, e2]
  by_cases hk : k = a
  · subst hk
    rw [List.getElem?_set_self (by rw [h.l.1]; exact ha)] at hx
    injection hx with hx
    rw [if_pos rfl, if_pos rfl]
    exact ⟨rfl, hx⟩
  · rw [List.getElem?_set_ne hk] at hx
    rw [if_neg hk, if_neg hk]
    exact h.r a x hx⟩
theorem RI.sync {A : Stt} {want : List (List Nat)} (h : RI A want) : RI (crashS (fun _ => 1) A) want := ⟨by rw [crashS_len, h.n], h.l, fun a x hx => by
  have ha : a < 30 := by have := (List.getElem?_eq_some_iff.1 hx).1; rw [h.l.1] at this; exact this
  obtain ⟨e1, e2⟩ := rd_sync' (A := A) (a := a) (by rw [h.n]; exact ha)
  rw [e1, e2]
  exact h.r a x hx⟩
theorem RI.no {A : Stt} {want : List (List Nat)} (h : RI A want) {o : Opx} (h1 : ¬ (o.k = 1 ∧ doE A o = 0)) (h3 : o.k ≠ 3) : RI (doS A o) want := by
  unfold doS
  by_cases hk : o.k = 1
  · rw [if_pos hk]
    have : wrE A o.at_ ≠ 0 := fun e => h1 ⟨hk, by rw [doE, if_pos hk]; exact e⟩
    rw [wrS, if_neg this]
    exact h
  · rw [if_neg hk]
    split
    · exact h.sync
    · exact h
theorem RI.yes {A : Stt} {want : List (List Nat)} (h : RI A want) {o : Opx} (h1 : o.k = 1) (h0 : doE A o = 0) : ∃ k : Nat, o.at_ = (k : Int) ∧ k < 30 ∧ RI (doS A o) (want.set k (ofB o.B)) := by
  rw [doE, if_pos h1] at h0
  rcases wrE_cases A o.at_ with ⟨_, k, hk, hlt⟩ | h2 | h2
  · rw [hk] at h0
    refine ⟨k, hk, by rw [h.n] at hlt; exact hlt, ?_⟩
    rw [doS, if_pos h1, hk]
    exact h.wr h0 (ofB_len _)
  · rw [h0] at h2; cases h2
  · rw [h0] at h2; cases h2
end Go.Proofs.Ytdbefnghljjieaa
