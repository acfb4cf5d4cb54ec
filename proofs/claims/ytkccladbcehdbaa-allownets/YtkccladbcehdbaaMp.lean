/- A map of numbers by places (a stage and a column): read, an entry laid, an entry written. -/
import Derived.Test.YtkccladbcehdbaaRg
import Derived.Maps.Own
import Derived.WideKeyEntry
import Derived.DeepKeys4
namespace Go.Proofs.Ytkccladbcehdbaa
open Go.RowKit
set_option linter.unusedVariables false
set_option linter.unusedSimpArgs false
open Go.ChangeShapes Go.WideShapes Go.MapKept Go.ChangeMaps
open Go.WideElems (findIdx_born findIdx_arr modify_last set_self)
open Go.WideMaps (KeyLaw)
abbrev ky (s c : Int) : Value := .agg #[.int .i64 s, .int .i64 c]
theorem lits3 (d : Nat) {s : Int} (ws : (Lit.int .i64 s).wf = true) : Try.prog.keyLits (d + 1) 3 [.int .i64 s] = some [.int .i64 s] := by
  simp [Program.keyLits, Try.underlying3, ws]
theorem lits54 (d : Nat) {s : Int} (ws : (Lit.int .i64 s).wf = true) : Try.prog.keyLits (d + 1) 54 [.int .i64 s] = some [.int .i64 s] := by
  simp [Program.keyLits, Try.underlying54, ws]
theorem lits56 (d : Nat) {s c : Int} (ws : (Lit.int .i64 s).wf = true) (wc : (Lit.int .i64 c).wf = true) : Try.prog.keyLits (d + 2) 56 [.int .i64 s, .int .i64 c] = some [.int .i64 s, .int .i64 c] := by
  have hc2 : Try.prog.cellsOf 56 = 2 := by kernel_rfl
  have hc3 : Try.prog.cellsOf 3 = 1 := by kernel_rfl
  have hc4 : Try.prog.cellsOf 54 = 1 := by kernel_rfl
  simp [Program.keyLits, Try.underlying56, Try.underlying3, Try.underlying54, hc2, hc3, hc4, ws, wc]
theorem key_lit {s c : Int} (hs : In64 s) (hc : In64 c) : ∃ kl, keyOf Try.prog 56 (ky s c) = some kl := by
  unfold keyOf
  have h3 : Try.prog.types.size + 1 = 93 + 2 := by kernel_rfl
  have hk : Try.prog.keyType 56 = true := by kernel_rfl
  have hc2 : Try.prog.cellsOf 56 = 2 := by kernel_rfl
  rw [Try.underlying56, h3, hk]
  have hf : Value.formed Try.prog 56 (ky s c) = true := by simp [Value.formed, Try.underlying56, hc2]
  have hl := lits56 93 (wf_of hs) (wf_of hc)
  have he : (ky s c).cells.toList = [.int .i64 s, .int .i64 c] := rfl
  rw [he]
  generalize (93 : Nat) + 2 = m at *
  simp [hf, hl]
theorem laidOut0 : laidOutB Try.prog = true := by kernel_rfl
theorem row56 : (56 : TypeId) < Try.prog.types.size := of_decide_eq_true (by kernel_rfl)
theorem wide56 : (match Try.prog.underlying 56 with | some (.array _ _) | some (.struct _) => true | _ => false) = true := by rw [Try.underlying56]
theorem law56 : KeyLaw Try.prog 56 := deep_law_laid laidOut0 (m := 3) (by omega) row56 (by kernel_rfl) wide56
theorem zero2 (w : World) : (zeroValue 2).run Try.prog w = .ok (.int .i64 0) w := by kernel_rfl
/-- Entries that hold, at each key, the number f tells (and 0, where there is none). -/
structure Ents (es : Array MapEntry) (clock : Nat) (f : Int → Int → Int) : Prop where
  st : Stamped es clock
  each : ∀ e ∈ es.toList, ∃ s c, In64 s ∧ In64 c ∧ e.key = ky s c ∧ e.val = .int .i64 (f s c)
  none : ∀ s c, (∀ e ∈ es.toList, e.key ≠ ky s c) → f s c = 0
/-- Block b of w is a map that holds, at each key, the number f tells. -/
def MapAt (w : World) (b : Nat) (f : Int → Int → Int) : Prop := ∃ es clock, w.heap[b]? = some (.map es clock) ∧ Ents es clock f
/-- .. and it has an entry at s, c that bears the stamp st. -/
def MapE (w : World) (b : Nat) (f : Int → Int → Int) (s c : Int) (st : Nat) : Prop := ∃ es clock, w.heap[b]? = some (.map es clock) ∧ Ents es clock f ∧ ∃ e ∈ es.toList, e.born = st ∧ e.key = ky s c
def upd (f : Int → Int → Int) (s c n : Int) : Int → Int → Int := fun s' c' => if s' = s ∧ c' = c then n else f s' c'
theorem ky_inj {s c s' c' : Int} (h : ky s c = ky s' c') : s = s' ∧ c = c' := by
  simp only [ky, Value.agg.injEq, Array.mk.injEq, List.cons.injEq, Value.int.injEq, true_and, and_true] at h
  exact h
theorem MapE.at {w : World} {b : Nat} {f : Int → Int → Int} {s c : Int} {st : Nat} (h : MapE w b f s c st) : MapAt w b f := by
  obtain ⟨es, clock, h1, h2, _⟩ := h
  exact ⟨es, clock, h1, h2⟩
theorem MapAt.lt {w : World} {b : Nat} {f : Int → Int → Int} (h : MapAt w b f) : b < w.heap.size := by
  obtain ⟨es, clock, h1, _⟩ := h
  exact (Array.getElem?_eq_some_iff.1 h1).1
theorem MapAt.keep {w w' : World} {b : Nat} {f : Int → Int → Int} (h : MapAt w b f) (hb : Below w.heap.size w w') : MapAt w' b f := by
  have l := h.lt
  obtain ⟨es, clock, h1, h2⟩ := h
  exact ⟨es, clock, (hb.block b l).trans h1, h2⟩
theorem MapAt.alloc {w : World} {b : Nat} {f : Int → Int → Int} (h : MapAt w b f) (o : Obj) : MapAt (w.alloc o) b f := h.keep ((Below.refl w.heap.size w).alloc (Nat.le_refl _) o)
theorem MapAt.new (w : World) : MapAt (w.alloc (.map #[] 0)) w.heap.size (fun _ _ => 0) := ⟨#[], 0, heap_alloc_new w _, stamped_empty 0, fun e h => by simp at h, fun _ _ _ => rfl⟩
theorem Ents.keys {es : Array MapEntry} {clock : Nat} {f : Int → Int → Int} (h : Ents es clock f) : ∀ e ∈ es.toList, ∃ l, keyOf Try.prog 56 e.key = some l := fun e he => by
  obtain ⟨s, c, hs, hc, hk, _⟩ := h.each e he
  rw [hk]
  exact key_lit hs hc
theorem look_run {w : World} {b : Nat} {f : Int → Int → Int} {s c : Int} (h : MapAt w b f) (hs : In64 s) (hc : In64 c) : (Instr.lookup 52 (.map (some b)) (ky s c) false).run Try.prog w = .ok (.int .i64 (f s c)) w := by
  obtain ⟨es, clock, hb, F⟩ := h
  obtain ⟨kl, hkey⟩ := key_lit hs hc
  rcases law56.find w hkey es.toList F.keys with ⟨h1, h2⟩ | ⟨j, e0, h1, h2, h3⟩
  · rw [F.none s c h2]
    simp [Instr.lookup, run_underlying Try.underlying52, MapKept.run_getObj_map hb, law56.check w _ hkey, h1, zero2 w, Result.andThen]
  · obtain ⟨s', c', _, _, hk, hv⟩ := F.each e0 (List.mem_of_getElem? h2)
    obtain ⟨rfl, rfl⟩ := ky_inj (hk.symm.trans h3)
    simp [Instr.lookup, run_underlying Try.underlying52, MapKept.run_getObj_map hb, law56.check w _ hkey, h1, hv, Result.andThen]
theorem Ents.push {es : Array MapEntry} {clock : Nat} {f : Int → Int → Int} (F : Ents es clock f) {s c : Int} (hs : In64 s) (hc : In64 c) (h2 : ∀ e ∈ es.toList, e.key ≠ ky s c) : Ents (es.push ⟨ky s c, .int .i64 0, clock⟩) (clock + 1) f := by
  refine ⟨stamped_push F.st h2, fun e he => ?_, fun s' c' h => F.none s' c' (fun e he => h e (by simp [he]))⟩
  simp only [Array.toList_push, List.mem_append, List.mem_singleton] at he
  rcases he with he | rfl
  · exact F.each e he
  · exact ⟨s, c, hs, hc, rfl, by rw [F.none s c h2]⟩
/-- What a change of one map's block leaves as it was. -/
theorem grown_set {w : World} {b : Nat} {es : Array MapEntry} {clock : Nat} {o' : Obj} (hb : w.heap[b]? = some (.map es clock)) : w.grownBy (setBlock w b o') (some b) :=
  ⟨rfl, rfl, rfl, by simp [setBlock], fun i _ hi => heap_setBlock_other hb _ (fun e => hi (by rw [e]))⟩
theorem entry_run {w : World} {b : Nat} {f : Int → Int → Int} {s c : Int} (h : MapAt w b f) (hs : In64 s) (hc : In64 c) :
    ∃ (w1 : World) (st : Nat), (Instr.mapEntry 52 (.map (some b)) (ky s c)).run Try.prog w = .ok (.tuple #[.int .i64 (f s c), goInt st]) w1 ∧ MapE w1 b f s c st ∧ w.grownBy w1 (some b) := by
  obtain ⟨es, clock, hb, F⟩ := h
  obtain ⟨kl, hkey⟩ := key_lit hs hc
  rcases law56.find w hkey es.toList F.keys with ⟨h1, h2⟩ | ⟨j, e0, h1, h2, h3⟩
  · refine ⟨setBlock w b (.map (es.push ⟨ky s c, .int .i64 0, clock⟩) (clock + 1)), clock, ?_, ⟨_, _, heap_setBlock_same hb _, F.push hs hc h2, ⟨ky s c, .int .i64 0, clock⟩, by simp, rfl, rfl⟩, grown_set hb⟩
    rw [F.none s c h2]
    simp [Instr.mapEntry, run_underlying Try.underlying52, MapKept.run_getObj_map hb, law56.check w false hkey, h1, zero2 w, MapKept.run_setObj_map _ hb, Result.andThen, setBlock]
  · have hj : es[j]? = some e0 := by simpa using h2
    obtain ⟨s', c', _, _, hk, hv⟩ := F.each e0 (List.mem_of_getElem? h2)
    obtain ⟨rfl, rfl⟩ := ky_inj (hk.symm.trans h3)
    have hsame : es.modify j (fun e => { e with key := ky s' c' }) = es := by
      apply Array.ext'
      rw [Array.toList_modify, modify_eq_set _ _ _ _ h2]
      have : ({ e0 with key := ky s' c' } : MapEntry) = e0 := by rw [← h3]
      rw [this]
      exact set_self _ _ _ h2
    refine ⟨setBlock w b (.map es clock), e0.born, ?_, ⟨es, clock, heap_setBlock_same hb _, F, e0, List.mem_of_getElem? h2, rfl, h3⟩, grown_set hb⟩
    simp [Instr.mapEntry, run_underlying Try.underlying52, MapKept.run_getObj_map hb, law56.check w false hkey, h1, hj, h3, hv, law56.stays w hkey, hsame, MapKept.run_setObj_map _ hb, Result.andThen, setBlock]
theorem store_run {w : World} {b : Nat} {f : Int → Int → Int} {s c : Int} {st : Nat} (h : MapE w b f s c st) (n : Int) :
    ∃ w1, (Instr.entryStore 52 (.map (some b)) (.int .i64 st) (.int .i64 n)).run Try.prog w = .ok () w1 ∧ MapAt w1 b (upd f s c n) ∧ w.grownBy w1 (some b) := by
  obtain ⟨es, clock, hb, F, e0, he0, rfl, hk0⟩ := h
  obtain ⟨j, h2⟩ := List.getElem?_of_mem he0
  have hjl : j < es.toList.length := (List.getElem?_eq_some_iff.1 h2).1
  obtain ⟨s1, s2, s3⟩ := F.st
  have hidx : es.findIdx? (fun e => ((e.born : Nat) : Int) == ((e0.born : Nat) : Int)) = some j := by
    rw [findIdx_arr]
    exact findIdx_born s2 h2
  have hlist : (es.modify j (fun e => { e with val := .int .i64 n })).toList = es.toList.set j { e0 with val := .int .i64 n } := by rw [Array.toList_modify, modify_eq_set _ _ _ _ h2]
  have hother : ∀ i e, i ≠ j → es.toList[i]? = some e → e.key ≠ ky s c := fun i e hij he ek => by
    have hil : i < es.toList.length := (List.getElem?_eq_some_iff.1 he).1
    exact hij (List.getElem?_inj (l := es.toList.map (·.key)) (by simpa using hil) s3 |>.1 (by rw [List.getElem?_map, List.getElem?_map, he, h2]; simp [ek, hk0]))
  refine ⟨setBlock w b (.map (es.modify j fun e => { e with val := .int .i64 n }) clock), ?_, ⟨_, _, heap_setBlock_same hb _, ⟨stamped_modify F.st _ _ (fun _ _ => rfl) (fun _ _ _ => rfl), fun e he => ?_, fun s' c' hno => ?_⟩⟩, grown_set hb⟩
  · simp [Instr.entryStore, MapKept.run_getObj_map hb, asInt, asIntOf, goInt, hidx, MapKept.run_setObj_map _ hb, Result.andThen, setBlock]
  · rw [hlist] at he
    obtain ⟨i, hi⟩ := List.getElem?_of_mem he
    rw [List.getElem?_set] at hi
    split at hi
    · next hij =>
      subst hij
      obtain ⟨s', c', g1, g2, hk, _⟩ := F.each e0 he0
      obtain ⟨rfl, rfl⟩ := ky_inj (hk.symm.trans hk0)
      simp only [hjl, if_true, Option.some.injEq] at hi
      subst hi
      exact ⟨s', c', g1, g2, hk, by simp [upd]⟩
    · next hij =>
      obtain ⟨s', c', g1, g2, hk, hv⟩ := F.each e (List.mem_of_getElem? hi)
      refine ⟨s', c', g1, g2, hk, ?_⟩
      rw [hv, upd, if_neg]
      rintro ⟨rfl, rfl⟩
      exact hother i e (fun c => hij c.symm) hi hk
  · rw [hlist] at hno
    have hne : ¬ (s' = s ∧ c' = c) := by
      rintro ⟨rfl, rfl⟩
      exact hno { e0 with val := .int .i64 n } (List.mem_iff_getElem.2 ⟨j, by simpa using hjl, by simp⟩) hk0
    rw [upd, if_neg hne]
    refine F.none s' c' (fun e he ek => ?_)
    obtain ⟨i, hi⟩ := List.getElem?_of_mem he
    by_cases hij : i = j
    · subst hij
      rw [h2] at hi
      cases hi
      exact hne (ky_inj (ek.symm.trans hk0))
    · refine hno e (List.mem_iff_getElem?.2 ⟨i, ?_⟩) ek
      rw [List.getElem?_set, if_neg (fun c => hij c.symm)]
      exact hi
end Go.Proofs.Ytkccladbcehdbaa
