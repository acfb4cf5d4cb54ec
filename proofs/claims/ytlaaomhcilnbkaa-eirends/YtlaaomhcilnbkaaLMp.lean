/- More laid out, or more paid back: plain. -/
import Derived.Test.YtlaaomhcilnbkaaEAl
import Derived.Test.YtlaaomhcilnbkaaMZ
set_option linter.unusedVariables false
set_option linter.unusedSimpArgs false
set_option linter.unusedSectionVars false
namespace Go.Proofs.Ytlaaomhcilnbkaa.Mn
open Go.RowKit
attribute [local simp] Tri.typeInfo Tri.sizeOf Tri.underlying Tri.runUnderlying Tri.isAgg Tri.zeroValue Tri.depth Tri.stoodInHeld Tri.eqGuardType Tri.call16 Tri.call3 Tri.call4 Tri.call5 Tri.call6 Tri.call7 Tri.call8 Tri.call9 Tri.call10 Tri.call11 Tri.call12 Tri.call13 Tri.call14 Tri.call15 Tri.call17 Tri.call18 Tri.call19 Tri.call20 Tri.call21 Tri.call22 Tri.call23 Tri.call24 Tri.call25 Tri.call26 Tri.call27 Tri.call28 Tri.call29 Tri.call30 Tri.call31 Tri.call32 Tri.call33 Tri.call34 Tri.call35 Tri.call36 Tri.call37 Tri.call38 Tri.call39 Tri.call40 Tri.call41 Tri.call42 Tri.call43 Tri.call44 Tri.call45 Tri.call46 Tri.call47 Tri.call48 Tri.call49 Tri.call50 Tri.call51 Tri.call52 Tri.call53 Tri.call54 Tri.call55 Tri.call56 Tri.call57 Tri.call58 Tri.call59 Tri.call60 Tri.call61 Tri.call62 Tri.call63 Tri.call64 Tri.call65 Tri.call66 Tri.call67 Tri.call68 Tri.call69 Tri.call70 Tri.call71 Tri.call72 Tri.call73 Tri.call74 Tri.call75 Tri.call76 Tri.call77 Tri.call78 Tri.call79 Tri.call80 Tri.call81 Tri.call82 Tri.call83 Tri.call84 Tri.call85 Tri.call86 Tri.call87 Tri.call88 Tri.call89 Tri.call90 Tri.call91 Tri.call92 Tri.call93 Tri.call94 Tri.call95 Tri.call96 Tri.call97 Tri.call98 Tri.call99 Tri.call100 Tri.call101 Tri.call102 Tri.call103 Tri.call104 Tri.call105 Tri.call106 Tri.call107 Tri.call108 Tri.call109 Tri.call110 Tri.call111 Tri.call112 Tri.call113 Tri.call114 Tri.call115 Tri.call116 Tri.call117 Tri.call118 Tri.call119 Tri.call120 Tri.call121 Tri.call122 Tri.call123 Tri.call124 Tri.call125 Tri.call126 Tri.call127 Tri.call128 Tri.call129 Tri.call130 Tri.call131 Tri.call132 Tri.call133 Tri.call134 Tri.call135 Tri.call136 Tri.call137 Tri.call138 Tri.call139 Tri.call140 Tri.call141 Tri.call142 Tri.call143 Tri.call144 Tri.call145 Tri.call146 Tri.call147 Tri.call148 Tri.call149 Tri.call150 Tri.call151 Tri.call152 Tri.call153 Tri.call154 Tri.call155 Tri.call157 Tri.call158 Tri.call159 Tri.call160 Tri.call161 Tri.call162 Tri.call163 Tri.call165 Tri.call166 Tri.call167 Tri.call183 Tri.call184
theorem own_open {w W : World} {v : Value} {l : List Int} (h : Grow 2 w W v l) (h0 : l ≠ []) (hm : l.length ≤ 1000000) : ∃ g cap cur, v = .slice (some ⟨g, 0, none⟩) l.length cap ∧ w.heap.size ≤ g ∧ W.heap[g]? = some (.cells cur 2 (0, 0)) ∧ Row W (.slice (some ⟨g, 0, none⟩) l.length cap) l := by
  have hr := h.row (by unfold maxLen; omega)
  obtain ⟨h1, h2⟩ := h.owns
  rcases h2 with ⟨_, h3⟩ | ⟨g, cap, cur, rfl, h3, h4, h5, h6, _⟩
  · exact absurd (List.eq_nil_of_length_eq_zero h3) h0
  · exact ⟨g, cap, cur, rfl, h3, h4, hr⟩
theorem own_set {W : World} {g cap : Nat} {cur : Array Value} {l : List Int} {K : Nat} {y : Int} (hk : K < l.length) (hy : In64 y) (hg : W.heap[g]? = some (.cells cur 2 (0, 0))) (h : Row W (.slice (some ⟨g, 0, none⟩) l.length cap) l) : Row (W.setCell ⟨g, K, none⟩ (.int .i64 y)) (.slice (some ⟨g, 0, none⟩) l.length cap) (l.set K y) := by
  rcases h with ⟨_, _, _, e⟩ | ⟨b, o, c, e, h1, h2, h3, h4⟩
  · rw [e] at hk; exact absurd hk (Nat.not_lt_zero K)
  injection e with e1 e2 e3
  injection e1 with e1
  injection e1 with e1 e4
  subst e1 e4 e3
  have hs := Go.heap_setCell_same W g K _ _ (.int .i64 y) hg
  refine .inr ⟨g, 0, cap, by rw [List.length_set], by simpa using h1, by simpa using h2, fun j hj => ?_, fun z hz => ?_⟩
  · rw [List.length_set] at hj
    have hj' := h3 j hj
    rw [cell_of_row W g (0 + j) _ _ _ hg] at hj'
    rw [cell_of_row _ g (0 + j) _ _ _ hs]
    rw [Nat.zero_add] at hj' ⊢
    have hlt : j < cur.size := by
      have := Array.getElem?_eq_some_iff.1 hj'
      exact this.1
    by_cases e : j = K
    · subst e
      rw [Array.getElem?_setIfInBounds_self_of_lt hlt]
      simp [List.getD, hj]
    · rw [Array.getElem?_setIfInBounds_ne (fun c => e c.symm), hj']
      simp [List.getD, List.getElem?_set, Ne.symm e]
  · rcases List.mem_or_eq_of_mem_set hz with hz | rfl
    · exact h4 z hz
    · exact hy
/-- What more is laid out, or more is paid back. -/
theorem more_out {out m r s f : Int} {l : List Int} (h : Eir out l r 0) (hm : 0 ≤ m) (k : Eir (out + m) l s f) : (f = 0 ∧ s ≤ r) ∨ f = 13 ∨ (f = 2 ∧ 10000000000000 < out + m) := by
  obtain ⟨hm1, hI⟩ : maySo out l = true ∧ IsEir out l r := by
    rcases h with ⟨_, _, h⟩ | ⟨h1, ⟨_, _, h⟩ | ⟨h, _⟩⟩
    · cases h
    · cases h
    · exact ⟨h1, h⟩
  have hs := maySo_yes hm1
  rcases k with ⟨k1, _, k2⟩ | ⟨_, ⟨_, _, k2⟩ | ⟨k1, k2⟩⟩
  · refine .inr (.inr ⟨k2, ?_⟩)
    refine Classical.byContradiction fun hn => ?_
    have : maySo (out + m) l = true := by
      unfold maySo at hm1 ⊢
      have a := hs.lo
      simp only [Bool.and_eq_true, decide_eq_true_eq] at hm1 ⊢
      exact ⟨by omega, by omega, hm1.2.2⟩
    rw [this] at k1
    cases k1
  · exact .inr (.inl k2)
  · exact .inl ⟨k2, hI.le k1 (by omega) rfl (fun x hx => (hs.amt x hx).1) (fun _ => Int.le_refl _)⟩
theorem more_in {out m r s f : Int} {l : List Int} {K : Nat} (h : Eir out l r 0) (hm : 0 ≤ m) (hk : K < l.length) (k : Eir out (l.set K (l.getD K 0 + m)) s f) : f ≠ 0 ∨ r ≤ s := by
  obtain ⟨hm1, hI⟩ : maySo out l = true ∧ IsEir out l r := by
    rcases h with ⟨_, _, h⟩ | ⟨h1, ⟨_, _, h⟩ | ⟨h, _⟩⟩
    · cases h
    · cases h
    · exact ⟨h1, h⟩
  have hs := maySo_yes hm1
  rcases k with ⟨_, _, k2⟩ | ⟨_, ⟨_, _, k2⟩ | ⟨k1, k2⟩⟩
  · exact .inl (by rw [k2]; decide)
  · exact .inl (by rw [k2]; decide)
  · refine .inr (k1.le hI (Int.le_refl _) (by rw [List.length_set]) (fun x hx => (hs.amt x hx).1) (fun i => ?_))
    by_cases e : i = K
    · subst e
      simp [List.getD, hk]
      omega
    · simp [List.getD, List.getElem?_set, Ne.symm e]
end Go.Proofs.Ytlaaomhcilnbkaa.Mn
