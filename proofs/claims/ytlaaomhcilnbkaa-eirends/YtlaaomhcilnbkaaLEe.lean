/- EirEnds, lone. -/
import Derived.Test.YtlaaomhcilnbkaaLMp
import Derived.Test.YtlaaomhcilnbkaaLTk
import Derived.Test.YtlaaomhcilnbkaaLSt
set_option linter.unusedVariables false
set_option linter.unusedSimpArgs false
set_option linter.unusedSectionVars false
namespace Go.Proofs.Ytlaaomhcilnbkaa.Mn
open Go.RowKit
attribute [local simp] Tri.typeInfo Tri.sizeOf Tri.underlying Tri.runUnderlying Tri.isAgg Tri.zeroValue Tri.depth Tri.stoodInHeld Tri.eqGuardType Tri.call16 Tri.call3 Tri.call4 Tri.call5 Tri.call6 Tri.call7 Tri.call8 Tri.call9 Tri.call10 Tri.call11 Tri.call12 Tri.call13 Tri.call14 Tri.call15 Tri.call17 Tri.call18 Tri.call19 Tri.call20 Tri.call21 Tri.call22 Tri.call23 Tri.call24 Tri.call25 Tri.call26 Tri.call27 Tri.call28 Tri.call29 Tri.call30 Tri.call31 Tri.call32 Tri.call33 Tri.call34 Tri.call35 Tri.call36 Tri.call37 Tri.call38 Tri.call39 Tri.call40 Tri.call41 Tri.call42 Tri.call43 Tri.call44 Tri.call45 Tri.call46 Tri.call47 Tri.call48 Tri.call49 Tri.call50 Tri.call51 Tri.call52 Tri.call53 Tri.call54 Tri.call55 Tri.call56 Tri.call57 Tri.call58 Tri.call59 Tri.call60 Tri.call61 Tri.call62 Tri.call63 Tri.call64 Tri.call65 Tri.call66 Tri.call67 Tri.call68 Tri.call69 Tri.call70 Tri.call71 Tri.call72 Tri.call73 Tri.call74 Tri.call75 Tri.call76 Tri.call77 Tri.call78 Tri.call79 Tri.call80 Tri.call81 Tri.call82 Tri.call83 Tri.call84 Tri.call85 Tri.call86 Tri.call87 Tri.call88 Tri.call89 Tri.call90 Tri.call91 Tri.call92 Tri.call93 Tri.call94 Tri.call95 Tri.call96 Tri.call97 Tri.call98 Tri.call99 Tri.call100 Tri.call101 Tri.call102 Tri.call103 Tri.call104 Tri.call105 Tri.call106 Tri.call107 Tri.call108 Tri.call109 Tri.call110 Tri.call111 Tri.call112 Tri.call113 Tri.call114 Tri.call115 Tri.call116 Tri.call117 Tri.call118 Tri.call119 Tri.call120 Tri.call121 Tri.call122 Tri.call123 Tri.call124 Tri.call125 Tri.call126 Tri.call127 Tri.call128 Tri.call129 Tri.call130 Tri.call131 Tri.call132 Tri.call133 Tri.call134 Tri.call135 Tri.call136 Tri.call137 Tri.call138 Tri.call139 Tri.call140 Tri.call141 Tri.call142 Tri.call143 Tri.call144 Tri.call145 Tri.call146 Tri.call147 Tri.call148 Tri.call149 Tri.call150 Tri.call151 Tri.call152 Tri.call153 Tri.call154 Tri.call155 Tri.call157 Tri.call158 Tri.call159 Tri.call160 Tri.call161 Tri.call162 Tri.call163 Tri.call165 Tri.call166 Tri.call167 Tri.call183 Tri.call184
theorem maySo_zeros {out : Int} {l : List Int} {n : Nat} (h : l.length + n ≤ 600) : maySo out (l ++ List.replicate n 0) = maySo out l := by
  unfold maySo
  rw [decide_eq_true (show (l ++ List.replicate n (0 : Int)).length ≤ 600 by simp; omega), decide_eq_true (show l.length ≤ 600 by omega), List.all_append, List.any_append]
  rw [show (List.replicate n (0 : Int)).all amtB = true from List.all_eq_true.2 (fun x hx => by rw [List.eq_of_mem_replicate hx]; rfl)]
  rw [show (List.replicate n (0 : Int)).any (fun x => decide (0 < x)) = false from by
    rw [List.any_eq_false]
    intro x hx
    rw [List.eq_of_mem_replicate hx]
    decide]
  rw [Bool.and_true, Bool.or_false]
theorem eir_zeros {out : Int} {l : List Int} {n : Nat} {r e s f : Int} (h : l.length + n ≤ 600) (h1 : Eir out l r e) (h2 : Eir out (l ++ List.replicate n 0) s f) : r = s ∧ e = f := by
  refine h1.only ?_
  have hm : ∀ r : Int, -990000000000 ≤ r → r ≤ 10000000000000 → cov out (l ++ List.replicate n 0) r = cov out l r := fun r a b => cov_zeros ⟨a, b⟩ n
  unfold Eir at h2 ⊢
  rw [maySo_zeros h] at h2
  rw [hm _ (by omega) (by omega), hm _ (by omega) (by omega)] at h2
  rcases h2 with h2 | ⟨h2, h3 | ⟨h3, h4⟩⟩
  · exact .inl h2
  · exact .inr ⟨h2, .inl h3⟩
  · have a := h3.lo
    have b := h3.hi
    exact .inr ⟨h2, .inr ⟨⟨a, b, by rw [← hm _ (by omega) (by omega)]; exact h3.yes, by rw [← hm _ (by omega) (by omega)]; exact h3.no⟩, h4⟩⟩
def part (p : Int) : Int := p * 1000 + 1000000
theorem summed_app (l : List Int) (x : Int) : summed (l ++ [x]) = summed l + x := by
  induction l with
  | nil => simp [summed]
  | cons y l ih => simp only [List.cons_append, summed, ih]; omega
theorem parts_bd {ps : List Int} (h : ∀ p ∈ ps, 0 ≤ p ∧ p ≤ 65535) : ∀ x ∈ ps.map part, 1000000 ≤ x ∧ x ≤ 66535000 := by
  intro x hx
  obtain ⟨p, hp, rfl⟩ := List.mem_map.1 hx
  have := h p hp
  unfold part
  omega
theorem summed_bd : ∀ {l : List Int}, (∀ x ∈ l, 1000000 ≤ x ∧ x ≤ 66535000) → 1000000 * (l.length : Int) ≤ summed l ∧ summed l ≤ 66535000 * (l.length : Int)
  | [], _ => by simp [summed]
  | x :: l, h => by
    have h1 := h x List.mem_cons_self
    have h2 := summed_bd (l := l) (fun y hy => h y (List.mem_cons_of_mem _ hy))
    simp only [summed, List.length_cons]
    omega
theorem flat_eir {l : List Int} {r g : Int} (hl : ∀ x ∈ l, 1000000 ≤ x ∧ x ≤ 66535000) (h0 : 0 < l.length) (hn : l.length ≤ 20) (h : Eir (summed l) l r g) : g = 0 ∧ 0 ≤ r ∧ r < 1000000 := by
  have hs := summed_bd hl
  have hb : ∀ x ∈ l, 0 ≤ x ∧ x ≤ 10000000000000 := fun x hx => by have := hl x hx; omega
  have hp : ∀ x ∈ l, 0 ≤ x := fun x hx => (hb x hx).1
  have hm : maySo (summed l) l = true := by
    unfold maySo
    rw [decide_eq_true (show 1 ≤ summed l by omega), decide_eq_true (show summed l ≤ 10000000000000 by omega), decide_eq_true (show l.length ≤ 600 by omega)]
    rw [show l.all amtB = true from List.all_eq_true.2 (fun x hx => by have := hb x hx; unfold amtB; simp; omega)]
    rw [show l.any (fun x => decide (0 < x)) = true from by
      obtain ⟨x, t, rfl⟩ : ∃ x t, l = x :: t := by
        cases l with
        | nil => simp at h0
        | cons x t => exact ⟨x, t, rfl⟩
      have := hl x List.mem_cons_self
      simp
      omega]
    rfl
  have c0 := cov_flat l
  have c1 := flat_not hb (by omega) (by omega)
  rcases h with ⟨h, _⟩ | ⟨_, ⟨h, _⟩ | ⟨h, rfl⟩⟩
  · rw [hm] at h; cases h
  · rcases h with h | h
    · rw [cov_rate (s := 0) ⟨by omega, by omega⟩ ⟨by omega, by omega⟩ (by omega) hp c0] at h; cases h
    · rw [cov_rate (r := 1000000) ⟨by omega, by omega⟩ ⟨by omega, by omega⟩ (by omega) hp h] at c1; cases c1
  · have a := h.lo
    have b := h.hi
    refine ⟨rfl, ?_, ?_⟩
    · refine Classical.byContradiction fun hh => ?_
      have := cov_rate (r := r + 1) (s := 0) ⟨by omega, by omega⟩ ⟨by omega, by omega⟩ (by omega) hp c0
      rw [h.no] at this
      cases this
    · refine Classical.byContradiction fun hh => ?_
      have := cov_rate (r := 1000000) (s := r) ⟨by omega, by omega⟩ ⟨by omega, by omega⟩ (by omega) hp h.yes
      rw [c1] at this
      cases this
/-- A slice of numbers of 16 bits. -/
def RowU (w : World) (v : Value) (ps : List Int) : Prop := (∃ a c, v = .slice a 0 c ∧ ps = []) ∨ ∃ b o c, v = .slice (some ⟨b, o, none⟩) ps.length c ∧ 0 < ps.length ∧ (∀ j, j < ps.length → w.cell? ⟨b, o + j, none⟩ = some (.int .u16 (ps.getD j 0))) ∧ ∀ p ∈ ps, 0 ≤ p ∧ p ≤ 65535
theorem RowU.later {w w' : World} {v : Value} {ps : List Int} (h : RowU w v ps) (hb : Below w.heap.size w w') : RowU w' v ps := by
  rcases h with h | ⟨b, o, c, h1, h2, h3, h4⟩
  · exact .inl h
  · exact .inr ⟨b, o, c, h1, h2, fun j hj => (hb.cell (p := ⟨b, o + j, none⟩) (lt_of_cell (h3 j hj))).trans (h3 j hj), h4⟩
def EndsE (w : World) (out : Int) (v : Value) (n : Nat) (u : Value) : Prop := Calls (Tri Try.prog) 7 #[.agg #[.int .i64 out, v, .int .u8 (n : Int), u]] w fun z w' => z = .returned (.bool true) ∧ Below w.heap.size w w'
theorem le_a (out : Int) (a pa : Option Addr) (len c n plen pc : Nat) (w : World) (d1 : decide ((60 : Int) < (len : Int)) = true) : EndsE w out (.slice a len c) n (.slice pa plen pc) := by
  unfold EndsE
  have HA := hide alive_any
  unfold Alive at HA
  have HK := hide (Blk.new w #[.int .i64 out, .slice a len c, .int .u8 (n : Int), .slice pa plen pc] 49)
  have HB := hide (below1L w (.cells #[.int .i64 out, .slice a len c, .int .u8 (n : Int), .slice pa plen pc] 49))
  go_enter (Tri.at (by decide) Try.func7), Try.ntmps7
  go_wp2_with fail
  refine (unhide HA _).mono ?_
  rintro z w1 ⟨rfl, hb⟩
  replace HK := hide ((unhide HK).keep hb)
  replace HB := hide (below_via (unhide HB) hb)
  have q0 := (unhide HK).at 0 (.int .i64 out) rfl
  have q1 := (unhide HK).at 1 (.slice a len c) rfl
  have q2 := (unhide HK).at 2 (.int .u8 (n : Int)) rfl
  have q3 := (unhide HK).at 3 (.slice pa plen pc) rfl
  clear hb HA
  go_wp2_with fail
  go_quiet (fail)
  clear q0 q1 q2 q3 HK
  obtain ⟨w2, hw2⟩ : ∃ x, x = w1.drewN nq := ⟨_, rfl⟩
  have HB2 : Hid (Below w.heap.size w w2) := hide (by rw [hw2]; exact below_drewN (unhide HB) _)
  rw [← hw2]
  clear hw2 HB
  go_wp2_with fail
  go_ret
  exact ⟨rfl, unhide HB2⟩
theorem le_b (out : Int) (a pa : Option Addr) (len c n plen pc : Nat) (w : World) (d1 : decide ((60 : Int) < (len : Int)) = false) (d2 : decide ((60 : Int) < (n : Int)) = true) : EndsE w out (.slice a len c) n (.slice pa plen pc) := by
  unfold EndsE
  have HA := hide alive_any
  unfold Alive at HA
  have HK := hide (Blk.new w #[.int .i64 out, .slice a len c, .int .u8 (n : Int), .slice pa plen pc] 49)
  have HB := hide (below1L w (.cells #[.int .i64 out, .slice a len c, .int .u8 (n : Int), .slice pa plen pc] 49))
  go_enter (Tri.at (by decide) Try.func7), Try.ntmps7
  go_wp2_with fail
  refine (unhide HA _).mono ?_
  rintro z w1 ⟨rfl, hb⟩
  replace HK := hide ((unhide HK).keep hb)
  replace HB := hide (below_via (unhide HB) hb)
  have q0 := (unhide HK).at 0 (.int .i64 out) rfl
  have q1 := (unhide HK).at 1 (.slice a len c) rfl
  have q2 := (unhide HK).at 2 (.int .u8 (n : Int)) rfl
  have q3 := (unhide HK).at 3 (.slice pa plen pc) rfl
  clear hb HA
  go_wp2_with fail
  go_quiet (fail)
  clear q0 q1 q2 q3 HK
  obtain ⟨w2, hw2⟩ : ∃ x, x = w1.drewN nq := ⟨_, rfl⟩
  have HB2 : Hid (Below w.heap.size w w2) := hide (by rw [hw2]; exact below_drewN (unhide HB) _)
  rw [← hw2]
  clear hw2 HB
  go_wp2_with fail
  go_ret
  exact ⟨rfl, unhide HB2⟩
theorem le_c (out : Int) (a pa : Option Addr) (len c n plen pc : Nat) (w : World) (d1 : decide ((60 : Int) < (len : Int)) = false) (d2 : decide ((60 : Int) < (n : Int)) = false) (d3 : decide ((20 : Int) < (plen : Int)) = true) : EndsE w out (.slice a len c) n (.slice pa plen pc) := by
  unfold EndsE
  have HA := hide alive_any
  unfold Alive at HA
  have HK := hide (Blk.new w #[.int .i64 out, .slice a len c, .int .u8 (n : Int), .slice pa plen pc] 49)
  have HB := hide (below1L w (.cells #[.int .i64 out, .slice a len c, .int .u8 (n : Int), .slice pa plen pc] 49))
  go_enter (Tri.at (by decide) Try.func7), Try.ntmps7
  go_wp2_with fail
  refine (unhide HA _).mono ?_
  rintro z w1 ⟨rfl, hb⟩
  replace HK := hide ((unhide HK).keep hb)
  replace HB := hide (below_via (unhide HB) hb)
  have q0 := (unhide HK).at 0 (.int .i64 out) rfl
  have q1 := (unhide HK).at 1 (.slice a len c) rfl
  have q2 := (unhide HK).at 2 (.int .u8 (n : Int)) rfl
  have q3 := (unhide HK).at 3 (.slice pa plen pc) rfl
  clear hb HA
  go_wp2_with fail
  go_quiet (fail)
  clear q0 q1 q2 q3 HK
  obtain ⟨w2, hw2⟩ : ∃ x, x = w1.drewN nq := ⟨_, rfl⟩
  have HB2 : Hid (Below w.heap.size w w2) := hide (by rw [hw2]; exact below_drewN (unhide HB) _)
  rw [← hw2]
  clear hw2 HB
  go_wp2_with fail
  go_ret
  exact ⟨rfl, unhide HB2⟩
set_option maxHeartbeats 8000000 in
set_option maxRecDepth 20000 in
theorem le_go (out : Int) (a pa : Option Addr) (len c n plen pc : Nat) (l ps : List Int) (w : World) (d1 : decide ((60 : Int) < (len : Int)) = false) (d2 : decide ((60 : Int) < (n : Int)) = false) (d3 : decide ((20 : Int) < (plen : Int)) = false) (hl : l.length = len) (hpl : ps.length = plen) (ho : In64 out) (hR : Row w (.slice a len c) l) (hS : Sl a len c) (hU : RowU w (.slice pa plen pc) ps) : EndsE w out (.slice a len c) n (.slice pa plen pc) := by
  unfold EndsE
  have HA := hide alive_any
  unfold Alive at HA
  have HK := hide (Blk.new w #[.int .i64 out, .slice a len c, .int .u8 (n : Int), .slice pa plen pc] 49)
  have HB := hide (below1L w (.cells #[.int .i64 out, .slice a len c, .int .u8 (n : Int), .slice pa plen pc] 49))
  have n1 : len ≤ 60 := by have := of_decide_eq_false d1; omega
  have n2 : n ≤ 60 := by have := of_decide_eq_false d2; omega
  have n3 : plen ≤ 20 := by have := of_decide_eq_false d3; omega
  have HR := hide hR
  have HU := hide hU
  have HL := hide hl
  have HPL := hide hpl
  have HIn := hide (row_in hR)
  have HSl := hide hS
  have HS : Hid (∀ (x : Int) (W : World) (v : Value) (m : List Int), In64 x → Row W v m → SolA9 W x v m) := hide (fun x W v m hx h => s9_any hx h)
  unfold SolA9 at HS
  obtain ⟨o1, o2⟩ := ho
  clear hR hS hU hl hpl
  go_enter (Tri.at (by decide) Try.func7), Try.ntmps7
  go_wp2_with fail
  refine (unhide HA _).mono ?_
  rintro z w1 ⟨rfl, hb⟩
  replace HK := hide ((unhide HK).keep hb)
  replace HB := hide (below_via (unhide HB) hb)
  have q0 := (unhide HK).at 0 (.int .i64 out) rfl
  have q1 := (unhide HK).at 1 (.slice a len c) rfl
  have q2 := (unhide HK).at 2 (.int .u8 (n : Int)) rfl
  have q3 := (unhide HK).at 3 (.slice pa plen pc) rfl
  clear hb HA
  go_wp2_with fail
  go_quiet (fail)
  clear q0 q1 q2 q3 HK
  obtain ⟨w2, hw2⟩ : ∃ x, x = w1.drewN nq := ⟨_, rfl⟩
  have HB2 : Hid (Below w.heap.size w w2) := hide (by rw [hw2]; exact below_drewN (unhide HB) _)
  rw [← hw2]
  clear hw2 HB
  go_wp2_with fail
  refine (unhide HS out _ _ _ ⟨o1, o2⟩ ((unhide HR).below (unhide HB2) (Nat.le_refl _))).mono ?_
  rintro z w3 ⟨r, e, hE, rfl, hb⟩
  replace HB2 := hide (below_via (unhide HB2) hb)
  have HE := hide hE
  clear hb hE
  have HG := hide (Grow.empty w3 w3 (Below.refl _ _))
  have HFr : Hid (From (w3.alloc (.cells #[] 2)) (.slice a len c) l) := hide (from_row (((unhide HR).below (unhide HB2) (Nat.le_refl _)).alloc _) (unhide HSl).2)
  go_wp2_with (refine list_from rfl (.tmp 47) (.tmp 48) rfl _ _ _ _ [] l (unhide HG) (unhide HFr) (by simp [Act.eval, Act.put]) (by simp [Act.eval, Act.put]) (by rw [unhide HL]; simp; omega) (unhide HIn) ?_)
  intro v1 W1 hG1
  have HG1 := hide hG1
  clear hG1 HG HFr
  go_wp2_with (refine list_zeros rfl (.tmp 49) (.tmp 50) rfl _ _ _ ([] ++ l) n (unhide HG1) (by simp [Act.eval, Act.put]) (by simp [Act.eval, Act.put]) (by omega) (by rw [List.nil_append, unhide HL]; omega) ?_)
  intro v2 W2 hG2
  have HB3 := hide (below_via (unhide HB2) hG2.below)
  have HR2 : Hid (Row W2 v2 (l ++ List.replicate n 0)) := hide (by
    have h := hG2.row (by simp [unhide HL, maxLen]; omega)
    exact h)
  clear hG2 HG1 HB2
  go_wp2_with fail
  refine (unhide HS out _ _ _ ⟨o1, o2⟩ (unhide HR2)).mono ?_
  rintro z w4 ⟨s, f, hF, rfl, hb⟩
  replace HB3 := hide (below_via (unhide HB3) hb)
  have hes := eir_zeros (by rw [unhide HL]; omega) (unhide HE) hF
  obtain ⟨rfl, rfl⟩ := hes
  clear hb hF HR2 HE
  have HPs : Hid (∀ j, j < plen → 0 ≤ ps.getD j 0 ∧ ps.getD j 0 ≤ 65535) := hide (fun j hj => by
    rcases unhide HU with ⟨_, _, _, e⟩ | ⟨b, o, c', e, _, _, h4⟩
    · rw [← unhide HPL, e] at hj; exact absurd hj (Nat.not_lt_zero j)
    · exact h4 _ (by rw [show ps.getD j 0 = ps[j]'(by rw [unhide HPL]; exact hj) by simp [List.getD, unhide HPL, hj]]; exact List.getElem_mem _))
  have HAll : Hid (∀ q ∈ ps, 0 ≤ q ∧ q ≤ 65535) := hide (fun q hq => by
    obtain ⟨j, hj, rfl⟩ := List.getElem_of_mem hq
    have := unhide HPs j (by rw [← unhide HPL]; exact hj)
    simpa [List.getD, hj] using this)
  have HU4 := hide ((unhide HU).later (unhide HB3))
  clear HU
  by_cases hz0 : 0 < len
  · have y0 : decide ((0 : Int) < (len : Int)) = true := decide_eq_true (by omega)
    go_wp2_with fail
    go_loopw [11, 12, 70] (fun sm ow i wr => ∃ (k : Nat), k ≤ plen ∧ i = .int .i64 k ∧ sm = .int .i64 (summed ((ps.take k).map part)) ∧ Hid (Grow 2 w4 wr ow ((ps.take k).map part))) (fun _ _ i _ => plen - (intOf i).toNat)
    case atStart => exact ⟨0, Nat.zero_le _, rfl, rfl, hide (Grow.nil 2 w4 w4 (Below.refl _ _))⟩
    case round =>
      obtain ⟨k, hk, rfl, rfl, HGk⟩ := hrel
      have hsb := summed_bd (parts_bd (ps := ps.take k) (fun q hq => unhide HAll q (List.mem_of_mem_take hq)))
      have hsl : ((ps.take k).map part).length = k := by simp [unhide HPL]; omega
      rw [hsl] at hsb
      obtain ⟨sb1, sb2⟩ := hsb
      by_cases hlt : k < plen
      · have k1 : (k : Int) < (plen : Int) := by omega
        obtain ⟨pb, po, rfl, d0⟩ : ∃ pb po, pa = some ⟨pb, po, none⟩ ∧ wr.cell? ⟨pb, po + k, none⟩ = some (.int .u16 (ps.getD k 0)) := by
          rcases unhide HU4 with ⟨_, _, _, e⟩ | ⟨b, o, c', e, _, h3, _⟩
          · rw [← unhide HPL, e] at hlt; exact absurd hlt (Nat.not_lt_zero k)
          · injection e with e1
            have h5 := h3 k (by rw [unhide HPL]; exact hlt)
            exact ⟨b, o, e1, ((unhide HGk).below.cell (p := ⟨b, o + k, none⟩) (lt_of_cell h5)).trans h5⟩
        obtain ⟨p1, p2⟩ := unhide HPs k hlt
        have HNx : Hid ((ps.take (k + 1)).map part = (ps.take k).map part ++ [ps.getD k 0 * 1000 + 1000000]) := hide (by
          have hk' : k < ps.length := by rw [unhide HPL]; exact hlt
          rw [List.take_add_one, List.getElem?_eq_getElem hk', List.map_append]
          simp [List.getD, hk', part])
        have HSm : Hid (summed ((ps.take (k + 1)).map part) = summed ((ps.take k).map part) + (ps.getD k 0 * 1000 + 1000000)) := hide (by rw [unhide HNx, summed_app])
        have HLn : Hid (((ps.take k).map part).length ≤ 1000000) := hide (by rw [hsl]; omega)
        clear hsl
        generalize hLL : (ps.take k).map part = LL at *
        replace hLL := hide hLL
        generalize ps.getD k 0 = p at *
        generalize summed LL = SS at *
        go_wp2_with (refine push_law 2 22 (Tri.und Try.underlying22) info2 rfl (.tmp 74) (.tmp 79) rfl w4 wr _ LL (p * 1000 + 1000000) (unhide HGk) (by simp [Act.eval, Act.put]) (by simp [Act.eval, Act.put]) (unhide HLn) ⟨by omega, by omega⟩ ?_)
        intro v5 W5 hG5
        have HG5 := hide hG5
        clear hG5
        go_wp2_with fail
        go_roundw
        case rel => exact ⟨k + 1, by omega, by go_num, by rw [unhide HSm], by rw [unhide HNx]; exact HG5⟩
        case measure => simp [intOf]; omega
      · have ek : k = plen := by omega
        subst ek
        have HB5 := hide (below_via (unhide HB3) (unhide HGk).below)
        by_cases hp0 : k = 0
        · have y1 : ((k : Int) == 0) = true := by simpa using hp0
          go_wp2_with fail
          go_ret
          exact ⟨rfl, unhide HB5⟩
        · have y1 : ((k : Int) == 0) = false := by
            have : ¬ (k : Int) = 0 := by omega
            simpa using this
          have HFl : Hid (∀ r g, Eir (summed ((ps.take k).map part)) ((ps.take k).map part) r g → g = 0 ∧ 0 ≤ r ∧ r < 1000000) := hide (fun r g h => flat_eir (parts_bd (fun q hq => unhide HAll q (List.mem_of_mem_take hq))) (by rw [hsl]; omega) (by rw [hsl]; omega) h)
          have HRk := hide ((unhide HGk).row (by rw [hsl]; unfold maxLen; omega))
          clear hsl
          generalize (ps.take k).map part = LL at *
          generalize summed LL = SS at *
          go_wp2_with fail
          refine (unhide HS SS _ _ _ ⟨by omega, by omega⟩ (unhide HRk)).mono ?_
          rintro z w6 ⟨rr, gg, hQ, rfl, hb⟩
          have HB6 := hide (below_via (unhide HB5) hb)
          obtain ⟨rfl, z1, z2⟩ := unhide HFl rr gg hQ
          clear hb hQ
          have y2 : decide (0 ≤ rr) = true := decide_eq_true z1
          have y3 : decide (rr < 1000000) = true := decide_eq_true z2
          go_wp2_with fail
          go_ret
          exact ⟨rfl, unhide HB6⟩
  · have y0 : decide ((0 : Int) < (len : Int)) = false := decide_eq_false (by omega)
    go_wp2_with fail
    go_loopw [11, 12, 70] (fun sm ow i wr => ∃ (k : Nat), k ≤ plen ∧ i = .int .i64 k ∧ sm = .int .i64 (summed ((ps.take k).map part)) ∧ Hid (Grow 2 w4 wr ow ((ps.take k).map part))) (fun _ _ i _ => plen - (intOf i).toNat)
    case atStart => exact ⟨0, Nat.zero_le _, rfl, rfl, hide (Grow.nil 2 w4 w4 (Below.refl _ _))⟩
    case round =>
      obtain ⟨k, hk, rfl, rfl, HGk⟩ := hrel
      have hsb := summed_bd (parts_bd (ps := ps.take k) (fun q hq => unhide HAll q (List.mem_of_mem_take hq)))
      have hsl : ((ps.take k).map part).length = k := by simp [unhide HPL]; omega
      rw [hsl] at hsb
      obtain ⟨sb1, sb2⟩ := hsb
      by_cases hlt : k < plen
      · have k1 : (k : Int) < (plen : Int) := by omega
        obtain ⟨pb, po, rfl, d0⟩ : ∃ pb po, pa = some ⟨pb, po, none⟩ ∧ wr.cell? ⟨pb, po + k, none⟩ = some (.int .u16 (ps.getD k 0)) := by
          rcases unhide HU4 with ⟨_, _, _, e⟩ | ⟨b, o, c', e, _, h3, _⟩
          · rw [← unhide HPL, e] at hlt; exact absurd hlt (Nat.not_lt_zero k)
          · injection e with e1
            have h5 := h3 k (by rw [unhide HPL]; exact hlt)
            exact ⟨b, o, e1, ((unhide HGk).below.cell (p := ⟨b, o + k, none⟩) (lt_of_cell h5)).trans h5⟩
        obtain ⟨p1, p2⟩ := unhide HPs k hlt
        have HNx : Hid ((ps.take (k + 1)).map part = (ps.take k).map part ++ [ps.getD k 0 * 1000 + 1000000]) := hide (by
          have hk' : k < ps.length := by rw [unhide HPL]; exact hlt
          rw [List.take_add_one, List.getElem?_eq_getElem hk', List.map_append]
          simp [List.getD, hk', part])
        have HSm : Hid (summed ((ps.take (k + 1)).map part) = summed ((ps.take k).map part) + (ps.getD k 0 * 1000 + 1000000)) := hide (by rw [unhide HNx, summed_app])
        have HLn : Hid (((ps.take k).map part).length ≤ 1000000) := hide (by rw [hsl]; omega)
        clear hsl
        generalize hLL : (ps.take k).map part = LL at *
        replace hLL := hide hLL
        generalize ps.getD k 0 = p at *
        generalize summed LL = SS at *
        go_wp2_with (refine push_law 2 22 (Tri.und Try.underlying22) info2 rfl (.tmp 74) (.tmp 79) rfl w4 wr _ LL (p * 1000 + 1000000) (unhide HGk) (by simp [Act.eval, Act.put]) (by simp [Act.eval, Act.put]) (unhide HLn) ⟨by omega, by omega⟩ ?_)
        intro v5 W5 hG5
        have HG5 := hide hG5
        clear hG5
        go_wp2_with fail
        go_roundw
        case rel => exact ⟨k + 1, by omega, by go_num, by rw [unhide HSm], by rw [unhide HNx]; exact HG5⟩
        case measure => simp [intOf]; omega
      · have ek : k = plen := by omega
        subst ek
        have HB5 := hide (below_via (unhide HB3) (unhide HGk).below)
        by_cases hp0 : k = 0
        · have y1 : ((k : Int) == 0) = true := by simpa using hp0
          go_wp2_with fail
          go_ret
          exact ⟨rfl, unhide HB5⟩
        · have y1 : ((k : Int) == 0) = false := by
            have : ¬ (k : Int) = 0 := by omega
            simpa using this
          have HFl : Hid (∀ r g, Eir (summed ((ps.take k).map part)) ((ps.take k).map part) r g → g = 0 ∧ 0 ≤ r ∧ r < 1000000) := hide (fun r g h => flat_eir (parts_bd (fun q hq => unhide HAll q (List.mem_of_mem_take hq))) (by rw [hsl]; omega) (by rw [hsl]; omega) h)
          have HRk := hide ((unhide HGk).row (by rw [hsl]; unfold maxLen; omega))
          clear hsl
          generalize (ps.take k).map part = LL at *
          generalize summed LL = SS at *
          go_wp2_with fail
          refine (unhide HS SS _ _ _ ⟨by omega, by omega⟩ (unhide HRk)).mono ?_
          rintro z w6 ⟨rr, gg, hQ, rfl, hb⟩
          have HB6 := hide (below_via (unhide HB5) hb)
          obtain ⟨rfl, z1, z2⟩ := unhide HFl rr gg hQ
          clear hb hQ
          have y2 : decide (0 ≤ rr) = true := decide_eq_true z1
          have y3 : decide (rr < 1000000) = true := decide_eq_true z2
          go_wp2_with fail
          go_ret
          exact ⟨rfl, unhide HB6⟩
theorem lee_any {w : World} {out : Int} {a pa : Option Addr} {len c n plen pc : Nat} {l ps : List Int} (ho : In64 out) (hR : Row w (.slice a len c) l) (hS : Sl a len c) (hU : RowU w (.slice pa plen pc) ps) : EndsE w out (.slice a len c) n (.slice pa plen pc) := by
  have hn : l.length = len := by
    obtain ⟨a', c', e⟩ := row_slice hR
    injection e with _ e
    exact e.symm
  have hp : ps.length = plen := by
    rcases hU with ⟨_, _, e, e2⟩ | ⟨_, _, _, e, _⟩
    · injection e with _ e
      rw [e2, e]
      rfl
    · injection e with _ e
      exact e.symm
  by_cases h1 : 60 < len
  · exact le_a out a pa len c n plen pc w (decide_eq_true (by omega))
  have d1 : decide ((60 : Int) < (len : Int)) = false := decide_eq_false (by omega)
  by_cases h2 : 60 < n
  · exact le_b out a pa len c n plen pc w d1 (decide_eq_true (by omega))
  have d2 : decide ((60 : Int) < (n : Int)) = false := decide_eq_false (by omega)
  by_cases h3 : 20 < plen
  · exact le_c out a pa len c n plen pc w d1 d2 (decide_eq_true (by omega))
  exact le_go out a pa len c n plen pc l ps w d1 d2 (decide_eq_false (by omega)) hn hp ho hR hS hU
theorem rowU_open {W : World} {x : Addr} {len cap : Nat} {zs : List Int} (hl : len ≤ cap) (hz : zs.length = cap)
    (hcell : ∀ i, i < zs.length → W.cell? (x.add i) = some (.int .u16 (zs.getD i 0))) (hwz : ∀ n ∈ zs, (Lit.int .u16 n).wf = true) : ∃ ys : List Int, RowU W (.slice (some x) len cap) ys := by
  by_cases h0 : len = 0
  · subst h0; exact ⟨[], Or.inl ⟨_, cap, rfl, rfl⟩⟩
  · obtain ⟨b, off, rfl, hc⟩ := ints_at hcell (by omega)
    have hlen : (zs.take len).length = len := by simp; omega
    refine ⟨zs.take len, Or.inr ⟨b, off, cap, by rw [hlen], by omega, fun j hj => ?_, fun z hz => ?_⟩⟩
    · rw [hlen] at hj
      rw [hc j (by omega)]
      congr 2
      simp [List.getD, hj]
    · have hw := hwz z (List.mem_of_mem_take hz)
      simp [Lit.wf, IntKind.min, IntKind.max, IntKind.signed, IntKind.bits] at hw
      omega
end Go.Proofs.Ytlaaomhcilnbkaa.Mn
