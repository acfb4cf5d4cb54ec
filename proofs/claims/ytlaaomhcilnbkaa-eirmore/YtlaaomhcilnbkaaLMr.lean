/- EirMore, lone. -/
import Derived.Test.YtlaaomhcilnbkaaLMp
import Derived.Test.YtlaaomhcilnbkaaLTk
import Derived.Test.YtlaaomhcilnbkaaLSt
set_option linter.unusedVariables false
set_option linter.unusedSimpArgs false
set_option linter.unusedSectionVars false
namespace Go.Proofs.Ytlaaomhcilnbkaa.Mn
open Go.RowKit
attribute [local simp] Tri.typeInfo Tri.sizeOf Tri.underlying Tri.runUnderlying Tri.isAgg Tri.zeroValue Tri.depth Tri.stoodInHeld Tri.eqGuardType Tri.call16 Tri.call3 Tri.call4 Tri.call5 Tri.call6 Tri.call7 Tri.call8 Tri.call9 Tri.call10 Tri.call11 Tri.call12 Tri.call13 Tri.call14 Tri.call15 Tri.call17 Tri.call18 Tri.call19 Tri.call20 Tri.call21 Tri.call22 Tri.call23 Tri.call24 Tri.call25 Tri.call26 Tri.call27 Tri.call28 Tri.call29 Tri.call30 Tri.call31 Tri.call32 Tri.call33 Tri.call34 Tri.call35 Tri.call36 Tri.call37 Tri.call38 Tri.call39 Tri.call40 Tri.call41 Tri.call42 Tri.call43 Tri.call44 Tri.call45 Tri.call46 Tri.call47 Tri.call48 Tri.call49 Tri.call50 Tri.call51 Tri.call52 Tri.call53 Tri.call54 Tri.call55 Tri.call56 Tri.call57 Tri.call58 Tri.call59 Tri.call60 Tri.call61 Tri.call62 Tri.call63 Tri.call64 Tri.call65 Tri.call66 Tri.call67 Tri.call68 Tri.call69 Tri.call70 Tri.call71 Tri.call72 Tri.call73 Tri.call74 Tri.call75 Tri.call76 Tri.call77 Tri.call78 Tri.call79 Tri.call80 Tri.call81 Tri.call82 Tri.call83 Tri.call84 Tri.call85 Tri.call86 Tri.call87 Tri.call88 Tri.call89 Tri.call90 Tri.call91 Tri.call92 Tri.call93 Tri.call94 Tri.call95 Tri.call96 Tri.call97 Tri.call98 Tri.call99 Tri.call100 Tri.call101 Tri.call102 Tri.call103 Tri.call104 Tri.call105 Tri.call106 Tri.call107 Tri.call108 Tri.call109 Tri.call110 Tri.call111 Tri.call112 Tri.call113 Tri.call114 Tri.call115 Tri.call116 Tri.call117 Tri.call118 Tri.call119 Tri.call120 Tri.call121 Tri.call122 Tri.call123 Tri.call124 Tri.call125 Tri.call126 Tri.call127 Tri.call128 Tri.call129 Tri.call130 Tri.call131 Tri.call132 Tri.call133 Tri.call134 Tri.call135 Tri.call136 Tri.call137 Tri.call138 Tri.call139 Tri.call140 Tri.call141 Tri.call142 Tri.call143 Tri.call144 Tri.call145 Tri.call146 Tri.call147 Tri.call148 Tri.call149 Tri.call150 Tri.call151 Tri.call152 Tri.call153 Tri.call154 Tri.call155 Tri.call157 Tri.call158 Tri.call159 Tri.call160 Tri.call161 Tri.call162 Tri.call163 Tri.call165 Tri.call166 Tri.call167 Tri.call183 Tri.call184
def MoreL (w : World) (out more : Int) (v : Value) (T : Nat) : Prop := Calls (Tri Try.prog) 5 #[.agg #[.int .i64 out, .int .i64 more, v, .int .u8 (T : Int)]] w fun z w' => z = .returned (.bool true) ∧ Below w.heap.size w w'
theorem lm_skip (out more : Int) (a : Option Addr) (len c T : Nat) (w : World) (h : 60 < len ∨ len = 0) : MoreL w out more (.slice a len c) T := by
  unfold MoreL
  have HA := hide alive_any
  unfold Alive at HA
  have HK := hide (Blk.new w #[.int .i64 out, .int .i64 more, .slice a len c, .int .u8 (T : Int)] 34)
  have HB := hide (below1L w (.cells #[.int .i64 out, .int .i64 more, .slice a len c, .int .u8 (T : Int)] 34))
  rcases h with h | h
  · have d : decide ((60 : Int) < (len : Int)) = true := decide_eq_true (by omega)
    go_enter (Tri.at (by decide) Try.func5), Try.ntmps5
    go_wp2_with fail
    refine (unhide HA _).mono ?_
    rintro z w1 ⟨rfl, hb⟩
    replace HK := hide ((unhide HK).keep hb)
    replace HB := hide (below_via (unhide HB) hb)
    have q0 := (unhide HK).at 0 (.int .i64 out) rfl
    have q1 := (unhide HK).at 1 (.int .i64 more) rfl
    have q2 := (unhide HK).at 2 (.slice a len c) rfl
    have q3 := (unhide HK).at 3 (.int .u8 (T : Int)) rfl
    clear hb HA
    go_wp2_with fail
    go_quiet (fail)
    go_wp2_with fail
    go_ret
    exact ⟨rfl, below_drewN (unhide HB) _⟩
  · subst h
    go_enter (Tri.at (by decide) Try.func5), Try.ntmps5
    go_wp2_with fail
    refine (unhide HA _).mono ?_
    rintro z w1 ⟨rfl, hb⟩
    replace HK := hide ((unhide HK).keep hb)
    replace HB := hide (below_via (unhide HB) hb)
    have q0 := (unhide HK).at 0 (.int .i64 out) rfl
    have q1 := (unhide HK).at 1 (.int .i64 more) rfl
    have q2 := (unhide HK).at 2 (.slice a 0 c) rfl
    have q3 := (unhide HK).at 3 (.int .u8 (T : Int)) rfl
    clear hb HA
    go_wp2_with fail
    go_quiet (fail)
    go_wp2_with fail
    go_ret
    exact ⟨rfl, below_drewN (unhide HB) _⟩
set_option maxHeartbeats 8000000 in
set_option maxRecDepth 20000 in
theorem lm_m (out more : Int) (fb fo len c T : Nat) (l : List Int) (w : World) (hl : l.length = len) (h1 : 0 < len) (h2 : len ≤ 60) (hT : T ≤ 255) (ho : In64 out) (m1 : ¬ more < 0) (m2 : more ≤ 1000000) (hR : Row w (.slice (some ⟨fb, fo, none⟩) len c) l) : MoreL w out more (.slice (some ⟨fb, fo, none⟩) len c) T := by
  unfold MoreL
  have HA := hide alive_any
  unfold Alive at HA
  have HK := hide (Blk.new w #[.int .i64 out, .int .i64 more, .slice (some ⟨fb, fo, none⟩) len c, .int .u8 (T : Int)] 34)
  have HB := hide (below1L w (.cells #[.int .i64 out, .int .i64 more, .slice (some ⟨fb, fo, none⟩) len c, .int .u8 (T : Int)] 34))
  have HR := hide hR
  have HO := hide ho
  have HL := hide hl
  have HIn := hide (row_in hR)
  obtain ⟨o1, o2⟩ := ho
  clear hR hl
  have d : decide ((60 : Int) < (len : Int)) = false := decide_eq_false (by omega)
  have d0 : ((len : Int) == 0) = false := by
    have : ¬ (len : Int) = 0 := by omega
    simpa using this
  have HS : Hid (∀ (x : Int) w1, In64 x → Below w.heap.size w w1 → SolA9 w1 x (.slice (some ⟨fb, fo, none⟩) len c) l) := hide (fun x w1 hx hb => s9_any hx ((unhide HR).below hb (Nat.le_refl _)))
  unfold SolA9 at HS
  go_enter (Tri.at (by decide) Try.func5), Try.ntmps5
  go_wp2_with fail
  refine (unhide HA _).mono ?_
  rintro z w1 ⟨rfl, hb⟩
  replace HK := hide ((unhide HK).keep hb)
  replace HB := hide (below_via (unhide HB) hb)
  have q0 := (unhide HK).at 0 (.int .i64 out) rfl
  have q1 := (unhide HK).at 1 (.int .i64 more) rfl
  have q2 := (unhide HK).at 2 (.slice (some ⟨fb, fo, none⟩) len c) rfl
  have q3 := (unhide HK).at 3 (.int .u8 (T : Int)) rfl
  clear hb HA
  go_wp2_with fail
  go_quiet (fail)
  clear q0 q1 q2 q3 HK
  obtain ⟨w2, hw2⟩ : ∃ x, x = w1.drewN nq := ⟨_, rfl⟩
  have HB2 : Hid (Below w.heap.size w w2) := hide (by rw [hw2]; exact below_drewN (unhide HB) _)
  rw [← hw2]
  clear hw2 HB
  go_wp2_with fail
  refine (unhide HS out _ ⟨o1, o2⟩ (unhide HB2)).mono ?_
  rintro z w3 ⟨r, e, hE, rfl, hb⟩
  replace HB2 := hide (below_via (unhide HB2) hb)
  clear hb
  by_cases he : e = 0
  case neg =>
    have t0 : (e != 0) = true := by simpa using he
    clear hE he HS
    go_wp2_with fail
    go_ret
    exact ⟨rfl, unhide HB2⟩
  subst he
  have t0 : ((0 : Int) != 0) = false := rfl
  have HE := hide hE
  obtain ⟨u1, u2⟩ : 1 ≤ out ∧ out ≤ 10000000000000 := by
    rcases hE with ⟨_, _, h⟩ | ⟨h1, _⟩
    · cases h
    · exact ⟨(maySo_yes h1).lo, (maySo_yes h1).hi⟩
  clear hE
  have HS2 := hide (fun w1 hb => unhide HS (out + more) w1 ⟨by omega, by omega⟩ hb)
  go_wp2_with fail
  refine (unhide HS2 _ (unhide HB2)).mono ?_
  rintro z w4 ⟨s, f, hF, rfl, hb⟩
  replace HB2 := hide (below_via (unhide HB2) hb)
  have hcase := more_out (unhide HE) (by omega) hF
  clear hb hF HS2 HS
  have HG := hide (Grow.empty w4 w4 (Below.refl _ _))
  have HFr : Hid (From (w4.alloc (.cells #[] 2)) (.slice (some ⟨fb, fo, none⟩) len c) l) := hide (from_row (((unhide HR).below (unhide HB2) (Nat.le_refl _)).alloc _) (fun e => by cases e))
  have HSo : Hid (∀ (W : World) (v : Value) (m : List Int), Row W v m → SolA9 W out v m) := hide (fun W v m h => s9_any (unhide HO) h)
  unfold SolA9 at HSo
  have hK : T % len < len := Nat.mod_lt _ h1
  have hTK : (T : Int) % (len : Int) = ((T % len : Nat) : Int) := (Int.natCast_emod T len).symm
  generalize T % len = K at *
  have HKl : Hid (K < l.length) := hide (by rw [unhide HL]; exact hK)
  have kk : (K : Int) < (len : Int) := by omega
  have HAm : Hid (0 ≤ l.getD K 0 ∧ l.getD K 0 ≤ 10000000000000) := hide (by
    rcases unhide HE with ⟨_, _, h⟩ | ⟨h1, _⟩
    · cases h
    · have h3 := (maySo_yes h1).amt (l.getD K 0) (by rw [show l.getD K 0 = l[K]'(unhide HKl) by simp [List.getD, unhide HKl]]; exact List.getElem_mem _)
      exact h3)
  have tail : ∀ (B : Bool) (W : World), True := fun _ _ => trivial
  clear tail
  rcases hcase with ⟨hf, hsr⟩ | hf | ⟨hf, hbig⟩
  all_goals
    subst hf
    first
      | (have x1 : decide (r < s) = false := decide_eq_false (by omega); clear hsr)
      | (have x1 : decide (out + more ≤ 10000000000000) = false := decide_eq_false (by omega); clear hbig)
      | skip
    go_wp2_with (refine list_from rfl (.tmp 72) (.tmp 73) rfl _ _ _ _ [] l (unhide HG) (unhide HFr) (by simp [Act.eval, Act.put]) (by simp [Act.eval, Act.put]) (by rw [unhide HL]; simp; omega) (unhide HIn) ?_)
    intro v W hG
    obtain ⟨g, cap, cur, rfl, hg1, hg2, hgr⟩ := own_open hG (fun e => by have := unhide HKl; rw [e] at this; exact absurd this (Nat.not_lt_zero _)) (by rw [unhide HL]; omega)
    rw [unhide HL] at hgr
    rw [unhide HL]
    have g1 := row_cell hgr (unhide HKl)
    rw [Nat.zero_add] at g1
    have g2 : W.frozen? ⟨g, K, none⟩ = false := frozen_of_row W g K _ _ hg2
    obtain ⟨y1, y2⟩ := unhide HAm
    have HRow : Hid (Row (W.setCell ⟨g, K, none⟩ (.int .i64 (l.getD K 0 + more))) (.slice (some ⟨g, 0, none⟩) len cap) (l.set K (l.getD K 0 + more))) := hide (by
      have h := own_set (unhide HKl) (y := l.getD K 0 + more) ⟨by omega, by omega⟩ hg2 (by rw [unhide HL]; exact hgr)
      rw [unhide HL] at h
      exact h)
    have HBl : Hid (Below w.heap.size w (W.setCell ⟨g, K, none⟩ (.int .i64 (l.getD K 0 + more)))) := hide ((below_via (unhide HB2) hG.below).setCell (p := ⟨g, K, none⟩) (Nat.le_trans (unhide HB2).size hg1) _)
    have HIn2 := hide (fun s f (h : Eir out (l.set K (l.getD K 0 + more)) s f) => more_in (unhide HE) (by omega) (unhide HKl) h)
    clear hG hg1 hg2 hgr HFr HG
    generalize l.set K (l.getD K 0 + more) = lk at *
    generalize l.getD K 0 = x at *
    go_wp2_with fail
    refine (unhide HSo _ _ _ (unhide HRow)).mono ?_
    rintro z w5 ⟨t, q, hQ, rfl, hb⟩
    have HB5 := hide (below_via (unhide HBl) hb)
    have hq := unhide HIn2 t q hQ
    clear hb hQ HIn2 HSo HRow HBl
    by_cases hq0 : q = 0
    · subst hq0
      have hrt : r ≤ t := hq.resolve_left (fun h => h rfl)
      have x2 : decide (r ≤ t) = true := decide_eq_true hrt
      go_wp2_with fail
      go_ret
      exact ⟨rfl, unhide HB5⟩
    · have x2 : (q != 0) = true := by simpa using hq0
      go_wp2_with fail
      go_ret
      exact ⟨rfl, unhide HB5⟩
set_option maxHeartbeats 8000000 in
set_option maxRecDepth 20000 in
theorem lm_x (out more : Int) (fb fo len c T : Nat) (l : List Int) (w : World) (hl : l.length = len) (h1 : 0 < len) (h2 : len ≤ 60) (hT : T ≤ 255) (ho : In64 out) (m1 : ¬ more < 0) (m2 : 1000000 < more) (hR : Row w (.slice (some ⟨fb, fo, none⟩) len c) l) : MoreL w out more (.slice (some ⟨fb, fo, none⟩) len c) T := by
  unfold MoreL
  have HA := hide alive_any
  unfold Alive at HA
  have HK := hide (Blk.new w #[.int .i64 out, .int .i64 more, .slice (some ⟨fb, fo, none⟩) len c, .int .u8 (T : Int)] 34)
  have HB := hide (below1L w (.cells #[.int .i64 out, .int .i64 more, .slice (some ⟨fb, fo, none⟩) len c, .int .u8 (T : Int)] 34))
  have HR := hide hR
  have HO := hide ho
  have HL := hide hl
  have HIn := hide (row_in hR)
  obtain ⟨o1, o2⟩ := ho
  clear hR hl
  have d : decide ((60 : Int) < (len : Int)) = false := decide_eq_false (by omega)
  have d0 : ((len : Int) == 0) = false := by
    have : ¬ (len : Int) = 0 := by omega
    simpa using this
  have HS : Hid (∀ (x : Int) w1, In64 x → Below w.heap.size w w1 → SolA9 w1 x (.slice (some ⟨fb, fo, none⟩) len c) l) := hide (fun x w1 hx hb => s9_any hx ((unhide HR).below hb (Nat.le_refl _)))
  unfold SolA9 at HS
  go_enter (Tri.at (by decide) Try.func5), Try.ntmps5
  go_wp2_with fail
  refine (unhide HA _).mono ?_
  rintro z w1 ⟨rfl, hb⟩
  replace HK := hide ((unhide HK).keep hb)
  replace HB := hide (below_via (unhide HB) hb)
  have q0 := (unhide HK).at 0 (.int .i64 out) rfl
  have q1 := (unhide HK).at 1 (.int .i64 more) rfl
  have q2 := (unhide HK).at 2 (.slice (some ⟨fb, fo, none⟩) len c) rfl
  have q3 := (unhide HK).at 3 (.int .u8 (T : Int)) rfl
  clear hb HA
  go_wp2_with fail
  go_quiet (fail)
  clear q0 q1 q2 q3 HK
  obtain ⟨w2, hw2⟩ : ∃ x, x = w1.drewN nq := ⟨_, rfl⟩
  have HB2 : Hid (Below w.heap.size w w2) := hide (by rw [hw2]; exact below_drewN (unhide HB) _)
  rw [← hw2]
  clear hw2 HB
  go_wp2_with fail
  refine (unhide HS out _ ⟨o1, o2⟩ (unhide HB2)).mono ?_
  rintro z w3 ⟨r, e, hE, rfl, hb⟩
  replace HB2 := hide (below_via (unhide HB2) hb)
  clear hb
  by_cases he : e = 0
  case neg =>
    have t0 : (e != 0) = true := by simpa using he
    clear hE he HS
    go_wp2_with fail
    go_ret
    exact ⟨rfl, unhide HB2⟩
  subst he
  have t0 : ((0 : Int) != 0) = false := rfl
  have HE := hide hE
  obtain ⟨u1, u2⟩ : 1 ≤ out ∧ out ≤ 10000000000000 := by
    rcases hE with ⟨_, _, h⟩ | ⟨h1, _⟩
    · cases h
    · exact ⟨(maySo_yes h1).lo, (maySo_yes h1).hi⟩
  clear hE
  have HS2 := hide (fun w1 hb => unhide HS (out + 1000000) w1 ⟨by omega, by omega⟩ hb)
  go_wp2_with fail
  refine (unhide HS2 _ (unhide HB2)).mono ?_
  rintro z w4 ⟨s, f, hF, rfl, hb⟩
  replace HB2 := hide (below_via (unhide HB2) hb)
  have hcase := more_out (unhide HE) (by omega) hF
  clear hb hF HS2 HS
  have HG := hide (Grow.empty w4 w4 (Below.refl _ _))
  have HFr : Hid (From (w4.alloc (.cells #[] 2)) (.slice (some ⟨fb, fo, none⟩) len c) l) := hide (from_row (((unhide HR).below (unhide HB2) (Nat.le_refl _)).alloc _) (fun e => by cases e))
  have HSo : Hid (∀ (W : World) (v : Value) (m : List Int), Row W v m → SolA9 W out v m) := hide (fun W v m h => s9_any (unhide HO) h)
  unfold SolA9 at HSo
  have hK : T % len < len := Nat.mod_lt _ h1
  have hTK : (T : Int) % (len : Int) = ((T % len : Nat) : Int) := (Int.natCast_emod T len).symm
  generalize T % len = K at *
  have HKl : Hid (K < l.length) := hide (by rw [unhide HL]; exact hK)
  have kk : (K : Int) < (len : Int) := by omega
  have HAm : Hid (0 ≤ l.getD K 0 ∧ l.getD K 0 ≤ 10000000000000) := hide (by
    rcases unhide HE with ⟨_, _, h⟩ | ⟨h1, _⟩
    · cases h
    · have h3 := (maySo_yes h1).amt (l.getD K 0) (by rw [show l.getD K 0 = l[K]'(unhide HKl) by simp [List.getD, unhide HKl]]; exact List.getElem_mem _)
      exact h3)
  have tail : ∀ (B : Bool) (W : World), True := fun _ _ => trivial
  clear tail
  rcases hcase with ⟨hf, hsr⟩ | hf | ⟨hf, hbig⟩
  all_goals
    subst hf
    first
      | (have x1 : decide (r < s) = false := decide_eq_false (by omega); clear hsr)
      | (have x1 : decide (out + 1000000 ≤ 10000000000000) = false := decide_eq_false (by omega); clear hbig)
      | skip
    go_wp2_with (refine list_from rfl (.tmp 72) (.tmp 73) rfl _ _ _ _ [] l (unhide HG) (unhide HFr) (by simp [Act.eval, Act.put]) (by simp [Act.eval, Act.put]) (by rw [unhide HL]; simp; omega) (unhide HIn) ?_)
    intro v W hG
    obtain ⟨g, cap, cur, rfl, hg1, hg2, hgr⟩ := own_open hG (fun e => by have := unhide HKl; rw [e] at this; exact absurd this (Nat.not_lt_zero _)) (by rw [unhide HL]; omega)
    rw [unhide HL] at hgr
    rw [unhide HL]
    have g1 := row_cell hgr (unhide HKl)
    rw [Nat.zero_add] at g1
    have g2 : W.frozen? ⟨g, K, none⟩ = false := frozen_of_row W g K _ _ hg2
    obtain ⟨y1, y2⟩ := unhide HAm
    have HRow : Hid (Row (W.setCell ⟨g, K, none⟩ (.int .i64 (l.getD K 0 + 1000000))) (.slice (some ⟨g, 0, none⟩) len cap) (l.set K (l.getD K 0 + 1000000))) := hide (by
      have h := own_set (unhide HKl) (y := l.getD K 0 + 1000000) ⟨by omega, by omega⟩ hg2 (by rw [unhide HL]; exact hgr)
      rw [unhide HL] at h
      exact h)
    have HBl : Hid (Below w.heap.size w (W.setCell ⟨g, K, none⟩ (.int .i64 (l.getD K 0 + 1000000)))) := hide ((below_via (unhide HB2) hG.below).setCell (p := ⟨g, K, none⟩) (Nat.le_trans (unhide HB2).size hg1) _)
    have HIn2 := hide (fun s f (h : Eir out (l.set K (l.getD K 0 + 1000000)) s f) => more_in (unhide HE) (by omega) (unhide HKl) h)
    clear hG hg1 hg2 hgr HFr HG
    generalize l.set K (l.getD K 0 + 1000000) = lk at *
    generalize l.getD K 0 = x at *
    go_wp2_with fail
    refine (unhide HSo _ _ _ (unhide HRow)).mono ?_
    rintro z w5 ⟨t, q, hQ, rfl, hb⟩
    have HB5 := hide (below_via (unhide HBl) hb)
    have hq := unhide HIn2 t q hQ
    clear hb hQ HIn2 HSo HRow HBl
    by_cases hq0 : q = 0
    · subst hq0
      have hrt : r ≤ t := hq.resolve_left (fun h => h rfl)
      have x2 : decide (r ≤ t) = true := decide_eq_true hrt
      go_wp2_with fail
      go_ret
      exact ⟨rfl, unhide HB5⟩
    · have x2 : (q != 0) = true := by simpa using hq0
      go_wp2_with fail
      go_ret
      exact ⟨rfl, unhide HB5⟩
set_option maxHeartbeats 8000000 in
set_option maxRecDepth 20000 in
theorem lm_n (out more : Int) (fb fo len c T : Nat) (l : List Int) (w : World) (hl : l.length = len) (h1 : 0 < len) (h2 : len ≤ 60) (hT : T ≤ 255) (ho : In64 out) (m1 : more < 0) (hR : Row w (.slice (some ⟨fb, fo, none⟩) len c) l) : MoreL w out more (.slice (some ⟨fb, fo, none⟩) len c) T := by
  unfold MoreL
  have HA := hide alive_any
  unfold Alive at HA
  have HK := hide (Blk.new w #[.int .i64 out, .int .i64 more, .slice (some ⟨fb, fo, none⟩) len c, .int .u8 (T : Int)] 34)
  have HB := hide (below1L w (.cells #[.int .i64 out, .int .i64 more, .slice (some ⟨fb, fo, none⟩) len c, .int .u8 (T : Int)] 34))
  have HR := hide hR
  have HO := hide ho
  have HL := hide hl
  have HIn := hide (row_in hR)
  obtain ⟨o1, o2⟩ := ho
  clear hR hl
  have d : decide ((60 : Int) < (len : Int)) = false := decide_eq_false (by omega)
  have d0 : ((len : Int) == 0) = false := by
    have : ¬ (len : Int) = 0 := by omega
    simpa using this
  have HS : Hid (∀ (x : Int) w1, In64 x → Below w.heap.size w w1 → SolA9 w1 x (.slice (some ⟨fb, fo, none⟩) len c) l) := hide (fun x w1 hx hb => s9_any hx ((unhide HR).below hb (Nat.le_refl _)))
  unfold SolA9 at HS
  go_enter (Tri.at (by decide) Try.func5), Try.ntmps5
  go_wp2_with fail
  refine (unhide HA _).mono ?_
  rintro z w1 ⟨rfl, hb⟩
  replace HK := hide ((unhide HK).keep hb)
  replace HB := hide (below_via (unhide HB) hb)
  have q0 := (unhide HK).at 0 (.int .i64 out) rfl
  have q1 := (unhide HK).at 1 (.int .i64 more) rfl
  have q2 := (unhide HK).at 2 (.slice (some ⟨fb, fo, none⟩) len c) rfl
  have q3 := (unhide HK).at 3 (.int .u8 (T : Int)) rfl
  clear hb HA
  go_wp2_with fail
  go_quiet (fail)
  clear q0 q1 q2 q3 HK
  obtain ⟨w2, hw2⟩ : ∃ x, x = w1.drewN nq := ⟨_, rfl⟩
  have HB2 : Hid (Below w.heap.size w w2) := hide (by rw [hw2]; exact below_drewN (unhide HB) _)
  rw [← hw2]
  clear hw2 HB
  go_wp2_with fail
  refine (unhide HS out _ ⟨o1, o2⟩ (unhide HB2)).mono ?_
  rintro z w3 ⟨r, e, hE, rfl, hb⟩
  replace HB2 := hide (below_via (unhide HB2) hb)
  clear hb
  by_cases he : e = 0
  case neg =>
    have t0 : (e != 0) = true := by simpa using he
    clear hE he HS
    go_wp2_with fail
    go_ret
    exact ⟨rfl, unhide HB2⟩
  subst he
  have t0 : ((0 : Int) != 0) = false := rfl
  have HE := hide hE
  obtain ⟨u1, u2⟩ : 1 ≤ out ∧ out ≤ 10000000000000 := by
    rcases hE with ⟨_, _, h⟩ | ⟨h1, _⟩
    · cases h
    · exact ⟨(maySo_yes h1).lo, (maySo_yes h1).hi⟩
  clear hE
  have HS2 := hide (fun w1 hb => unhide HS out w1 ⟨by omega, by omega⟩ hb)
  go_wp2_with fail
  refine (unhide HS2 _ (unhide HB2)).mono ?_
  rintro z w4 ⟨s, f, hF, rfl, hb⟩
  replace HB2 := hide (below_via (unhide HB2) hb)
  have hcase := more_out (m := 0) (unhide HE) (by omega) (by rw [Int.add_zero]; exact hF)
  clear hb hF HS2 HS
  have HG := hide (Grow.empty w4 w4 (Below.refl _ _))
  have HFr : Hid (From (w4.alloc (.cells #[] 2)) (.slice (some ⟨fb, fo, none⟩) len c) l) := hide (from_row (((unhide HR).below (unhide HB2) (Nat.le_refl _)).alloc _) (fun e => by cases e))
  have HSo : Hid (∀ (W : World) (v : Value) (m : List Int), Row W v m → SolA9 W out v m) := hide (fun W v m h => s9_any (unhide HO) h)
  unfold SolA9 at HSo
  have hK : T % len < len := Nat.mod_lt _ h1
  have hTK : (T : Int) % (len : Int) = ((T % len : Nat) : Int) := (Int.natCast_emod T len).symm
  generalize T % len = K at *
  have HKl : Hid (K < l.length) := hide (by rw [unhide HL]; exact hK)
  have kk : (K : Int) < (len : Int) := by omega
  have HAm : Hid (0 ≤ l.getD K 0 ∧ l.getD K 0 ≤ 10000000000000) := hide (by
    rcases unhide HE with ⟨_, _, h⟩ | ⟨h1, _⟩
    · cases h
    · have h3 := (maySo_yes h1).amt (l.getD K 0) (by rw [show l.getD K 0 = l[K]'(unhide HKl) by simp [List.getD, unhide HKl]]; exact List.getElem_mem _)
      exact h3)
  have tail : ∀ (B : Bool) (W : World), True := fun _ _ => trivial
  clear tail
  replace hcase : (f = 0 ∧ s ≤ r) ∨ f = 13 := hcase.imp id (fun h => h.elim id (fun h => absurd h.2 (by omega)))
  rcases hcase with ⟨hf, hsr⟩ | hf
  all_goals
    subst hf
    first
      | (have x1 : decide (r < s) = false := decide_eq_false (by omega); clear hsr)
      | (have x1 : decide (out ≤ 10000000000000) = false := decide_eq_false (by omega); clear hbig)
      | skip
    go_wp2_with (refine list_from rfl (.tmp 72) (.tmp 73) rfl _ _ _ _ [] l (unhide HG) (unhide HFr) (by simp [Act.eval, Act.put]) (by simp [Act.eval, Act.put]) (by rw [unhide HL]; simp; omega) (unhide HIn) ?_)
    intro v W hG
    obtain ⟨g, cap, cur, rfl, hg1, hg2, hgr⟩ := own_open hG (fun e => by have := unhide HKl; rw [e] at this; exact absurd this (Nat.not_lt_zero _)) (by rw [unhide HL]; omega)
    rw [unhide HL] at hgr
    rw [unhide HL]
    have g1 := row_cell hgr (unhide HKl)
    rw [Nat.zero_add] at g1
    have g2 : W.frozen? ⟨g, K, none⟩ = false := frozen_of_row W g K _ _ hg2
    obtain ⟨y1, y2⟩ := unhide HAm
    have HRow : Hid (Row (W.setCell ⟨g, K, none⟩ (.int .i64 (l.getD K 0))) (.slice (some ⟨g, 0, none⟩) len cap) (l.set K (l.getD K 0))) := hide (by
      have h := own_set (unhide HKl) (y := l.getD K 0) ⟨by omega, by omega⟩ hg2 (by rw [unhide HL]; exact hgr)
      rw [unhide HL] at h
      exact h)
    have HBl : Hid (Below w.heap.size w (W.setCell ⟨g, K, none⟩ (.int .i64 (l.getD K 0)))) := hide ((below_via (unhide HB2) hG.below).setCell (p := ⟨g, K, none⟩) (Nat.le_trans (unhide HB2).size hg1) _)
    have HIn2 := hide (fun s f (h : Eir out (l.set K (l.getD K 0)) s f) => more_in (m := 0) (unhide HE) (by omega) (unhide HKl) (by rw [Int.add_zero]; exact h))
    clear hG hg1 hg2 hgr HFr HG
    generalize l.set K (l.getD K 0) = lk at *
    generalize l.getD K 0 = x at *
    go_wp2_with fail
    refine (unhide HSo _ _ _ (unhide HRow)).mono ?_
    rintro z w5 ⟨t, q, hQ, rfl, hb⟩
    have HB5 := hide (below_via (unhide HBl) hb)
    have hq := unhide HIn2 t q hQ
    clear hb hQ HIn2 HSo HRow HBl
    by_cases hq0 : q = 0
    · subst hq0
      have hrt : r ≤ t := hq.resolve_left (fun h => h rfl)
      have x2 : decide (r ≤ t) = true := decide_eq_true hrt
      go_wp2_with fail
      go_ret
      exact ⟨rfl, unhide HB5⟩
    · have x2 : (q != 0) = true := by simpa using hq0
      go_wp2_with fail
      go_ret
      exact ⟨rfl, unhide HB5⟩
theorem lmore_any {w : World} {a : Option Addr} {len c T : Nat} {l : List Int} {out more : Int} (ho : In64 out) (hm : In64 more) (hT : T ≤ 255) (hR : Row w (.slice a len c) l) (hS : Sl a len c) : MoreL w out more (.slice a len c) T := by
  have hn : l.length = len := by
    obtain ⟨a', c', e⟩ := row_slice hR
    injection e with _ e
    exact e.symm
  by_cases h : 60 < len ∨ len = 0
  · exact lm_skip out more a len c T w h
  have h1 : 0 < len := by omega
  have h2 : len ≤ 60 := by omega
  obtain ⟨fb, fo, rfl⟩ : ∃ fb fo, a = some ⟨fb, fo, none⟩ := by
    rcases hR with ⟨_, _, _, e⟩ | ⟨b, o, c', e, _⟩
    · rw [e] at hn; simp at hn; omega
    · injection e with e1
      exact ⟨b, o, e1⟩
  by_cases m1 : more < 0
  · exact lm_n out more fb fo len c T l w hn h1 h2 hT ho m1 hR
  · by_cases m2 : more ≤ 1000000
    · exact lm_m out more fb fo len c T l w hn h1 h2 hT ho m1 m2 hR
    · exact lm_x out more fb fo len c T l w hn h1 h2 hT ho m1 (by omega) hR
end Go.Proofs.Ytlaaomhcilnbkaa.Mn
