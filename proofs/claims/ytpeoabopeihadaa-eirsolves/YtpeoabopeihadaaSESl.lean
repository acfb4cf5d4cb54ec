/- EirSolves, lone. -/
import Derived.Test.YtpeoabopeihadaaSEAl
import Derived.Test.YtpeoabopeihadaaSEYr
import Derived.Test.YtpeoabopeihadaaSL
set_option linter.unusedVariables false
set_option linter.unusedSimpArgs false
set_option linter.unusedSectionVars false
namespace Go.Proofs.Ytpeoabopeihadaa.Mn
open Go.RowKit
attribute [local simp] Tri.typeInfo Tri.sizeOf Tri.underlying Tri.runUnderlying Tri.isAgg Tri.zeroValue Tri.depth Tri.stoodInHeld Tri.eqGuardType Tri.call15 Tri.call14 Tri.call16 Tri.call17 Tri.call18 Tri.call19 Tri.call20 Tri.call46 Tri.call49 Tri.call50 Tri.call51 Tri.call52 Tri.call53 Tri.call54 Tri.call55 Tri.call65 Tri.call95 Tri.call106 Tri.call107 Tri.call108 Tri.call109 Tri.call116 Tri.call117 Tri.call118 Tri.call119 Tri.call120 Tri.call122 Tri.call135 Tri.call136 Tri.call137 Tri.call143 Tri.call144 Tri.call145 Tri.call146 Tri.call147 Tri.call149 Tri.call150 Tri.call151 Tri.call152 Tri.call156 Tri.call157 Tri.call159 Tri.call160 Tri.call161 Tri.call162 Tri.call163 Tri.call164 Tri.call165 Tri.call166 Tri.call167 Tri.call175 Tri.call176 Tri.call178 Tri.call179 Tri.call180 Tri.call181 Tri.call182 Tri.call183 Tri.call186 Tri.call187 Tri.call188 Tri.call204 Tri.call205
def SolvesL (w : World) (out : Int) (v : Value) (r p : Int) : Prop := Calls (Tri Try.prog) 3 #[.agg #[.int .i64 out, v, .int .i64 r, .int .i64 p]] w fun z w' => z = .returned (.bool true) ∧ Below w.heap.size w w'
theorem es_a (out r p : Int) (a : Option Addr) (n c : Nat) (w : World) (d1 : decide ((100 : Int) < (n : Int)) = true) (d2 : decide ((n : Int) ≤ 600) = true) : SolvesL w out (.slice a n c) r p := by
  unfold SolvesL
  have HA := hide (alive_any (w.alloc (.cells #[.int .i64 out, .slice a n c, .int .i64 r, .int .i64 p] 24)))
  have HB := hide (below1 w (.cells #[.int .i64 out, .slice a n c, .int .i64 r, .int .i64 p] 24))
  have HK := hide (Blk.new w #[.int .i64 out, .slice a n c, .int .i64 r, .int .i64 p] 24)
  go_enter (Tri.at (by decide) Try.func3), Try.ntmps3
  go_wp2_with fail
  refine (unhide HA).mono ?_
  rintro z w1 ⟨rfl, hb⟩
  replace HB := hide (below_via (unhide HB) hb)
  replace HK := hide ((show Blk _ _ _ _ from unhide HK).keep hb)
  clear hb HA
  have k0 := (show Blk _ _ _ _ from unhide HK).at 0 (.int .i64 out) rfl
  have k1 := (show Blk _ _ _ _ from unhide HK).at 1 (.slice a n c) rfl
  have k2 := (show Blk _ _ _ _ from unhide HK).at 2 (.int .i64 r) rfl
  have k3 := (show Blk _ _ _ _ from unhide HK).at 3 (.int .i64 p) rfl
  go_wp2_with fail
  have HB2 := hide (below_drew (unhide HB))
  go_region
  all_goals (try go_wp2_with fail)
  all_goals (go_ret; exact ⟨rfl, unhide HB2⟩)
theorem es_b (out r p : Int) (a : Option Addr) (n c : Nat) (w : World) (d1 : decide ((100 : Int) < (n : Int)) = true) (d2 : decide ((n : Int) ≤ 600) = false) (d3 : decide ((700 : Int) < (n : Int)) = true) : SolvesL w out (.slice a n c) r p := by
  unfold SolvesL
  have HA := hide (alive_any (w.alloc (.cells #[.int .i64 out, .slice a n c, .int .i64 r, .int .i64 p] 24)))
  have HB := hide (below1 w (.cells #[.int .i64 out, .slice a n c, .int .i64 r, .int .i64 p] 24))
  have HK := hide (Blk.new w #[.int .i64 out, .slice a n c, .int .i64 r, .int .i64 p] 24)
  go_enter (Tri.at (by decide) Try.func3), Try.ntmps3
  go_wp2_with fail
  refine (unhide HA).mono ?_
  rintro z w1 ⟨rfl, hb⟩
  replace HB := hide (below_via (unhide HB) hb)
  replace HK := hide ((show Blk _ _ _ _ from unhide HK).keep hb)
  clear hb HA
  have k0 := (show Blk _ _ _ _ from unhide HK).at 0 (.int .i64 out) rfl
  have k1 := (show Blk _ _ _ _ from unhide HK).at 1 (.slice a n c) rfl
  have k2 := (show Blk _ _ _ _ from unhide HK).at 2 (.int .i64 r) rfl
  have k3 := (show Blk _ _ _ _ from unhide HK).at 3 (.int .i64 p) rfl
  go_wp2_with fail
  have HB2 := hide (below_drew (unhide HB))
  go_region
  all_goals (try go_wp2_with fail)
  all_goals (go_ret; exact ⟨rfl, unhide HB2⟩)
theorem es_x (out r p : Int) (a : Option Addr) (n c : Nat) (w : World) (l : List Int) (ho : In64 out) (hr : In64 r) (hR : Row w (.slice a n c) l) (d1 : decide ((100 : Int) < (n : Int)) = false) (d3 : decide ((700 : Int) < (n : Int)) = false) : SolvesL w out (.slice a n c) r p := by
  unfold SolvesL
  have HA := hide (alive_any (w.alloc (.cells #[.int .i64 out, .slice a n c, .int .i64 r, .int .i64 p] 24)))
  have HB := hide (below1 w (.cells #[.int .i64 out, .slice a n c, .int .i64 r, .int .i64 p] 24))
  have HK := hide (Blk.new w #[.int .i64 out, .slice a n c, .int .i64 r, .int .i64 p] 24)
  go_enter (Tri.at (by decide) Try.func3), Try.ntmps3
  go_wp2_with fail
  refine (unhide HA).mono ?_
  rintro z w1 ⟨rfl, hb⟩
  replace HB := hide (below_via (unhide HB) hb)
  replace HK := hide ((show Blk _ _ _ _ from unhide HK).keep hb)
  have HR := hide ((hR.alloc (.cells #[.int .i64 out, .slice a n c, .int .i64 r, .int .i64 p] 24)).below hb (Nat.le_refl _))
  clear hR
  clear hb HA
  have k0 := (show Blk _ _ _ _ from unhide HK).at 0 (.int .i64 out) rfl
  have k1 := (show Blk _ _ _ _ from unhide HK).at 1 (.slice a n c) rfl
  have k2 := (show Blk _ _ _ _ from unhide HK).at 2 (.int .i64 r) rfl
  have k3 := (show Blk _ _ _ _ from unhide HK).at 3 (.int .i64 p) rfl
  go_wp2_with fail
  have HB2 := hide (below_drew (unhide HB))
  replace HR := hide (unhide HR).drew
  go_region
  all_goals (try go_wp2_with fail)
  clear k0 k1 k2 k3
  have HO := hide ho
  have HSo := hide (s9_any (unhide HO) (unhide HR))
  unfold SolA9 at HSo
  refine (unhide HSo).mono ?_
  rintro z w2 ⟨x, e, hE, rfl, hb⟩
  have HE := hide hE
  replace HB2 := hide (below_via (unhide HB2) hb)
  replace HR := hide ((unhide HR).below hb (Nat.le_refl _))
  clear hb HSo hE
  have HSo := hide (rsolve_any (out := out) (unhide HR))
  unfold RSolA at HSo
  go_wp2_with fail
  refine (unhide HSo).mono ?_
  rintro z w3 ⟨y, f, hE, rfl, hb⟩
  obtain ⟨hxy, hef⟩ := (unhide HE).only hE
  have hy : In64 y := by
    rcases hE with ⟨_, h, _⟩ | ⟨_, ⟨_, h, _⟩ | ⟨h, _⟩⟩
    · exact ⟨by omega, by omega⟩
    · exact ⟨by omega, by omega⟩
    · exact ⟨by have := h.lo; omega, by have := h.hi; omega⟩
  have HF1 := hide (fun W (h : Row W (.slice a n c) l) => eirfits_any (out := out) r hr h)
  have HF2 := hide (fun W (h : Row W (.slice a n c) l) => reirfits_any (out := out) r hr h)
  have HF3 := hide (fun W (h : Row W (.slice a n c) l) => eirfits_any (out := out) y hy h)
  have HF4 := hide (fun W (h : Row W (.slice a n c) l) => reirfits_any (out := out) y hy h)
  unfold CovA at HF1 HF2 HF3 HF4
  subst hxy hef
  replace HB2 := hide (below_via (unhide HB2) hb)
  replace HR := hide ((unhide HR).below hb (Nat.le_refl _))
  have c1 : (x != x) = false := by simp
  have c2 : (e != e) = false := by simp
  generalize eirB out l r = B1 at *
  generalize eirB out l x = B2 at *
  have c3 : (B1 != B1) = false := by simp
  have c4 : (B2 != B2) = false := by simp
  clear hb HSo hE HE HO ho hr hy
  obtain ⟨X, G, y1, y2⟩ := years_any r p
  have HY1 := hide y1
  have HY2 := hide y2
  unfold YearA at HY1 HY2
  clear y1 y2
  have c5 : (X == X) = true := by simp
  have c6 : (G == G) = true := by simp
  go_wp2_with fail
  refine (unhide HF1 _ (unhide HR)).mono ?_
  rintro z v1 ⟨rfl, hb⟩
  replace HB2 := hide (below_via (unhide HB2) hb)
  replace HR := hide ((unhide HR).below hb (Nat.le_refl _))
  clear hb
  go_wp2_with fail
  refine (unhide HF2 _ (unhide HR)).mono ?_
  rintro z v2 ⟨rfl, hb⟩
  replace HB2 := hide (below_via (unhide HB2) hb)
  replace HR := hide ((unhide HR).below hb (Nat.le_refl _))
  clear hb
  go_wp2_with fail
  refine (unhide HF3 _ (unhide HR)).mono ?_
  rintro z v3 ⟨rfl, hb⟩
  replace HB2 := hide (below_via (unhide HB2) hb)
  replace HR := hide ((unhide HR).below hb (Nat.le_refl _))
  clear hb
  go_wp2_with fail
  refine (unhide HF4 _ (unhide HR)).mono ?_
  rintro z v4 ⟨rfl, hb⟩
  replace HB2 := hide (below_via (unhide HB2) hb)
  replace HR := hide ((unhide HR).below hb (Nat.le_refl _))
  clear hb
  by_cases g1 : 60 < p
  · have t1 : decide (60 < p) = true := decide_eq_true g1
    by_cases g2 : p ≤ 600
    · have t2 : decide (p ≤ 600) = true := decide_eq_true g2
      go_wp2_with fail
      go_ret
      exact ⟨rfl, unhide HB2⟩
    · have t2 : decide (p ≤ 600) = false := decide_eq_false g2
      clear g1 g2
      go_wp2_with fail
      refine (unhide HY1 _).mono ?_
      rintro z v5 ⟨rfl, hb⟩
      replace HB2 := hide (below_via (unhide HB2) hb)
      clear hb
      go_wp2_with fail
      refine (unhide HY2 _).mono ?_
      rintro z v6 ⟨rfl, hb⟩
      replace HB2 := hide (below_via (unhide HB2) hb)
      clear hb
      go_wp2_with fail
      go_ret
      exact ⟨rfl, unhide HB2⟩
  · have t1 : decide (60 < p) = false := decide_eq_false g1
    clear g1
    go_wp2_with fail
    refine (unhide HY1 _).mono ?_
    rintro z v5 ⟨rfl, hb⟩
    replace HB2 := hide (below_via (unhide HB2) hb)
    clear hb
    go_wp2_with fail
    refine (unhide HY2 _).mono ?_
    rintro z v6 ⟨rfl, hb⟩
    replace HB2 := hide (below_via (unhide HB2) hb)
    clear hb
    go_wp2_with fail
    go_ret
    exact ⟨rfl, unhide HB2⟩
theorem es_y (out r p : Int) (a : Option Addr) (n c : Nat) (w : World) (l : List Int) (ho : In64 out) (hr : In64 r) (hR : Row w (.slice a n c) l) (d1 : decide ((100 : Int) < (n : Int)) = true) (d2 : decide ((n : Int) ≤ 600) = false) (d3 : decide ((700 : Int) < (n : Int)) = false) : SolvesL w out (.slice a n c) r p := by
  unfold SolvesL
  have HA := hide (alive_any (w.alloc (.cells #[.int .i64 out, .slice a n c, .int .i64 r, .int .i64 p] 24)))
  have HB := hide (below1 w (.cells #[.int .i64 out, .slice a n c, .int .i64 r, .int .i64 p] 24))
  have HK := hide (Blk.new w #[.int .i64 out, .slice a n c, .int .i64 r, .int .i64 p] 24)
  go_enter (Tri.at (by decide) Try.func3), Try.ntmps3
  go_wp2_with fail
  refine (unhide HA).mono ?_
  rintro z w1 ⟨rfl, hb⟩
  replace HB := hide (below_via (unhide HB) hb)
  replace HK := hide ((show Blk _ _ _ _ from unhide HK).keep hb)
  have HR := hide ((hR.alloc (.cells #[.int .i64 out, .slice a n c, .int .i64 r, .int .i64 p] 24)).below hb (Nat.le_refl _))
  clear hR
  clear hb HA
  have k0 := (show Blk _ _ _ _ from unhide HK).at 0 (.int .i64 out) rfl
  have k1 := (show Blk _ _ _ _ from unhide HK).at 1 (.slice a n c) rfl
  have k2 := (show Blk _ _ _ _ from unhide HK).at 2 (.int .i64 r) rfl
  have k3 := (show Blk _ _ _ _ from unhide HK).at 3 (.int .i64 p) rfl
  go_wp2_with fail
  have HB2 := hide (below_drew (unhide HB))
  replace HR := hide (unhide HR).drew
  go_region
  all_goals (try go_wp2_with fail)
  clear k0 k1 k2 k3
  have HO := hide ho
  have HSo := hide (s9_any (unhide HO) (unhide HR))
  unfold SolA9 at HSo
  refine (unhide HSo).mono ?_
  rintro z w2 ⟨x, e, hE, rfl, hb⟩
  have HE := hide hE
  replace HB2 := hide (below_via (unhide HB2) hb)
  replace HR := hide ((unhide HR).below hb (Nat.le_refl _))
  clear hb HSo hE
  have HSo := hide (rsolve_any (out := out) (unhide HR))
  unfold RSolA at HSo
  go_wp2_with fail
  refine (unhide HSo).mono ?_
  rintro z w3 ⟨y, f, hE, rfl, hb⟩
  obtain ⟨hxy, hef⟩ := (unhide HE).only hE
  have hy : In64 y := by
    rcases hE with ⟨_, h, _⟩ | ⟨_, ⟨_, h, _⟩ | ⟨h, _⟩⟩
    · exact ⟨by omega, by omega⟩
    · exact ⟨by omega, by omega⟩
    · exact ⟨by have := h.lo; omega, by have := h.hi; omega⟩
  have HF1 := hide (fun W (h : Row W (.slice a n c) l) => eirfits_any (out := out) r hr h)
  have HF2 := hide (fun W (h : Row W (.slice a n c) l) => reirfits_any (out := out) r hr h)
  have HF3 := hide (fun W (h : Row W (.slice a n c) l) => eirfits_any (out := out) y hy h)
  have HF4 := hide (fun W (h : Row W (.slice a n c) l) => reirfits_any (out := out) y hy h)
  unfold CovA at HF1 HF2 HF3 HF4
  subst hxy hef
  replace HB2 := hide (below_via (unhide HB2) hb)
  replace HR := hide ((unhide HR).below hb (Nat.le_refl _))
  have c1 : (x != x) = false := by simp
  have c2 : (e != e) = false := by simp
  generalize eirB out l r = B1 at *
  generalize eirB out l x = B2 at *
  have c3 : (B1 != B1) = false := by simp
  have c4 : (B2 != B2) = false := by simp
  clear hb HSo hE HE HO ho hr hy
  obtain ⟨X, G, y1, y2⟩ := years_any r p
  have HY1 := hide y1
  have HY2 := hide y2
  unfold YearA at HY1 HY2
  clear y1 y2
  have c5 : (X == X) = true := by simp
  have c6 : (G == G) = true := by simp
  go_wp2_with fail
  refine (unhide HF1 _ (unhide HR)).mono ?_
  rintro z v1 ⟨rfl, hb⟩
  replace HB2 := hide (below_via (unhide HB2) hb)
  replace HR := hide ((unhide HR).below hb (Nat.le_refl _))
  clear hb
  go_wp2_with fail
  refine (unhide HF2 _ (unhide HR)).mono ?_
  rintro z v2 ⟨rfl, hb⟩
  replace HB2 := hide (below_via (unhide HB2) hb)
  replace HR := hide ((unhide HR).below hb (Nat.le_refl _))
  clear hb
  go_wp2_with fail
  refine (unhide HF3 _ (unhide HR)).mono ?_
  rintro z v3 ⟨rfl, hb⟩
  replace HB2 := hide (below_via (unhide HB2) hb)
  replace HR := hide ((unhide HR).below hb (Nat.le_refl _))
  clear hb
  go_wp2_with fail
  refine (unhide HF4 _ (unhide HR)).mono ?_
  rintro z v4 ⟨rfl, hb⟩
  replace HB2 := hide (below_via (unhide HB2) hb)
  replace HR := hide ((unhide HR).below hb (Nat.le_refl _))
  clear hb
  by_cases g1 : 60 < p
  · have t1 : decide (60 < p) = true := decide_eq_true g1
    by_cases g2 : p ≤ 600
    · have t2 : decide (p ≤ 600) = true := decide_eq_true g2
      go_wp2_with fail
      go_ret
      exact ⟨rfl, unhide HB2⟩
    · have t2 : decide (p ≤ 600) = false := decide_eq_false g2
      clear g1 g2
      go_wp2_with fail
      refine (unhide HY1 _).mono ?_
      rintro z v5 ⟨rfl, hb⟩
      replace HB2 := hide (below_via (unhide HB2) hb)
      clear hb
      go_wp2_with fail
      refine (unhide HY2 _).mono ?_
      rintro z v6 ⟨rfl, hb⟩
      replace HB2 := hide (below_via (unhide HB2) hb)
      clear hb
      go_wp2_with fail
      go_ret
      exact ⟨rfl, unhide HB2⟩
  · have t1 : decide (60 < p) = false := decide_eq_false g1
    clear g1
    go_wp2_with fail
    refine (unhide HY1 _).mono ?_
    rintro z v5 ⟨rfl, hb⟩
    replace HB2 := hide (below_via (unhide HB2) hb)
    clear hb
    go_wp2_with fail
    refine (unhide HY2 _).mono ?_
    rintro z v6 ⟨rfl, hb⟩
    replace HB2 := hide (below_via (unhide HB2) hb)
    clear hb
    go_wp2_with fail
    go_ret
    exact ⟨rfl, unhide HB2⟩
theorem eirSolves_any {w : World} {a : Option Addr} {n c : Nat} {l : List Int} {out r p : Int} (ho : In64 out) (hr : In64 r) (hR : Row w (.slice a n c) l) : SolvesL w out (.slice a n c) r p := by
  by_cases h1 : 100 < n
  · have d1 : decide ((100 : Int) < (n : Int)) = true := decide_eq_true (by omega)
    by_cases h2 : n ≤ 600
    · exact es_a out r p a n c w d1 (decide_eq_true (by omega))
    · have d2 : decide ((n : Int) ≤ 600) = false := decide_eq_false (by omega)
      by_cases h3 : 700 < n
      · exact es_b out r p a n c w d1 d2 (decide_eq_true (by omega))
      · exact es_y out r p a n c w l ho hr hR d1 d2 (decide_eq_false (by omega))
  · exact es_x out r p a n c w l ho hr hR (decide_eq_false (by omega)) (decide_eq_false (by omega))
end Go.Proofs.Ytpeoabopeihadaa.Mn
