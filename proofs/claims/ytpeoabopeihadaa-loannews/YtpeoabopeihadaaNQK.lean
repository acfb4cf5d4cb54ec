/- eir.covers and the closure that asks it, lone. -/
import Derived.Test.YtpeoabopeihadaaNQJ
import Derived.Test.YtpeoabopeihadaaNTri
import Derived.Test.YtpeoabopeihadaaNQF
import Derived.Test.YtpeoabopeihadaaNQE
set_option linter.unusedVariables false
set_option linter.unusedSimpArgs false
set_option linter.unusedSectionVars false
set_option maxHeartbeats 4000000
namespace Go.Proofs.Ytpeoabopeihadaa.Mn
open Go.RowKit
attribute [local simp] Tri.typeInfo Tri.sizeOf Tri.underlying Tri.runUnderlying Tri.isAgg Tri.zeroValue Tri.depth Tri.stoodInHeld Tri.eqGuardType Tri.call15 Tri.call16 Tri.call26 Tri.call27 Tri.call28 Tri.call29 Tri.call30 Tri.call31 Tri.call46 Tri.call49 Tri.call50 Tri.call51 Tri.call52 Tri.call53 Tri.call54 Tri.call65 Tri.call66 Tri.call68 Tri.call69 Tri.call70 Tri.call71 Tri.call72 Tri.call73 Tri.call74 Tri.call75 Tri.call82 Tri.call84 Tri.call85 Tri.call86 Tri.call95 Tri.call101 Tri.call106 Tri.call107 Tri.call116 Tri.call117 Tri.call118 Tri.call119 Tri.call120 Tri.call122 Tri.call123 Tri.call124 Tri.call125 Tri.call126 Tri.call135 Tri.call137 Tri.call143 Tri.call144 Tri.call145 Tri.call146 Tri.call147 Tri.call149 Tri.call150 Tri.call151 Tri.call152 Tri.call156 Tri.call157 Tri.call159 Tri.call160 Tri.call161 Tri.call162 Tri.call163 Tri.call164 Tri.call165 Tri.call166 Tri.call167 Tri.call175 Tri.call176 Tri.call178 Tri.call179 Tri.call180 Tri.call181 Tri.call182 Tri.call183 Tri.call186 Tri.call187 Tri.call188 Tri.call205
def covB (out : Int) (l : List Int) (r : Int) : Bool := decide (valE 1000 l r = 3) || (decide (valE 1000 l r = 0) && decide (1000 * out ≤ valN 1000 l r))
def CovA (f : Nat) (w : World) (args : Array Value) (b : Bool) : Prop := Calls (Tri Try.prog) f args w fun z w' => z = .returned (.bool b) ∧ Below w.heap.size w w'
theorem cov_any {w : World} {v : Value} {l : List Int} {out : Int} (r : Int) (ho : 1 ≤ out ∧ out ≤ 10000000000000) (hR : Row w v l) : CovA 49 w #[.int .i64 out, v, .int .i64 r] (covB out l r) := by
 have H := hide (fine_any r hR)
 unfold CovA covB
 unfold NowA at H
 generalize valN 1000 l r = n at *
 generalize valE 1000 l r = E at *
 have i1 : In64 (1000 * out) := ⟨by omega, by omega⟩
 obtain ⟨j1, j2⟩ := i1
 by_cases h3 : E = 3
 ·subst h3
  go_enter (Tri.at (by decide) Try.func49), Try.ntmps49
  go_wp2_with fail
  refine (uh H).mono ?_
  rintro e w1 ⟨rfl, hb⟩
  go_wp2_with fail
  go_ret
  exact ⟨rfl, hb⟩
 ·have b3 : (E == 3) = false := by simpa using h3
  by_cases h0 : E = 0
  ·subst h0
   by_cases hc : 1000 * out ≤ n
   ·have bc : decide (1000 * out ≤ n) = true := by simpa using hc
    rw [bc]
    go_enter (Tri.at (by decide) Try.func49), Try.ntmps49
    go_wp2_with fail
    refine (uh H).mono ?_
    rintro e w1 ⟨rfl, hb⟩
    go_wp2_with fail
    go_ret
    exact ⟨rfl, hb⟩
   ·have bc : decide (1000 * out ≤ n) = false := by simpa using hc
    rw [bc]
    go_enter (Tri.at (by decide) Try.func49), Try.ntmps49
    go_wp2_with fail
    refine (uh H).mono ?_
    rintro e w1 ⟨rfl, hb⟩
    go_wp2_with fail
    go_ret
    exact ⟨rfl, hb⟩
  ·have b0 : (E == 0) = false := by simpa using h0
   have d3 : decide (E = 3) = false := by simpa using h3
   have d0 : decide (E = 0) = false := by simpa using h0
   rw [d3, d0]
   go_enter (Tri.at (by decide) Try.func49), Try.ntmps49
   go_wp2_with fail
   refine (uh H).mono ?_
   rintro e w1 ⟨rfl, hb⟩
   go_wp2_with fail
   go_ret
   exact ⟨rfl, hb⟩
theorem clo_any {w : World} {v : Value} {l : List Int} {out : Int} {p q : Nat} (r : Int) (ho : 1 ≤ out ∧ out ≤ 10000000000000) (hR : Row w v l) (hp : w.cell? ⟨p, 0, none⟩ = some (.int .i64 out)) (hq : w.cell? ⟨q, 0, none⟩ = some v) : CovA 48 w #[.int .i64 r, .pointer (some ⟨p, 0, none⟩), .pointer (some ⟨q, 0, none⟩)] (covB out l r) := by
 have H := hide (cov_any r ho hR)
 unfold CovA at *
 generalize covB out l r = B at *
 go_enter (Tri.at (by decide) Try.func48), Try.ntmps48
 go_wp2_with fail
 refine (uh H).mono ?_
 rintro e w1 ⟨rfl, hb⟩
 go_wp2_with fail
 go_ret
 exact ⟨rfl, hb⟩
end Go.Proofs.Ytpeoabopeihadaa.Mn
/- eir.maySolve, lone. -/
namespace Go.Proofs.Ytpeoabopeihadaa.Mn
open Go.RowKit
attribute [local simp] Tri.typeInfo Tri.sizeOf Tri.underlying Tri.runUnderlying Tri.isAgg Tri.zeroValue Tri.depth Tri.stoodInHeld Tri.eqGuardType Tri.call15 Tri.call16 Tri.call26 Tri.call27 Tri.call28 Tri.call29 Tri.call30 Tri.call31 Tri.call46 Tri.call49 Tri.call50 Tri.call51 Tri.call52 Tri.call53 Tri.call54 Tri.call65 Tri.call66 Tri.call68 Tri.call69 Tri.call70 Tri.call71 Tri.call72 Tri.call73 Tri.call74 Tri.call75 Tri.call82 Tri.call84 Tri.call85 Tri.call86 Tri.call95 Tri.call101 Tri.call106 Tri.call107 Tri.call116 Tri.call117 Tri.call118 Tri.call119 Tri.call120 Tri.call122 Tri.call123 Tri.call124 Tri.call125 Tri.call126 Tri.call135 Tri.call137 Tri.call143 Tri.call144 Tri.call145 Tri.call146 Tri.call147 Tri.call149 Tri.call150 Tri.call151 Tri.call152 Tri.call156 Tri.call157 Tri.call159 Tri.call160 Tri.call161 Tri.call162 Tri.call163 Tri.call164 Tri.call165 Tri.call166 Tri.call167 Tri.call175 Tri.call176 Tri.call178 Tri.call179 Tri.call180 Tri.call181 Tri.call182 Tri.call183 Tri.call186 Tri.call187 Tri.call188 Tri.call205
def amtB (x : Int) : Bool := decide (0 ≤ x) && decide (x ≤ 10000000000000)
def MayA (w : World) (out : Int) (v : Value) (b : Bool) : Prop := Calls (Tri Try.prog) 46 #[.int .i64 out, v] w fun z w' => z = .returned (.bool b) ∧ w' = w
theorem ms_low (a : Option Addr) (len cap : Nat) (out : Int) (w : World) (h : out < 1) : MayA w out (.slice a len cap) false := by
 unfold MayA
 have d : decide (out < 1) = true := decide_eq_true h
 go_enter (Tri.at (by decide) Try.func46), Try.ntmps46
 go_wp2_with fail
 go_ret
 exact ⟨rfl, rfl⟩
theorem ms_high (a : Option Addr) (len cap : Nat) (out : Int) (w : World) (h : 10000000000000 < out) : MayA w out (.slice a len cap) false := by
 unfold MayA
 have d : decide (out < 1) = false := decide_eq_false (by omega)
 have d2 : decide (10000000000000 < out) = true := decide_eq_true h
 go_enter (Tri.at (by decide) Try.func46), Try.ntmps46
 go_wp2_with fail
 go_ret
 exact ⟨rfl, rfl⟩
theorem ms_long (a : Option Addr) (len cap : Nat) (out : Int) (w : World) (h : 1 ≤ out ∧ out ≤ 10000000000000) (hl : 600 < len) : MayA w out (.slice a len cap) false := by
 unfold MayA
 have d : decide (out < 1) = false := decide_eq_false (by omega)
 have d2 : decide (10000000000000 < out) = false := decide_eq_false (by omega)
 have d3 : decide ((600 : Int) < (len : Int)) = true := decide_eq_true (by omega)
 go_enter (Tri.at (by decide) Try.func46), Try.ntmps46
 go_wp2_with fail
 go_ret
 exact ⟨rfl, rfl⟩
theorem ms_none (a : Option Addr) (cap : Nat) (out : Int) (w : World) (h : 1 ≤ out ∧ out ≤ 10000000000000) : MayA w out (.slice a 0 cap) false := by
 unfold MayA
 have d : decide (out < 1) = false := decide_eq_false (by omega)
 have d2 : decide (10000000000000 < out) = false := decide_eq_false (by omega)
 go_enter (Tri.at (by decide) Try.func46), Try.ntmps46
 go_wp2_with fail
 refine wp_loop_rounds 1 ?_
 rw [rounds_succ]
 go_wp2_with fail
 go_ret
 exact ⟨rfl, rfl⟩
theorem ms_row (b off cap : Nat) (l : List Int) (out : Int) (e : Bool) (w : World) (h : 1 ≤ out ∧ out ≤ 10000000000000) (hl : ¬ 600 < l.length) (hc : ∀ j, j < l.length → w.cell? ⟨b, off + j, none⟩ = some (.int .i64 (l.getD j 0)))
  (he : (e = false ∧ ∃ j, j < l.length ∧ amtB (l.getD j 0) = false) ∨ ((∀ j, j < l.length → amtB (l.getD j 0) = true) ∧ (e = true ↔ ∃ j, j < l.length ∧ 0 < l.getD j 0))) : MayA w out (.slice (some ⟨b, off, none⟩) l.length cap) e := by
 unfold MayA
 have HC := hide hc
 have HE := hide he
 clear hc he
 generalize l.length = len at *
 have d : decide (out < 1) = false := decide_eq_false (by omega)
 have d2 : decide (10000000000000 < out) = false := decide_eq_false (by omega)
 have d3 : decide ((600 : Int) < (len : Int)) = false := decide_eq_false (by omega)
 go_enter (Tri.at (by decide) Try.func46), Try.ntmps46
 go_wp2_with fail
 go_loop [5, 21] (fun c i => ∃ (k : Nat) (B : Bool), k ≤ len ∧ i = .int .i64 k ∧ c = .bool B ∧ Hid (∀ j, j < k → amtB (l.getD j 0) = true) ∧ Hid (B = true ↔ ∃ j, j < k ∧ 0 < l.getD j 0)) (fun c i => len - (intOf i).toNat)
 case atStart => exact ⟨0, false, Nat.zero_le _, rfl, rfl, hide (fun j hj => absurd hj (Nat.not_lt_zero j)), hide ⟨fun h => (by cases h), fun ⟨j, hj, _⟩ => absurd hj (Nat.not_lt_zero j)⟩⟩
 case round =>
  obtain ⟨k, B, hk, rfl, rfl, HA, HB⟩ := hrel
  by_cases hlt : k < len
  ·have ck := uh HC k hlt
   have HS : Hid (amtB (l.getD k 0) = true → ∀ j, j < k + 1 → amtB (l.getD j 0) = true) := hide (fun h j hj => by
    by_cases e : j = k
    ·rw [e]; exact h
    ·exact uh HA j (by omega))
   have HP : Hid (∀ C : Bool, (C = true ↔ B = true ∨ 0 < l.getD k 0) → (C = true ↔ ∃ j, j < k + 1 ∧ 0 < l.getD j 0)) := hide (fun C hC => by
    rw [hC, uh HB]
    constructor
    ·rintro (⟨j, h1, h2⟩ | h)
     ·exact ⟨j, by omega, h2⟩
     ·exact ⟨k, by omega, h⟩
    ·rintro ⟨j, h1, h2⟩
     by_cases e : j = k
     ·rw [e] at h2; exact .inr h2
     ·exact .inl ⟨j, by omega, h2⟩)
   have HN : Hid (amtB (l.getD k 0) = false → e = false) := hide (fun hz => by
    rcases uh HE with ⟨h, _⟩ | ⟨h, _⟩
    ·exact h
    ·have := h k hlt; rw [hz] at this; cases this)
   generalize l.getD k 0 = z at *
   by_cases z1 : z < 0
   ·have b1 : decide (z < 0) = true := decide_eq_true z1
    have he : e = false := uh HN (by simp [amtB]; omega)
    subst he
    go_wp2_with fail
    go_ret
    exact ⟨rfl, rfl⟩
   ·have b1 : decide (z < 0) = false := decide_eq_false z1
    by_cases z2 : 10000000000000 < z
    ·have b2 : decide (10000000000000 < z) = true := decide_eq_true z2
     have he : e = false := uh HN (by simp [amtB]; omega)
     subst he
     go_wp2_with fail
     go_ret
     exact ⟨rfl, rfl⟩
    ·have b2 : decide (10000000000000 < z) = false := decide_eq_false z2
     have HS2 := hide (uh HS (by simp [amtB]; omega))
     cases B with
     | true =>
      have HP2 := hide (uh HP true (by simp))
      clear HS HP HN HB HA
      go_wp2_with fail
      go_round
      case rel => exact ⟨k + 1, true, by omega, by go_num, rfl, HS2, HP2⟩
      case measure => simp [intOf]; omega
     | false =>
      by_cases z3 : 0 < z
      ·have b3 : decide (0 < z) = true := decide_eq_true z3
       have HP2 := hide (uh HP true (by simp [z3]))
       clear HS HP HN HB HA
       go_wp2_with fail
       go_round
       case rel => exact ⟨k + 1, true, by omega, by go_num, rfl, HS2, HP2⟩
       case measure => simp [intOf]; omega
      ·have b3 : decide (0 < z) = false := decide_eq_false z3
       have HP2 := hide (uh HP false (by simp [z3]))
       clear HS HP HN HB HA
       go_wp2_with fail
       go_round
       case rel => exact ⟨k + 1, false, by omega, by go_num, rfl, HS2, HP2⟩
       case measure => simp [intOf]; omega
  ·have hk2 : k = len := by omega
   subst hk2
   have he : e = B := by
    rcases uh HE with ⟨_, j, h1, h2⟩ | ⟨_, h⟩
    ·have := uh HA j h1; rw [h2] at this; cases this
    ·exact Bool.eq_iff_iff.2 (h.trans (uh HB).symm)
   subst he
   go_wp2_with fail
   go_ret
   exact ⟨rfl, rfl⟩
def maySo (out : Int) (l : List Int) : Bool := decide (1 ≤ out) && (decide (out ≤ 10000000000000) && (decide (l.length ≤ 600) && (l.all amtB && l.any (fun x => decide (0 < x)))))
theorem maySo_any {w : World} {v : Value} {l : List Int} (out : Int) (h : Row w v l) : MayA w out v (maySo out l) := by
 unfold maySo
 by_cases h1 : 1 ≤ out
 ·by_cases h2 : out ≤ 10000000000000
  ·by_cases h3 : l.length ≤ 600
   ·rw [decide_eq_true h1, decide_eq_true h2, decide_eq_true h3]
    simp only [Bool.true_and]
    rcases h with ⟨a, cap, rfl, rfl⟩ | ⟨b, off, cap, rfl, _, _, hc, _⟩
    ·exact ms_none a cap out w ⟨h1, h2⟩
    ·refine ms_row b off cap l out _ w ⟨h1, h2⟩ (by omega) hc ?_
     have mem : ∀ x, x ∈ l → ∃ j, j < l.length ∧ l.getD j 0 = x := fun x hx => by
      obtain ⟨j, hj, rfl⟩ := List.getElem_of_mem hx
      exact ⟨j, hj, by simp [List.getD, hj]⟩
     have mem2 : ∀ j, j < l.length → l.getD j 0 ∈ l := fun j hj => by
      rw [show l.getD j 0 = l[j] by simp [List.getD, hj]]
      exact List.getElem_mem hj
     cases ha : l.all amtB with
     | false =>
      obtain ⟨x, hx, hn⟩ := List.all_eq_false.1 ha
      obtain ⟨j, hj, e⟩ := mem x hx
      exact .inl ⟨rfl, j, hj, by rw [e]; simpa using hn⟩
     | true =>
      refine .inr ⟨fun j hj => List.all_eq_true.1 ha _ (mem2 j hj), ?_⟩
      rw [Bool.true_and, List.any_eq_true]
      constructor
      ·rintro ⟨x, hx, hp⟩
       obtain ⟨j, hj, e⟩ := mem x hx
       exact ⟨j, hj, by rw [e]; simpa using hp⟩
      ·rintro ⟨j, hj, hp⟩
       exact ⟨_, mem2 j hj, by simpa using hp⟩
   ·obtain ⟨a, cap, rfl⟩ := row_slice h
    rw [decide_eq_false h3]
    simp only [Bool.false_and, Bool.and_false]
    exact ms_long a _ cap out w ⟨h1, h2⟩ (by omega)
  ·obtain ⟨a, cap, rfl⟩ := row_slice h
   rw [decide_eq_false h2]
   simp only [Bool.false_and, Bool.and_false]
   exact ms_high a _ cap out w (by omega)
 ·obtain ⟨a, cap, rfl⟩ := row_slice h
  rw [decide_eq_false h1]
  simp only [Bool.false_and]
  exact ms_low a _ cap out w (by omega)
end Go.Proofs.Ytpeoabopeihadaa.Mn
/- What Solve's lone calls answer in company: questions and the first test, out of their lone contracts. -/
namespace Go.Proofs.Ytpeoabopeihadaa.Sim
open Go Go.Conc
open Go.Proofs.Ytpeoabopeihadaa.Mn (Row covB maySo clo_any maySo_any CovA MayA)
theorem lt2 {g : Nat} (h : (g == 0 || g == 1) = true) : g < 2 := by
 have : g = 0 ∨ g = 1 := by simpa using h
 omega
theorem row_wt {w : World} {v : Value} {l : List Int} (h : Row w v l) (t : Tape) (d : Nat) : Row (wt w t d) v l := h.later (fun _ _ h => h)
theorem size_w : (gvW Try.prog).size = 2 := by kernel_rfl
section
variable [Glob] {P : Program}
theorem fr_of (hc : Codes P) {p : Ren} {f : FuncId} (o : Glob.ok f = true) {xs ys : Array Value} (h : LR (V p) xs.toList ys.toList) : FR P p (Frame.enter P f xs .normal) (Frame.enter P f ys .normal) := by
 obtain ⟨zs, us, c, e1, e2, h1, h2⟩ := enter_rel hc o h
 exact ⟨f, zs, us, [.code c], .run, e1, e2, o, h1, h2, .inl rfl⟩
theorem v_ptr {p : Ren} {b : Nat} (h : p b = some b) : V p (pt b) (pt b) := V.pointer (a := some _) (b := some _) ⟨h, rfl, rfl, fun _ => rfl⟩
theorem v_slice {p : Ren} {b off l c : Nat} (h : p b = some b) : V p (.slice (some ⟨b, off, none⟩) l c) (.slice (some ⟨b, off, none⟩) l c) := V.slice (a := some _) (b := some _) ⟨h, rfl, rfl, fun _ => rfl⟩
theorem row_clean {p : Ren} {u w : World} {b off cp : Nat} {zs : List Int} (hR : Row u (.slice (some ⟨b, off, none⟩) zs.length cp) zs) (h0 : 0 < zs.length) (hw : ∀ i y, u.cell? ⟨b, i, none⟩ = some y → V p y y → w.cell? ⟨b, i, none⟩ = some y) : Row w (.slice (some ⟨b, off, none⟩) zs.length cp) zs := by
 rcases hR with ⟨a, c, h1, h2⟩ | ⟨b', off', c, h1, _, hm, hc, hin⟩
 ·rw [h2] at h0
  exact absurd h0 (by decide)
 ·cases h1
  exact Or.inr ⟨b, off, cp, rfl, h0, hm, fun j hj => hw _ _ (hc j hj) (V.int _ _ _), hin⟩
end
theorem may_at {u : World} {out : Int} {b off cp : Nat} {zs : List Int} (h0 : 0 < zs.length) (hR : Row u (.slice (some ⟨b, off, none⟩) zs.length cp) zs) (h01 : ∀ g, g < 2 → ∃ ys t gz, u.heap[g]? = some (.cells ys t gz)) (hs : ∃ ys t gz, u.heap[b]? = some (.cells ys t gz)) :
  letI : Glob := gw Try.prog
  ∃ (s : St) (p : Ren), AllEnd (Tri Try.prog) (fun v _ => v = .bool (maySo out zs)) s.a s.as s.w ∧ Rel (Tri Try.prog) p s (Frame.enter Try.prog 46 #[.int .i64 out, .slice (some ⟨b, off, none⟩) zs.length cp] .normal) [] u ∧ ∀ d c, p d = some c → Fz s.w d := by
 letI : Glob := gw Try.prog
 have hc : Codes (Tri Try.prog) := told.codes
 obtain ⟨p, w, hp, hsz, hw, hfz, hcell⟩ := clean_ex u (fun x => x = b ∨ x < 2) (fun x e => by
  rcases e with rfl | e
  ·exact hs
  ·exact h01 x e) (fun g hg => by cases hg) (show (gvW Try.prog).size ≤ _ by
  rw [size_w]
  obtain ⟨_, _, _, e⟩ := h01 1 (by omega)
  exact (Array.getElem?_eq_some_iff.1 e).1)
 have pb : p b = some b := (hp b b).2 ⟨.inl rfl, rfl⟩
 have hRw : Row w (.slice (some ⟨b, off, none⟩) zs.length cp) zs := row_clean hR h0 (fun i y hy hv => hcell b i y (.inl rfl) hy hv)
 have e17 : Frame.enter Try.prog 46 #[.int .i64 out, .slice (some ⟨b, off, none⟩) zs.length cp] .normal = Frame.enter (Tri Try.prog) 46 #[.int .i64 out, .slice (some ⟨b, off, none⟩) zs.length cp] .normal := by
  have := enter_co (P := Tri Try.prog) hc (f := 46) rfl rfl #[.int .i64 out, .slice (some ⟨b, off, none⟩) zs.length cp]
  rw [told.co] at this
  exact this
 refine ⟨⟨Frame.enter (Tri Try.prog) 46 #[.int .i64 out, .slice (some ⟨b, off, none⟩) zs.length cp] .normal, [], w⟩, p, ?_, ⟨(fun g hg => (hp g g).2 ⟨.inr (lt2 hg), rfl⟩), hw, ?_, trivial⟩, fun d c e => hfz d ((hp d c).1 e).1⟩
 ·refine allEnd_of (fun t d => ?_)
  have h := maySo_any out (row_wt hRw t d)
  exact h.mono (fun e w' h => ⟨_, h.1, rfl⟩)
 ·rw [e17]
  exact fr_of hc rfl ⟨V.int _ _ _, v_slice pb, trivial⟩
theorem asks_at {u : World} {out : Int} {b off cp o l : Nat} {zs : List Int} (ho : 1 ≤ out ∧ out ≤ 10000000000000) (h0 : 0 < zs.length) (hR : Row u (.slice (some ⟨b, off, none⟩) zs.length cp) zs) (h01 : ∀ g, g < 2 → ∃ ys t gz, u.heap[g]? = some (.cells ys t gz)) (hs : ∃ ys t gz, u.heap[b]? = some (.cells ys t gz))
  (eo : u.heap[o]? = some (.cells #[.int .i64 out] 2 (0, 0))) (el : u.heap[l]? = some (.cells #[.slice (some ⟨b, off, none⟩) zs.length cp] 22 (0, 0))) (n : Int) :
  letI : Glob := gw Try.prog
  Asks (Tri Try.prog) (fun x => (x = b ∨ x < 2) ∨ x = o ∨ x = l) u o l n (covB out zs n) := by
 letI : Glob := gw Try.prog
 intro u' hS hsz0
 have hc : Codes (Tri Try.prog) := told.codes
 have kb : u'.heap[b]? = u.heap[b]? := hS b (.inl (.inl rfl))
 have ko : u'.heap[o]? = _ := (hS o (.inr (.inl rfl))).trans eo
 have kl : u'.heap[l]? = _ := (hS l (.inr (.inr rfl))).trans el
 have lo : o < u'.heap.size := (Array.getElem?_eq_some_iff.1 ko).1
 obtain ⟨p, w, hp, hsz, hw, hfz, hcell⟩ := clean_ex u' (fun x => (x = b ∨ x < 2) ∨ x = o ∨ x = l) (fun x e => by
  rcases e with (rfl | e) | rfl | rfl
  ·rw [kb]; exact hs
  ·rw [hS x (.inl (.inr e))]; exact h01 x e
  ·exact ⟨_, _, _, ko⟩
  ·exact ⟨_, _, _, kl⟩) (fun g hg => by cases hg) (show (gvW Try.prog).size ≤ _ by
  rw [size_w]
  obtain ⟨_, _, _, e⟩ := h01 1 (by omega)
  have e1 := hS 1 (.inl (.inr (by omega)))
  rw [e] at e1
  exact (Array.getElem?_eq_some_iff.1 e1).1)
 have pb : p b = some b := (hp b b).2 ⟨.inl (.inl rfl), rfl⟩
 have po : p o = some o := (hp o o).2 ⟨.inr (.inl rfl), rfl⟩
 have pl : p l = some l := (hp l l).2 ⟨.inr (.inr rfl), rfl⟩
 have hR' : Row u' (.slice (some ⟨b, off, none⟩) zs.length cp) zs := by
  rcases hR with ⟨a, c, h1, h2⟩ | ⟨b', off', c, h1, h3, hm, hc, hin⟩
  ·rw [h2] at h0
   exact absurd h0 (by decide)
  ·cases h1
   exact Or.inr ⟨b, off, cp, rfl, h3, hm, fun j hj => (World.cell?_of_block (a := ⟨b, off + j, none⟩) kb).trans (hc j hj), hin⟩
 have hRw : Row w (.slice (some ⟨b, off, none⟩) zs.length cp) zs := row_clean hR' h0 (fun i y hy hv => hcell b i y (.inl (.inl rfl)) hy hv)
 have c0 : w.cell? ⟨o, 0, none⟩ = some (.int .i64 out) := hcell o 0 _ (.inr (.inl rfl)) (cell_one ko) (V.int _ _ _)
 have c1 : w.cell? ⟨l, 0, none⟩ = some (.slice (some ⟨b, off, none⟩) zs.length cp) := hcell l 0 _ (.inr (.inr rfl)) (cell_one kl) (v_slice pb)
 have e19 : Frame.enter Try.prog 48 #[.int .i64 n, pt o, pt l] .normal = Frame.enter (Tri Try.prog) 48 #[.int .i64 n, pt o, pt l] .normal := by
  have := enter_co (P := Tri Try.prog) hc (f := 48) rfl rfl #[.int .i64 n, pt o, pt l]
  rw [told.co] at this
  exact this
 have hE : AllEnd (Tri Try.prog) (fun v _ => v = .bool (covB out zs n)) (Frame.enter (Tri Try.prog) 48 #[.int .i64 n, pt o, pt l] .normal) [] w := allEnd_of (fun t d => by
  have h := clo_any n ho (row_wt hRw t d) (p := o) (q := l) c0 c1
  exact h.mono (fun e w' h => ⟨_, h.1, rfl⟩))
 have hRel : Rel (Tri Try.prog) p ⟨Frame.enter (Tri Try.prog) 48 #[.int .i64 n, pt o, pt l] .normal, [], w⟩ (Frame.enter Try.prog 48 #[.int .i64 n, pt o, pt l] .normal) [] u' := ⟨(fun g hg => (hp g g).2 ⟨.inl <| .inr (lt2 hg), rfl⟩), hw, by rw [e19]; exact fr_of hc rfl ⟨V.int _ _ _, v_ptr po, v_ptr pl, trivial⟩, trivial⟩
 refine ⟨⟨Frame.enter (Tri Try.prog) 48 #[.int .i64 n, pt o, pt l] .normal, [], w⟩, p, ends_acc told.zero told.size hc ⟨hE, p, _, [], u', hRel.gp, hRel.wr, hRel.fr, hRel.sk⟩, hE, hRel, fun d c e => .inr ⟨?_, hfz d ((hp d c).1 e).1⟩⟩
 obtain ⟨h, rfl⟩ := (hp d c).1 e
 exact h
end Go.Proofs.Ytpeoabopeihadaa.Sim
/- eir.maySolve of no amounts, walked by goroutine 0, and Solve of them. -/
namespace Go.Proofs.Ytpeoabopeihadaa.Sim
open Go Go.Conc
theorem op17_0_0 : ∃ t ps af, (opsAt Try.f46 0)[0]? = some { dst := some 4, op := .assign (.const (.bool false)), type := t, pos := ps, after := af, guard := none } := ⟨_, _, _, rfl⟩
theorem op17_1_0 : ∃ t ps af, (opsAt Try.f46 1)[0]? = some { dst := some 8, op := .move (.tmp 0), type := t, pos := ps, after := af, guard := none } := ⟨_, _, _, rfl⟩
theorem op17_1_1 : ∃ t ps af, (opsAt Try.f46 1)[1]? = some { dst := some 9, op := .binOp .lss 2 (.tmp 8) (.const (.int .i64 1)) 2, type := t, pos := ps, after := af, guard := none } := ⟨_, _, _, rfl⟩
theorem op17_1_2 : ∃ t ps af, (opsAt Try.f46 1)[2]? = some { dst := some 10, op := .move (.tmp 9), type := t, pos := ps, after := af, guard := none } := ⟨_, _, _, rfl⟩
theorem op17_1_3 : ∃ t ps af, (opsAt Try.f46 1)[3]? = some { dst := some 11, op := .move (.tmp 0), type := t, pos := ps, after := af, guard := some (2, false) } := ⟨_, _, _, rfl⟩
theorem op17_1_4 : ∃ t ps af, (opsAt Try.f46 1)[4]? = some { dst := some 12, op := .binOp .gtr 2 (.tmp 11) (.const (.int .i64 10000000000000)) 2, type := t, pos := ps, after := af, guard := some (2, false) } := ⟨_, _, _, rfl⟩
theorem op17_1_5 : ∃ t ps af, (opsAt Try.f46 1)[5]? = some { dst := some 13, op := .pick (.tmp 10) (.const (.bool true)) (.tmp 12), type := t, pos := ps, after := af, guard := none } := ⟨_, _, _, rfl⟩
theorem op17_1_6 : ∃ t ps af, (opsAt Try.f46 1)[6]? = some { dst := some 14, op := .move (.tmp 13), type := t, pos := ps, after := af, guard := none } := ⟨_, _, _, rfl⟩
theorem op17_1_7 : ∃ t ps af, (opsAt Try.f46 1)[7]? = some { dst := some 15, op := .move (.tmp 1), type := t, pos := ps, after := af, guard := some (6, false) } := ⟨_, _, _, rfl⟩
theorem op17_1_8 : ∃ t ps af, (opsAt Try.f46 1)[8]? = some { dst := some 16, op := .call { callee := .builtin .len, args := #[(.tmp 15)], argTypes := #[22] }, type := t, pos := ps, after := af, guard := some (6, false) } := ⟨_, _, _, rfl⟩
theorem op17_1_9 : ∃ t ps af, (opsAt Try.f46 1)[9]? = some { dst := some 17, op := .binOp .gtr 3 (.tmp 16) (.const (.int .i64 600)) 3, type := t, pos := ps, after := af, guard := some (6, false) } := ⟨_, _, _, rfl⟩
theorem op17_1_10 : ∃ t ps af, (opsAt Try.f46 1)[10]? = some { dst := some 18, op := .pick (.tmp 14) (.const (.bool true)) (.tmp 17), type := t, pos := ps, after := af, guard := none } := ⟨_, _, _, rfl⟩
theorem op17_2_0 : ∃ t ps af, (opsAt Try.f46 2)[0]? = some { dst := some 4, op := .assign (.const (.bool false)), type := t, pos := ps, after := af, guard := none } := ⟨_, _, _, rfl⟩
theorem op17_3_0 : ∃ t ps af, (opsAt Try.f46 3)[0]? = some { dst := some 5, op := .assign (.const (.bool false)), type := t, pos := ps, after := af, guard := none } := ⟨_, _, _, rfl⟩
theorem op17_4_0 : ∃ t ps af, (opsAt Try.f46 4)[0]? = some { dst := some 19, op := .move (.tmp 1), type := t, pos := ps, after := af, guard := none } := ⟨_, _, _, rfl⟩
theorem op17_4_1 : ∃ t ps af, (opsAt Try.f46 4)[1]? = some { dst := some 20, op := .call { callee := .builtin .len, args := #[(.tmp 19)], argTypes := #[22] }, type := t, pos := ps, after := af, guard := none } := ⟨_, _, _, rfl⟩
theorem op17_4_2 : ∃ t ps af, (opsAt Try.f46 4)[2]? = some { dst := some 21, op := .move (.const (.int .i64 0)), type := t, pos := ps, after := af, guard := none } := ⟨_, _, _, rfl⟩
theorem op17_5_0 : ∃ t ps af, (opsAt Try.f46 5)[0]? = some { dst := some 22, op := .binOp .lss 3 (.tmp 21) (.tmp 20) 3, type := t, pos := ps, after := af, guard := none } := ⟨_, _, _, rfl⟩
theorem op17_11_0 : ∃ t ps af, (opsAt Try.f46 11)[0]? = some { dst := some 37, op := .move (.tmp 5), type := t, pos := ps, after := af, guard := none } := ⟨_, _, _, rfl⟩
theorem op17_11_1 : ∃ t ps af, (opsAt Try.f46 11)[1]? = some { dst := some 4, op := .assign (.tmp 37), type := t, pos := ps, after := af, guard := none } := ⟨_, _, _, rfl⟩
theorem body17 : ∃ X, Try.f46.body = some (.seq (Rg Try.f46 0) (.seq (.seq (Rg Try.f46 1) (.cond (.tmp 18) (.seq (Rg Try.f46 2) .ret) .skip)) (.seq (Rg Try.f46 3) (.seq (.seq (Rg Try.f46 4) (.block 0 (.loop (.seq (Rg Try.f46 5) (.seq (.cond (.tmp 22) .skip (.exit 0)) X))))) (.seq (Rg Try.f46 11) .ret))))) := ⟨_, rfl⟩
theorem tm17 (a b : Value) : #[a, b] ++ Array.replicate (Try.f46.ntmps - (#[a, b] : Array Value).size) undef = #[a, b, undef, undef, undef, undef, undef, undef, undef, undef, undef, undef, undef, undef, undef, undef, undef, undef, undef, undef, undef, undef, undef, undef, undef, undef, undef, undef, undef, undef, undef, undef, undef, undef, undef, undef, undef, undef] := by kernel_rfl
section
variable {ev : Operand → Value} {d : Option Nat} {t : TypeId} {ps : String} {af : Array Edge} {gd : Option (Nat × Bool)} {x y z : Operand} {u : World} {a b : Int}
theorem run_lss3 {B : Bool} (hx : ev x = .int .i64 a) (hy : ev y = .int .i64 b) (hc : decide (a < b) = B) : (execOp ev { dst := d, op := .binOp .lss 3 x y 3, type := t, pos := ps, after := af, guard := gd }).run Try.prog u = .ok (.value (.bool B)) u ∧ (execOp ev { dst := d, op := .binOp .lss 3 x y 3, type := t, pos := ps, after := af, guard := gd }).events Try.prog u #[] = #[] := by
 subst hc
 constructor <;> simp [execOp, go_sem, hx, hy]
theorem run_gtr3 {B : Bool} (hx : ev x = .int .i64 a) (hy : ev y = .int .i64 b) (hc : decide (b < a) = B) : (execOp ev { dst := d, op := .binOp .gtr 3 x y 3, type := t, pos := ps, after := af, guard := gd }).run Try.prog u = .ok (.value (.bool B)) u ∧ (execOp ev { dst := d, op := .binOp .gtr 3 x y 3, type := t, pos := ps, after := af, guard := gd }).events Try.prog u #[] = #[] := by
 subst hc
 constructor <;> simp [execOp, go_sem, hx, hy]
theorem run_gtrb {B : Bool} (hx : ev x = .int .i64 a) (hy : ev y = .int .i64 b) (hc : decide (b < a) = B) : (execOp ev { dst := d, op := .binOp .gtr 2 x y 2, type := t, pos := ps, after := af, guard := gd }).run Try.prog u = .ok (.value (.bool B)) u ∧ (execOp ev { dst := d, op := .binOp .gtr 2 x y 2, type := t, pos := ps, after := af, guard := gd }).events Try.prog u #[] = #[] := by
 subst hc
 constructor <;> simp [execOp, go_sem, hx, hy]
theorem run_lenv {ad : Option Addr} {n c : Nat} (hx : ev x = .slice ad n c) : (execOp ev { dst := d, op := .call { callee := .builtin .len, args := #[x], argTypes := #[22] }, type := t, pos := ps, after := af, guard := gd }).run Try.prog u = .ok (.value (.int .i64 n)) u ∧ (execOp ev { dst := d, op := .call { callee := .builtin .len, args := #[x], argTypes := #[22] }, type := t, pos := ps, after := af, guard := gd }).events Try.prog u #[] = #[] := by
 constructor <;> simp [execOp, go_sem, hx]
theorem run_len0 {ad : Option Addr} {c : Nat} (hx : ev x = .slice ad 0 c) : (execOp ev { dst := d, op := .call { callee := .builtin .len, args := #[x], argTypes := #[22] }, type := t, pos := ps, after := af, guard := gd }).run Try.prog u = .ok (.value (.int .i64 0)) u ∧ (execOp ev { dst := d, op := .call { callee := .builtin .len, args := #[x], argTypes := #[22] }, type := t, pos := ps, after := af, guard := gd }).events Try.prog u #[] = #[] := by
 constructor <;> simp [execOp, go_sem, hx]
end
section
variable {rd own : Nat → Prop} {u : World} {cs : List Frame} {Stop : (Nat → Prop) → Goroutine → World → Prop} {m : Nat} {top : Frame} {out : Int} {ad : Option Addr} {cp ln : Nat}
set_option maxRecDepth 4000 in
theorem mz_low (h1 : decide (out < 1) = true) (h : MGo Try.prog rd Stop m own (G (top.finish (.bool false)) cs) u) : MGo Try.prog rd Stop (m + 26) own (G (Frame.enter Try.prog 46 #[.int .i64 out, .slice ad ln cp] .normal) (top :: cs)) u := by
 obtain ⟨X, hb17⟩ := body17
 rw [enter_at _ Try.func46 hb17, tm17]
 clear hb17
 refine MGo.ctl (fun _ => stepG_seq) rfl rfl ?_
 refine MGo.ctl (fun _ => stepG_region) rfl rfl ?_
 rw [show List.range (opsAt Try.f46 0).size = [0] from by kernel_rfl]
 obtain ⟨_, _, _, hop⟩ := op17_0_0
 refine MGo.pureT (d := 4) (v := .bool false) (T := #[.int .i64 out, .slice ad ln cp, Z, Z, .bool false, Z, Z, Z, Z, Z, Z, Z, Z, Z, Z, Z, Z, Z, Z, Z, Z, Z, Z, Z, Z, Z, Z, Z, Z, Z, Z, Z, Z, Z, Z, Z, Z, Z]) hop rfl (by decide) rfl (fun u' => run_assign rfl) (fun u' => evs_assign) (by kernel_rfl) ?_
 clear hop
 refine MGo.ctl (fun _ => stepG_region_end) rfl rfl ?_
 refine MGo.ctl (fun _ => stepG_seq) rfl rfl ?_
 refine MGo.ctl (fun _ => stepG_seq) rfl rfl ?_
 refine MGo.ctl (fun _ => stepG_region) rfl rfl ?_
 rw [show List.range (opsAt Try.f46 1).size = [0, 1, 2, 3, 4, 5, 6, 7, 8, 9, 10] from by kernel_rfl]
 obtain ⟨_, _, _, hop⟩ := op17_1_0
 refine MGo.pureT (d := 8) (v := .int .i64 out) (T := #[.int .i64 out, .slice ad ln cp, Z, Z, .bool false, Z, Z, Z, .int .i64 out, Z, Z, Z, Z, Z, Z, Z, Z, Z, Z, Z, Z, Z, Z, Z, Z, Z, Z, Z, Z, Z, Z, Z, Z, Z, Z, Z, Z, Z]) hop (by kernel_rfl) (by decide) rfl (fun u' => run_move rfl) (fun u' => evs_move) (by kernel_rfl) ?_
 clear hop
 obtain ⟨_, _, _, hop⟩ := op17_1_1
 refine MGo.pureT (d := 9) (v := .bool true) (T := #[.int .i64 out, .slice ad ln cp, Z, Z, .bool false, Z, Z, Z, .int .i64 out, .bool true, Z, Z, Z, Z, Z, Z, Z, Z, Z, Z, Z, Z, Z, Z, Z, Z, Z, Z, Z, Z, Z, Z, Z, Z, Z, Z, Z, Z]) hop (by kernel_rfl) (by decide) rfl (fun u' => (run_lss2 rfl rfl h1).1) (fun u' => (run_lss2 rfl rfl h1).2) (by kernel_rfl) ?_
 clear hop
 obtain ⟨_, _, _, hop⟩ := op17_1_2
 refine MGo.pureT (d := 10) (v := .bool true) (T := #[.int .i64 out, .slice ad ln cp, Z, Z, .bool false, Z, Z, Z, .int .i64 out, .bool true, .bool true, Z, Z, Z, Z, Z, Z, Z, Z, Z, Z, Z, Z, Z, Z, Z, Z, Z, Z, Z, Z, Z, Z, Z, Z, Z, Z, Z]) hop (by kernel_rfl) (by decide) rfl (fun u' => run_move rfl) (fun u' => evs_move) (by kernel_rfl) ?_
 clear hop
 obtain ⟨_, _, _, hop⟩ := op17_1_3
 refine MGo.skipT (d := 11) (T := #[.int .i64 out, .slice ad ln cp, Z, Z, .bool false, Z, Z, Z, .int .i64 out, .bool true, .bool true, Z, Z, Z, Z, Z, Z, Z, Z, Z, Z, Z, Z, Z, Z, Z, Z, Z, Z, Z, Z, Z, Z, Z, Z, Z, Z, Z]) hop (by kernel_rfl) rfl (by kernel_rfl) ?_
 clear hop
 obtain ⟨_, _, _, hop⟩ := op17_1_4
 refine MGo.skipT (d := 12) (T := #[.int .i64 out, .slice ad ln cp, Z, Z, .bool false, Z, Z, Z, .int .i64 out, .bool true, .bool true, Z, Z, Z, Z, Z, Z, Z, Z, Z, Z, Z, Z, Z, Z, Z, Z, Z, Z, Z, Z, Z, Z, Z, Z, Z, Z, Z]) hop (by kernel_rfl) rfl (by kernel_rfl) ?_
 clear hop
 obtain ⟨_, _, _, hop⟩ := op17_1_5
 refine MGo.pureT (d := 13) (v := .bool true) (T := #[.int .i64 out, .slice ad ln cp, Z, Z, .bool false, Z, Z, Z, .int .i64 out, .bool true, .bool true, Z, Z, .bool true, Z, Z, Z, Z, Z, Z, Z, Z, Z, Z, Z, Z, Z, Z, Z, Z, Z, Z, Z, Z, Z, Z, Z, Z]) hop (by kernel_rfl) (by decide) rfl (fun u' => (run_pick (B := true) rfl rfl).1) (fun u' => (run_pick (B := true) rfl rfl).2) (by kernel_rfl) ?_
 clear hop
 obtain ⟨_, _, _, hop⟩ := op17_1_6
 refine MGo.pureT (d := 14) (v := .bool true) (T := #[.int .i64 out, .slice ad ln cp, Z, Z, .bool false, Z, Z, Z, .int .i64 out, .bool true, .bool true, Z, Z, .bool true, .bool true, Z, Z, Z, Z, Z, Z, Z, Z, Z, Z, Z, Z, Z, Z, Z, Z, Z, Z, Z, Z, Z, Z, Z]) hop (by kernel_rfl) (by decide) rfl (fun u' => run_move rfl) (fun u' => evs_move) (by kernel_rfl) ?_
 clear hop
 obtain ⟨_, _, _, hop⟩ := op17_1_7
 refine MGo.skipT (d := 15) (T := #[.int .i64 out, .slice ad ln cp, Z, Z, .bool false, Z, Z, Z, .int .i64 out, .bool true, .bool true, Z, Z, .bool true, .bool true, Z, Z, Z, Z, Z, Z, Z, Z, Z, Z, Z, Z, Z, Z, Z, Z, Z, Z, Z, Z, Z, Z, Z]) hop (by kernel_rfl) rfl (by kernel_rfl) ?_
 clear hop
 obtain ⟨_, _, _, hop⟩ := op17_1_8
 refine MGo.skipT (d := 16) (T := #[.int .i64 out, .slice ad ln cp, Z, Z, .bool false, Z, Z, Z, .int .i64 out, .bool true, .bool true, Z, Z, .bool true, .bool true, Z, Z, Z, Z, Z, Z, Z, Z, Z, Z, Z, Z, Z, Z, Z, Z, Z, Z, Z, Z, Z, Z, Z]) hop (by kernel_rfl) rfl (by kernel_rfl) ?_
 clear hop
 obtain ⟨_, _, _, hop⟩ := op17_1_9
 refine MGo.skipT (d := 17) (T := #[.int .i64 out, .slice ad ln cp, Z, Z, .bool false, Z, Z, Z, .int .i64 out, .bool true, .bool true, Z, Z, .bool true, .bool true, Z, Z, Z, Z, Z, Z, Z, Z, Z, Z, Z, Z, Z, Z, Z, Z, Z, Z, Z, Z, Z, Z, Z]) hop (by kernel_rfl) rfl (by kernel_rfl) ?_
 clear hop
 obtain ⟨_, _, _, hop⟩ := op17_1_10
 refine MGo.pureT (d := 18) (v := .bool true) (T := #[.int .i64 out, .slice ad ln cp, Z, Z, .bool false, Z, Z, Z, .int .i64 out, .bool true, .bool true, Z, Z, .bool true, .bool true, Z, Z, Z, .bool true, Z, Z, Z, Z, Z, Z, Z, Z, Z, Z, Z, Z, Z, Z, Z, Z, Z, Z, Z]) hop (by kernel_rfl) (by decide) rfl (fun u' => (run_pick (B := true) rfl rfl).1) (fun u' => (run_pick (B := true) rfl rfl).2) (by kernel_rfl) ?_
 clear hop
 refine MGo.ctl (fun _ => stepG_region_end) rfl rfl ?_
 refine MGo.ctl (fun _ => stepG_cond (t := true) rfl) rfl rfl ?_
 refine MGo.ctl (fun _ => stepG_seq) rfl rfl ?_
 refine MGo.ctl (fun _ => stepG_region) rfl rfl ?_
 rw [show List.range (opsAt Try.f46 2).size = [0] from by kernel_rfl]
 obtain ⟨_, _, _, hop⟩ := op17_2_0
 refine MGo.pureT (d := 4) (v := .bool false) (T := #[.int .i64 out, .slice ad ln cp, Z, Z, .bool false, Z, Z, Z, .int .i64 out, .bool true, .bool true, Z, Z, .bool true, .bool true, Z, Z, Z, .bool true, Z, Z, Z, Z, Z, Z, Z, Z, Z, Z, Z, Z, Z, Z, Z, Z, Z, Z, Z]) hop rfl (by decide) rfl (fun u' => run_assign rfl) (fun u' => evs_assign) (by kernel_rfl) ?_
 clear hop
 refine MGo.ctl (fun _ => stepG_region_end) rfl rfl ?_
 refine MGo.ctl (fun _ => stepG_ret') rfl rfl ?_
 exact MGo.leave rfl rfl Try.func46 (fun u' => by simp [results, Try.results46]) (fun u' => by simp [results, Try.results46]) h
set_option maxRecDepth 4000 in
theorem mz_high (h1 : decide (out < 1) = false) (h2 : decide (10000000000000 < out) = true) (h : MGo Try.prog rd Stop m own (G (top.finish (.bool false)) cs) u) : MGo Try.prog rd Stop (m + 26) own (G (Frame.enter Try.prog 46 #[.int .i64 out, .slice ad ln cp] .normal) (top :: cs)) u := by
 obtain ⟨X, hb17⟩ := body17
 rw [enter_at _ Try.func46 hb17, tm17]
 clear hb17
 refine MGo.ctl (fun _ => stepG_seq) rfl rfl ?_
 refine MGo.ctl (fun _ => stepG_region) rfl rfl ?_
 rw [show List.range (opsAt Try.f46 0).size = [0] from by kernel_rfl]
 obtain ⟨_, _, _, hop⟩ := op17_0_0
 refine MGo.pureT (d := 4) (v := .bool false) (T := #[.int .i64 out, .slice ad ln cp, Z, Z, .bool false, Z, Z, Z, Z, Z, Z, Z, Z, Z, Z, Z, Z, Z, Z, Z, Z, Z, Z, Z, Z, Z, Z, Z, Z, Z, Z, Z, Z, Z, Z, Z, Z, Z]) hop rfl (by decide) rfl (fun u' => run_assign rfl) (fun u' => evs_assign) (by kernel_rfl) ?_
 clear hop
 refine MGo.ctl (fun _ => stepG_region_end) rfl rfl ?_
 refine MGo.ctl (fun _ => stepG_seq) rfl rfl ?_
 refine MGo.ctl (fun _ => stepG_seq) rfl rfl ?_
 refine MGo.ctl (fun _ => stepG_region) rfl rfl ?_
 rw [show List.range (opsAt Try.f46 1).size = [0, 1, 2, 3, 4, 5, 6, 7, 8, 9, 10] from by kernel_rfl]
 obtain ⟨_, _, _, hop⟩ := op17_1_0
 refine MGo.pureT (d := 8) (v := .int .i64 out) (T := #[.int .i64 out, .slice ad ln cp, Z, Z, .bool false, Z, Z, Z, .int .i64 out, Z, Z, Z, Z, Z, Z, Z, Z, Z, Z, Z, Z, Z, Z, Z, Z, Z, Z, Z, Z, Z, Z, Z, Z, Z, Z, Z, Z, Z]) hop (by kernel_rfl) (by decide) rfl (fun u' => run_move rfl) (fun u' => evs_move) (by kernel_rfl) ?_
 clear hop
 obtain ⟨_, _, _, hop⟩ := op17_1_1
 refine MGo.pureT (d := 9) (v := .bool false) (T := #[.int .i64 out, .slice ad ln cp, Z, Z, .bool false, Z, Z, Z, .int .i64 out, .bool false, Z, Z, Z, Z, Z, Z, Z, Z, Z, Z, Z, Z, Z, Z, Z, Z, Z, Z, Z, Z, Z, Z, Z, Z, Z, Z, Z, Z]) hop (by kernel_rfl) (by decide) rfl (fun u' => (run_lss2 rfl rfl h1).1) (fun u' => (run_lss2 rfl rfl h1).2) (by kernel_rfl) ?_
 clear hop
 obtain ⟨_, _, _, hop⟩ := op17_1_2
 refine MGo.pureT (d := 10) (v := .bool false) (T := #[.int .i64 out, .slice ad ln cp, Z, Z, .bool false, Z, Z, Z, .int .i64 out, .bool false, .bool false, Z, Z, Z, Z, Z, Z, Z, Z, Z, Z, Z, Z, Z, Z, Z, Z, Z, Z, Z, Z, Z, Z, Z, Z, Z, Z, Z]) hop (by kernel_rfl) (by decide) rfl (fun u' => run_move rfl) (fun u' => evs_move) (by kernel_rfl) ?_
 clear hop
 obtain ⟨_, _, _, hop⟩ := op17_1_3
 refine MGo.pureT (d := 11) (v := .int .i64 out) (T := #[.int .i64 out, .slice ad ln cp, Z, Z, .bool false, Z, Z, Z, .int .i64 out, .bool false, .bool false, .int .i64 out, Z, Z, Z, Z, Z, Z, Z, Z, Z, Z, Z, Z, Z, Z, Z, Z, Z, Z, Z, Z, Z, Z, Z, Z, Z, Z]) hop (by kernel_rfl) (by decide) rfl (fun u' => run_move rfl) (fun u' => evs_move) (by kernel_rfl) ?_
 clear hop
 obtain ⟨_, _, _, hop⟩ := op17_1_4
 refine MGo.pureT (d := 12) (v := .bool true) (T := #[.int .i64 out, .slice ad ln cp, Z, Z, .bool false, Z, Z, Z, .int .i64 out, .bool false, .bool false, .int .i64 out, .bool true, Z, Z, Z, Z, Z, Z, Z, Z, Z, Z, Z, Z, Z, Z, Z, Z, Z, Z, Z, Z, Z, Z, Z, Z, Z]) hop (by kernel_rfl) (by decide) rfl (fun u' => (run_gtrb rfl rfl h2).1) (fun u' => (run_gtrb rfl rfl h2).2) (by kernel_rfl) ?_
 clear hop
 obtain ⟨_, _, _, hop⟩ := op17_1_5
 refine MGo.pureT (d := 13) (v := .bool true) (T := #[.int .i64 out, .slice ad ln cp, Z, Z, .bool false, Z, Z, Z, .int .i64 out, .bool false, .bool false, .int .i64 out, .bool true, .bool true, Z, Z, Z, Z, Z, Z, Z, Z, Z, Z, Z, Z, Z, Z, Z, Z, Z, Z, Z, Z, Z, Z, Z, Z]) hop (by kernel_rfl) (by decide) rfl (fun u' => (run_pick (B := false) rfl rfl).1) (fun u' => (run_pick (B := false) rfl rfl).2) (by kernel_rfl) ?_
 clear hop
 obtain ⟨_, _, _, hop⟩ := op17_1_6
 refine MGo.pureT (d := 14) (v := .bool true) (T := #[.int .i64 out, .slice ad ln cp, Z, Z, .bool false, Z, Z, Z, .int .i64 out, .bool false, .bool false, .int .i64 out, .bool true, .bool true, .bool true, Z, Z, Z, Z, Z, Z, Z, Z, Z, Z, Z, Z, Z, Z, Z, Z, Z, Z, Z, Z, Z, Z, Z]) hop (by kernel_rfl) (by decide) rfl (fun u' => run_move rfl) (fun u' => evs_move) (by kernel_rfl) ?_
 clear hop
 obtain ⟨_, _, _, hop⟩ := op17_1_7
 refine MGo.skipT (d := 15) (T := #[.int .i64 out, .slice ad ln cp, Z, Z, .bool false, Z, Z, Z, .int .i64 out, .bool false, .bool false, .int .i64 out, .bool true, .bool true, .bool true, Z, Z, Z, Z, Z, Z, Z, Z, Z, Z, Z, Z, Z, Z, Z, Z, Z, Z, Z, Z, Z, Z, Z]) hop (by kernel_rfl) rfl (by kernel_rfl) ?_
 clear hop
 obtain ⟨_, _, _, hop⟩ := op17_1_8
 refine MGo.skipT (d := 16) (T := #[.int .i64 out, .slice ad ln cp, Z, Z, .bool false, Z, Z, Z, .int .i64 out, .bool false, .bool false, .int .i64 out, .bool true, .bool true, .bool true, Z, Z, Z, Z, Z, Z, Z, Z, Z, Z, Z, Z, Z, Z, Z, Z, Z, Z, Z, Z, Z, Z, Z]) hop (by kernel_rfl) rfl (by kernel_rfl) ?_
 clear hop
 obtain ⟨_, _, _, hop⟩ := op17_1_9
 refine MGo.skipT (d := 17) (T := #[.int .i64 out, .slice ad ln cp, Z, Z, .bool false, Z, Z, Z, .int .i64 out, .bool false, .bool false, .int .i64 out, .bool true, .bool true, .bool true, Z, Z, Z, Z, Z, Z, Z, Z, Z, Z, Z, Z, Z, Z, Z, Z, Z, Z, Z, Z, Z, Z, Z]) hop (by kernel_rfl) rfl (by kernel_rfl) ?_
 clear hop
 obtain ⟨_, _, _, hop⟩ := op17_1_10
 refine MGo.pureT (d := 18) (v := .bool true) (T := #[.int .i64 out, .slice ad ln cp, Z, Z, .bool false, Z, Z, Z, .int .i64 out, .bool false, .bool false, .int .i64 out, .bool true, .bool true, .bool true, Z, Z, Z, .bool true, Z, Z, Z, Z, Z, Z, Z, Z, Z, Z, Z, Z, Z, Z, Z, Z, Z, Z, Z]) hop (by kernel_rfl) (by decide) rfl (fun u' => (run_pick (B := true) rfl rfl).1) (fun u' => (run_pick (B := true) rfl rfl).2) (by kernel_rfl) ?_
 clear hop
 refine MGo.ctl (fun _ => stepG_region_end) rfl rfl ?_
 refine MGo.ctl (fun _ => stepG_cond (t := true) rfl) rfl rfl ?_
 refine MGo.ctl (fun _ => stepG_seq) rfl rfl ?_
 refine MGo.ctl (fun _ => stepG_region) rfl rfl ?_
 rw [show List.range (opsAt Try.f46 2).size = [0] from by kernel_rfl]
 obtain ⟨_, _, _, hop⟩ := op17_2_0
 refine MGo.pureT (d := 4) (v := .bool false) (T := #[.int .i64 out, .slice ad ln cp, Z, Z, .bool false, Z, Z, Z, .int .i64 out, .bool false, .bool false, .int .i64 out, .bool true, .bool true, .bool true, Z, Z, Z, .bool true, Z, Z, Z, Z, Z, Z, Z, Z, Z, Z, Z, Z, Z, Z, Z, Z, Z, Z, Z]) hop rfl (by decide) rfl (fun u' => run_assign rfl) (fun u' => evs_assign) (by kernel_rfl) ?_
 clear hop
 refine MGo.ctl (fun _ => stepG_region_end) rfl rfl ?_
 refine MGo.ctl (fun _ => stepG_ret') rfl rfl ?_
 exact MGo.leave rfl rfl Try.func46 (fun u' => by simp [results, Try.results46]) (fun u' => by simp [results, Try.results46]) h
set_option maxRecDepth 4000 in
theorem mz_none (h1 : decide (out < 1) = false) (h2 : decide (10000000000000 < out) = false) (h : MGo Try.prog rd Stop m own (G (top.finish (.bool false)) cs) u) : MGo Try.prog rd Stop (m + 48) own (G (Frame.enter Try.prog 46 #[.int .i64 out, .slice ad 0 cp] .normal) (top :: cs)) u := by
 obtain ⟨X, hb17⟩ := body17
 rw [enter_at _ Try.func46 hb17, tm17]
 clear hb17
 refine MGo.ctl (fun _ => stepG_seq) rfl rfl ?_
 refine MGo.ctl (fun _ => stepG_region) rfl rfl ?_
 rw [show List.range (opsAt Try.f46 0).size = [0] from by kernel_rfl]
 obtain ⟨_, _, _, hop⟩ := op17_0_0
 refine MGo.pureT (d := 4) (v := .bool false) (T := #[.int .i64 out, .slice ad 0 cp, Z, Z, .bool false, Z, Z, Z, Z, Z, Z, Z, Z, Z, Z, Z, Z, Z, Z, Z, Z, Z, Z, Z, Z, Z, Z, Z, Z, Z, Z, Z, Z, Z, Z, Z, Z, Z]) hop rfl (by decide) rfl (fun u' => run_assign rfl) (fun u' => evs_assign) (by kernel_rfl) ?_
 clear hop
 refine MGo.ctl (fun _ => stepG_region_end) rfl rfl ?_
 refine MGo.ctl (fun _ => stepG_seq) rfl rfl ?_
 refine MGo.ctl (fun _ => stepG_seq) rfl rfl ?_
 refine MGo.ctl (fun _ => stepG_region) rfl rfl ?_
 rw [show List.range (opsAt Try.f46 1).size = [0, 1, 2, 3, 4, 5, 6, 7, 8, 9, 10] from by kernel_rfl]
 obtain ⟨_, _, _, hop⟩ := op17_1_0
 refine MGo.pureT (d := 8) (v := .int .i64 out) (T := #[.int .i64 out, .slice ad 0 cp, Z, Z, .bool false, Z, Z, Z, .int .i64 out, Z, Z, Z, Z, Z, Z, Z, Z, Z, Z, Z, Z, Z, Z, Z, Z, Z, Z, Z, Z, Z, Z, Z, Z, Z, Z, Z, Z, Z]) hop (by kernel_rfl) (by decide) rfl (fun u' => run_move rfl) (fun u' => evs_move) (by kernel_rfl) ?_
 clear hop
 obtain ⟨_, _, _, hop⟩ := op17_1_1
 refine MGo.pureT (d := 9) (v := .bool false) (T := #[.int .i64 out, .slice ad 0 cp, Z, Z, .bool false, Z, Z, Z, .int .i64 out, .bool false, Z, Z, Z, Z, Z, Z, Z, Z, Z, Z, Z, Z, Z, Z, Z, Z, Z, Z, Z, Z, Z, Z, Z, Z, Z, Z, Z, Z]) hop (by kernel_rfl) (by decide) rfl (fun u' => (run_lss2 rfl rfl h1).1) (fun u' => (run_lss2 rfl rfl h1).2) (by kernel_rfl) ?_
 clear hop
 obtain ⟨_, _, _, hop⟩ := op17_1_2
 refine MGo.pureT (d := 10) (v := .bool false) (T := #[.int .i64 out, .slice ad 0 cp, Z, Z, .bool false, Z, Z, Z, .int .i64 out, .bool false, .bool false, Z, Z, Z, Z, Z, Z, Z, Z, Z, Z, Z, Z, Z, Z, Z, Z, Z, Z, Z, Z, Z, Z, Z, Z, Z, Z, Z]) hop (by kernel_rfl) (by decide) rfl (fun u' => run_move rfl) (fun u' => evs_move) (by kernel_rfl) ?_
 clear hop
 obtain ⟨_, _, _, hop⟩ := op17_1_3
 refine MGo.pureT (d := 11) (v := .int .i64 out) (T := #[.int .i64 out, .slice ad 0 cp, Z, Z, .bool false, Z, Z, Z, .int .i64 out, .bool false, .bool false, .int .i64 out, Z, Z, Z, Z, Z, Z, Z, Z, Z, Z, Z, Z, Z, Z, Z, Z, Z, Z, Z, Z, Z, Z, Z, Z, Z, Z]) hop (by kernel_rfl) (by decide) rfl (fun u' => run_move rfl) (fun u' => evs_move) (by kernel_rfl) ?_
 clear hop
 obtain ⟨_, _, _, hop⟩ := op17_1_4
 refine MGo.pureT (d := 12) (v := .bool false) (T := #[.int .i64 out, .slice ad 0 cp, Z, Z, .bool false, Z, Z, Z, .int .i64 out, .bool false, .bool false, .int .i64 out, .bool false, Z, Z, Z, Z, Z, Z, Z, Z, Z, Z, Z, Z, Z, Z, Z, Z, Z, Z, Z, Z, Z, Z, Z, Z, Z]) hop (by kernel_rfl) (by decide) rfl (fun u' => (run_gtrb rfl rfl h2).1) (fun u' => (run_gtrb rfl rfl h2).2) (by kernel_rfl) ?_
 clear hop
 obtain ⟨_, _, _, hop⟩ := op17_1_5
 refine MGo.pureT (d := 13) (v := .bool false) (T := #[.int .i64 out, .slice ad 0 cp, Z, Z, .bool false, Z, Z, Z, .int .i64 out, .bool false, .bool false, .int .i64 out, .bool false, .bool false, Z, Z, Z, Z, Z, Z, Z, Z, Z, Z, Z, Z, Z, Z, Z, Z, Z, Z, Z, Z, Z, Z, Z, Z]) hop (by kernel_rfl) (by decide) rfl (fun u' => (run_pick (B := false) rfl rfl).1) (fun u' => (run_pick (B := false) rfl rfl).2) (by kernel_rfl) ?_
 clear hop
 obtain ⟨_, _, _, hop⟩ := op17_1_6
 refine MGo.pureT (d := 14) (v := .bool false) (T := #[.int .i64 out, .slice ad 0 cp, Z, Z, .bool false, Z, Z, Z, .int .i64 out, .bool false, .bool false, .int .i64 out, .bool false, .bool false, .bool false, Z, Z, Z, Z, Z, Z, Z, Z, Z, Z, Z, Z, Z, Z, Z, Z, Z, Z, Z, Z, Z, Z, Z]) hop (by kernel_rfl) (by decide) rfl (fun u' => run_move rfl) (fun u' => evs_move) (by kernel_rfl) ?_
 clear hop
 obtain ⟨_, _, _, hop⟩ := op17_1_7
 refine MGo.pureT (d := 15) (v := .slice ad 0 cp) (T := #[.int .i64 out, .slice ad 0 cp, Z, Z, .bool false, Z, Z, Z, .int .i64 out, .bool false, .bool false, .int .i64 out, .bool false, .bool false, .bool false, .slice ad 0 cp, Z, Z, Z, Z, Z, Z, Z, Z, Z, Z, Z, Z, Z, Z, Z, Z, Z, Z, Z, Z, Z, Z]) hop (by kernel_rfl) (by decide) rfl (fun u' => run_move rfl) (fun u' => evs_move) (by kernel_rfl) ?_
 clear hop
 obtain ⟨_, _, _, hop⟩ := op17_1_8
 refine MGo.pureT (d := 16) (v := .int .i64 0) (T := #[.int .i64 out, .slice ad 0 cp, Z, Z, .bool false, Z, Z, Z, .int .i64 out, .bool false, .bool false, .int .i64 out, .bool false, .bool false, .bool false, .slice ad 0 cp, .int .i64 0, Z, Z, Z, Z, Z, Z, Z, Z, Z, Z, Z, Z, Z, Z, Z, Z, Z, Z, Z, Z, Z]) hop (by kernel_rfl) (by decide) rfl (fun u' => (run_len0 rfl).1) (fun u' => (run_len0 rfl).2) (by kernel_rfl) ?_
 clear hop
 obtain ⟨_, _, _, hop⟩ := op17_1_9
 refine MGo.pureT (d := 17) (v := .bool false) (T := #[.int .i64 out, .slice ad 0 cp, Z, Z, .bool false, Z, Z, Z, .int .i64 out, .bool false, .bool false, .int .i64 out, .bool false, .bool false, .bool false, .slice ad 0 cp, .int .i64 0, .bool false, Z, Z, Z, Z, Z, Z, Z, Z, Z, Z, Z, Z, Z, Z, Z, Z, Z, Z, Z, Z]) hop (by kernel_rfl) (by decide) rfl (fun u' => (run_gtr3 (a := 0) (b := 600) (B := false) rfl rfl rfl).1) (fun u' => (run_gtr3 (a := 0) (b := 600) (B := false) rfl rfl rfl).2) (by kernel_rfl) ?_
 clear hop
 obtain ⟨_, _, _, hop⟩ := op17_1_10
 refine MGo.pureT (d := 18) (v := .bool false) (T := #[.int .i64 out, .slice ad 0 cp, Z, Z, .bool false, Z, Z, Z, .int .i64 out, .bool false, .bool false, .int .i64 out, .bool false, .bool false, .bool false, .slice ad 0 cp, .int .i64 0, .bool false, .bool false, Z, Z, Z, Z, Z, Z, Z, Z, Z, Z, Z, Z, Z, Z, Z, Z, Z, Z, Z]) hop (by kernel_rfl) (by decide) rfl (fun u' => (run_pick (B := false) rfl rfl).1) (fun u' => (run_pick (B := false) rfl rfl).2) (by kernel_rfl) ?_
 clear hop
 refine MGo.ctl (fun _ => stepG_region_end) rfl rfl ?_
 refine MGo.ctl (fun _ => stepG_cond (t := false) rfl) rfl rfl ?_
 refine MGo.ctl (fun _ => stepG_skip) rfl rfl ?_
 refine MGo.ctl (fun _ => stepG_seq) rfl rfl ?_
 refine MGo.ctl (fun _ => stepG_region) rfl rfl ?_
 rw [show List.range (opsAt Try.f46 3).size = [0] from by kernel_rfl]
 obtain ⟨_, _, _, hop⟩ := op17_3_0
 refine MGo.pureT (d := 5) (v := .bool false) (T := #[.int .i64 out, .slice ad 0 cp, Z, Z, .bool false, .bool false, Z, Z, .int .i64 out, .bool false, .bool false, .int .i64 out, .bool false, .bool false, .bool false, .slice ad 0 cp, .int .i64 0, .bool false, .bool false, Z, Z, Z, Z, Z, Z, Z, Z, Z, Z, Z, Z, Z, Z, Z, Z, Z, Z, Z]) hop rfl (by decide) rfl (fun u' => run_assign rfl) (fun u' => evs_assign) (by kernel_rfl) ?_
 clear hop
 refine MGo.ctl (fun _ => stepG_region_end) rfl rfl ?_
 refine MGo.ctl (fun _ => stepG_seq) rfl rfl ?_
 refine MGo.ctl (fun _ => stepG_seq) rfl rfl ?_
 refine MGo.ctl (fun _ => stepG_region) rfl rfl ?_
 rw [show List.range (opsAt Try.f46 4).size = [0, 1, 2] from by kernel_rfl]
 obtain ⟨_, _, _, hop⟩ := op17_4_0
 refine MGo.pureT (d := 19) (v := .slice ad 0 cp) (T := #[.int .i64 out, .slice ad 0 cp, Z, Z, .bool false, .bool false, Z, Z, .int .i64 out, .bool false, .bool false, .int .i64 out, .bool false, .bool false, .bool false, .slice ad 0 cp, .int .i64 0, .bool false, .bool false, .slice ad 0 cp, Z, Z, Z, Z, Z, Z, Z, Z, Z, Z, Z, Z, Z, Z, Z, Z, Z, Z]) hop rfl (by decide) rfl (fun u' => run_move rfl) (fun u' => evs_move) (by kernel_rfl) ?_
 clear hop
 obtain ⟨_, _, _, hop⟩ := op17_4_1
 refine MGo.pureT (d := 20) (v := .int .i64 0) (T := #[.int .i64 out, .slice ad 0 cp, Z, Z, .bool false, .bool false, Z, Z, .int .i64 out, .bool false, .bool false, .int .i64 out, .bool false, .bool false, .bool false, .slice ad 0 cp, .int .i64 0, .bool false, .bool false, .slice ad 0 cp, .int .i64 0, Z, Z, Z, Z, Z, Z, Z, Z, Z, Z, Z, Z, Z, Z, Z, Z, Z]) hop rfl (by decide) rfl (fun u' => (run_len0 rfl).1) (fun u' => (run_len0 rfl).2) (by kernel_rfl) ?_
 clear hop
 obtain ⟨_, _, _, hop⟩ := op17_4_2
 refine MGo.pureT (d := 21) (v := .int .i64 0) (T := #[.int .i64 out, .slice ad 0 cp, Z, Z, .bool false, .bool false, Z, Z, .int .i64 out, .bool false, .bool false, .int .i64 out, .bool false, .bool false, .bool false, .slice ad 0 cp, .int .i64 0, .bool false, .bool false, .slice ad 0 cp, .int .i64 0, .int .i64 0, Z, Z, Z, Z, Z, Z, Z, Z, Z, Z, Z, Z, Z, Z, Z, Z]) hop rfl (by decide) rfl (fun u' => run_move rfl) (fun u' => evs_move) (by kernel_rfl) ?_
 clear hop
 refine MGo.ctl (fun _ => stepG_region_end) rfl rfl ?_
 refine MGo.ctl (fun _ => stepG_block) rfl rfl ?_
 refine MGo.ctl (fun _ => stepG_loop) rfl rfl ?_
 refine MGo.ctl (fun _ => stepG_seq) rfl rfl ?_
 refine MGo.ctl (fun _ => stepG_region) rfl rfl ?_
 rw [show List.range (opsAt Try.f46 5).size = [0] from by kernel_rfl]
 obtain ⟨_, _, _, hop⟩ := op17_5_0
 refine MGo.pureT (d := 22) (v := .bool false) (T := #[.int .i64 out, .slice ad 0 cp, Z, Z, .bool false, .bool false, Z, Z, .int .i64 out, .bool false, .bool false, .int .i64 out, .bool false, .bool false, .bool false, .slice ad 0 cp, .int .i64 0, .bool false, .bool false, .slice ad 0 cp, .int .i64 0, .int .i64 0, .bool false, Z, Z, Z, Z, Z, Z, Z, Z, Z, Z, Z, Z, Z, Z, Z]) hop rfl (by decide) rfl (fun u' => (run_lss3 (a := 0) (b := 0) (B := false) rfl rfl rfl).1) (fun u' => (run_lss3 (a := 0) (b := 0) (B := false) rfl rfl rfl).2) (by kernel_rfl) ?_
 clear hop
 refine MGo.ctl (fun _ => stepG_region_end) rfl rfl ?_
 refine MGo.ctl (fun _ => stepG_seq) rfl rfl ?_
 refine MGo.ctl (fun _ => stepG_cond (t := false) rfl) rfl rfl ?_
 refine MGo.ctl (fun _ => stepG_exit rfl) rfl rfl ?_
 refine MGo.ctl (fun _ => stepG_seq) rfl rfl ?_
 refine MGo.ctl (fun _ => stepG_region) rfl rfl ?_
 rw [show List.range (opsAt Try.f46 11).size = [0, 1] from by kernel_rfl]
 obtain ⟨_, _, _, hop⟩ := op17_11_0
 refine MGo.pureT (d := 37) (v := .bool false) (T := #[.int .i64 out, .slice ad 0 cp, Z, Z, .bool false, .bool false, Z, Z, .int .i64 out, .bool false, .bool false, .int .i64 out, .bool false, .bool false, .bool false, .slice ad 0 cp, .int .i64 0, .bool false, .bool false, .slice ad 0 cp, .int .i64 0, .int .i64 0, .bool false, Z, Z, Z, Z, Z, Z, Z, Z, Z, Z, Z, Z, Z, Z, .bool false]) hop rfl (by decide) rfl (fun u' => run_move rfl) (fun u' => evs_move) (by kernel_rfl) ?_
 clear hop
 obtain ⟨_, _, _, hop⟩ := op17_11_1
 refine MGo.pureT (d := 4) (v := .bool false) (T := #[.int .i64 out, .slice ad 0 cp, Z, Z, .bool false, .bool false, Z, Z, .int .i64 out, .bool false, .bool false, .int .i64 out, .bool false, .bool false, .bool false, .slice ad 0 cp, .int .i64 0, .bool false, .bool false, .slice ad 0 cp, .int .i64 0, .int .i64 0, .bool false, Z, Z, Z, Z, Z, Z, Z, Z, Z, Z, Z, Z, Z, Z, .bool false]) hop rfl (by decide) rfl (fun u' => run_assign rfl) (fun u' => evs_assign) (by kernel_rfl) ?_
 clear hop
 refine MGo.ctl (fun _ => stepG_region_end) rfl rfl ?_
 refine MGo.ctl (fun _ => stepG_ret') rfl rfl ?_
 exact MGo.leave rfl rfl Try.func46 (fun u' => by simp [results, Try.results46]) (fun u' => by simp [results, Try.results46]) h
set_option maxRecDepth 4000 in
theorem mz_long (h1 : decide (out < 1) = false) (h2 : decide (10000000000000 < out) = false) (h3 : decide ((600 : Int) < (ln : Int)) = true) (h : MGo Try.prog rd Stop m own (G (top.finish (.bool false)) cs) u) : MGo Try.prog rd Stop (m + 26) own (G (Frame.enter Try.prog 46 #[.int .i64 out, .slice ad ln cp] .normal) (top :: cs)) u := by
 obtain ⟨X, hb17⟩ := body17
 rw [enter_at _ Try.func46 hb17, tm17]
 clear hb17
 refine MGo.ctl (fun _ => stepG_seq) rfl rfl ?_
 refine MGo.ctl (fun _ => stepG_region) rfl rfl ?_
 rw [show List.range (opsAt Try.f46 0).size = [0] from by kernel_rfl]
 obtain ⟨_, _, _, hop⟩ := op17_0_0
 refine MGo.pureT (d := 4) (v := .bool false) (T := #[.int .i64 out, .slice ad ln cp, Z, Z, .bool false, Z, Z, Z, Z, Z, Z, Z, Z, Z, Z, Z, Z, Z, Z, Z, Z, Z, Z, Z, Z, Z, Z, Z, Z, Z, Z, Z, Z, Z, Z, Z, Z, Z]) hop rfl (by decide) rfl (fun u' => run_assign rfl) (fun u' => evs_assign) (by kernel_rfl) ?_
 clear hop
 refine MGo.ctl (fun _ => stepG_region_end) rfl rfl ?_
 refine MGo.ctl (fun _ => stepG_seq) rfl rfl ?_
 refine MGo.ctl (fun _ => stepG_seq) rfl rfl ?_
 refine MGo.ctl (fun _ => stepG_region) rfl rfl ?_
 rw [show List.range (opsAt Try.f46 1).size = [0, 1, 2, 3, 4, 5, 6, 7, 8, 9, 10] from by kernel_rfl]
 obtain ⟨_, _, _, hop⟩ := op17_1_0
 refine MGo.pureT (d := 8) (v := .int .i64 out) (T := #[.int .i64 out, .slice ad ln cp, Z, Z, .bool false, Z, Z, Z, .int .i64 out, Z, Z, Z, Z, Z, Z, Z, Z, Z, Z, Z, Z, Z, Z, Z, Z, Z, Z, Z, Z, Z, Z, Z, Z, Z, Z, Z, Z, Z]) hop (by kernel_rfl) (by decide) rfl (fun u' => run_move rfl) (fun u' => evs_move) (by kernel_rfl) ?_
 clear hop
 obtain ⟨_, _, _, hop⟩ := op17_1_1
 refine MGo.pureT (d := 9) (v := .bool false) (T := #[.int .i64 out, .slice ad ln cp, Z, Z, .bool false, Z, Z, Z, .int .i64 out, .bool false, Z, Z, Z, Z, Z, Z, Z, Z, Z, Z, Z, Z, Z, Z, Z, Z, Z, Z, Z, Z, Z, Z, Z, Z, Z, Z, Z, Z]) hop (by kernel_rfl) (by decide) rfl (fun u' => (run_lss2 rfl rfl h1).1) (fun u' => (run_lss2 rfl rfl h1).2) (by kernel_rfl) ?_
 clear hop
 obtain ⟨_, _, _, hop⟩ := op17_1_2
 refine MGo.pureT (d := 10) (v := .bool false) (T := #[.int .i64 out, .slice ad ln cp, Z, Z, .bool false, Z, Z, Z, .int .i64 out, .bool false, .bool false, Z, Z, Z, Z, Z, Z, Z, Z, Z, Z, Z, Z, Z, Z, Z, Z, Z, Z, Z, Z, Z, Z, Z, Z, Z, Z, Z]) hop (by kernel_rfl) (by decide) rfl (fun u' => run_move rfl) (fun u' => evs_move) (by kernel_rfl) ?_
 clear hop
 obtain ⟨_, _, _, hop⟩ := op17_1_3
 refine MGo.pureT (d := 11) (v := .int .i64 out) (T := #[.int .i64 out, .slice ad ln cp, Z, Z, .bool false, Z, Z, Z, .int .i64 out, .bool false, .bool false, .int .i64 out, Z, Z, Z, Z, Z, Z, Z, Z, Z, Z, Z, Z, Z, Z, Z, Z, Z, Z, Z, Z, Z, Z, Z, Z, Z, Z]) hop (by kernel_rfl) (by decide) rfl (fun u' => run_move rfl) (fun u' => evs_move) (by kernel_rfl) ?_
 clear hop
 obtain ⟨_, _, _, hop⟩ := op17_1_4
 refine MGo.pureT (d := 12) (v := .bool false) (T := #[.int .i64 out, .slice ad ln cp, Z, Z, .bool false, Z, Z, Z, .int .i64 out, .bool false, .bool false, .int .i64 out, .bool false, Z, Z, Z, Z, Z, Z, Z, Z, Z, Z, Z, Z, Z, Z, Z, Z, Z, Z, Z, Z, Z, Z, Z, Z, Z]) hop (by kernel_rfl) (by decide) rfl (fun u' => (run_gtrb rfl rfl h2).1) (fun u' => (run_gtrb rfl rfl h2).2) (by kernel_rfl) ?_
 clear hop
 obtain ⟨_, _, _, hop⟩ := op17_1_5
 refine MGo.pureT (d := 13) (v := .bool false) (T := #[.int .i64 out, .slice ad ln cp, Z, Z, .bool false, Z, Z, Z, .int .i64 out, .bool false, .bool false, .int .i64 out, .bool false, .bool false, Z, Z, Z, Z, Z, Z, Z, Z, Z, Z, Z, Z, Z, Z, Z, Z, Z, Z, Z, Z, Z, Z, Z, Z]) hop (by kernel_rfl) (by decide) rfl (fun u' => (run_pick (B := false) rfl rfl).1) (fun u' => (run_pick (B := false) rfl rfl).2) (by kernel_rfl) ?_
 clear hop
 obtain ⟨_, _, _, hop⟩ := op17_1_6
 refine MGo.pureT (d := 14) (v := .bool false) (T := #[.int .i64 out, .slice ad ln cp, Z, Z, .bool false, Z, Z, Z, .int .i64 out, .bool false, .bool false, .int .i64 out, .bool false, .bool false, .bool false, Z, Z, Z, Z, Z, Z, Z, Z, Z, Z, Z, Z, Z, Z, Z, Z, Z, Z, Z, Z, Z, Z, Z]) hop (by kernel_rfl) (by decide) rfl (fun u' => run_move rfl) (fun u' => evs_move) (by kernel_rfl) ?_
 clear hop
 obtain ⟨_, _, _, hop⟩ := op17_1_7
 refine MGo.pureT (d := 15) (v := .slice ad ln cp) (T := #[.int .i64 out, .slice ad ln cp, Z, Z, .bool false, Z, Z, Z, .int .i64 out, .bool false, .bool false, .int .i64 out, .bool false, .bool false, .bool false, .slice ad ln cp, Z, Z, Z, Z, Z, Z, Z, Z, Z, Z, Z, Z, Z, Z, Z, Z, Z, Z, Z, Z, Z, Z]) hop (by kernel_rfl) (by decide) rfl (fun u' => run_move rfl) (fun u' => evs_move) (by kernel_rfl) ?_
 clear hop
 obtain ⟨_, _, _, hop⟩ := op17_1_8
 refine MGo.pureT (d := 16) (v := .int .i64 ln) (T := #[.int .i64 out, .slice ad ln cp, Z, Z, .bool false, Z, Z, Z, .int .i64 out, .bool false, .bool false, .int .i64 out, .bool false, .bool false, .bool false, .slice ad ln cp, .int .i64 ln, Z, Z, Z, Z, Z, Z, Z, Z, Z, Z, Z, Z, Z, Z, Z, Z, Z, Z, Z, Z, Z]) hop (by kernel_rfl) (by decide) rfl (fun u' => (run_lenv rfl).1) (fun u' => (run_lenv rfl).2) (by kernel_rfl) ?_
 clear hop
 obtain ⟨_, _, _, hop⟩ := op17_1_9
 refine MGo.pureT (d := 17) (v := .bool true) (T := #[.int .i64 out, .slice ad ln cp, Z, Z, .bool false, Z, Z, Z, .int .i64 out, .bool false, .bool false, .int .i64 out, .bool false, .bool false, .bool false, .slice ad ln cp, .int .i64 ln, .bool true, Z, Z, Z, Z, Z, Z, Z, Z, Z, Z, Z, Z, Z, Z, Z, Z, Z, Z, Z, Z]) hop (by kernel_rfl) (by decide) rfl (fun u' => (run_gtr3 (a := ln) (b := 600) rfl rfl h3).1) (fun u' => (run_gtr3 (a := ln) (b := 600) rfl rfl h3).2) (by kernel_rfl) ?_
 clear hop
 obtain ⟨_, _, _, hop⟩ := op17_1_10
 refine MGo.pureT (d := 18) (v := .bool true) (T := #[.int .i64 out, .slice ad ln cp, Z, Z, .bool false, Z, Z, Z, .int .i64 out, .bool false, .bool false, .int .i64 out, .bool false, .bool false, .bool false, .slice ad ln cp, .int .i64 ln, .bool true, .bool true, Z, Z, Z, Z, Z, Z, Z, Z, Z, Z, Z, Z, Z, Z, Z, Z, Z, Z, Z]) hop (by kernel_rfl) (by decide) rfl (fun u' => (run_pick (B := false) rfl rfl).1) (fun u' => (run_pick (B := false) rfl rfl).2) (by kernel_rfl) ?_
 clear hop
 refine MGo.ctl (fun _ => stepG_region_end) rfl rfl ?_
 refine MGo.ctl (fun _ => stepG_cond (t := true) rfl) rfl rfl ?_
 refine MGo.ctl (fun _ => stepG_seq) rfl rfl ?_
 refine MGo.ctl (fun _ => stepG_region) rfl rfl ?_
 rw [show List.range (opsAt Try.f46 2).size = [0] from by kernel_rfl]
 obtain ⟨_, _, _, hop⟩ := op17_2_0
 refine MGo.pureT (d := 4) (v := .bool false) (T := #[.int .i64 out, .slice ad ln cp, Z, Z, .bool false, Z, Z, Z, .int .i64 out, .bool false, .bool false, .int .i64 out, .bool false, .bool false, .bool false, .slice ad ln cp, .int .i64 ln, .bool true, .bool true, Z, Z, Z, Z, Z, Z, Z, Z, Z, Z, Z, Z, Z, Z, Z, Z, Z, Z, Z]) hop rfl (by decide) rfl (fun u' => run_assign rfl) (fun u' => evs_assign) (by kernel_rfl) ?_
 clear hop
 refine MGo.ctl (fun _ => stepG_region_end) rfl rfl ?_
 refine MGo.ctl (fun _ => stepG_ret') rfl rfl ?_
 exact MGo.leave rfl rfl Try.func46 (fun u' => by simp [results, Try.results46]) (fun u' => by simp [results, Try.results46]) h
end
theorem mz_leads (out : Int) (ad : Option Addr) (ln cp : Nat) (hl : ln = 0 ∨ 600 < ln) (top : Frame) (cs : List Frame) : Leads Try.prog (G (Frame.enter Try.prog 46 #[.int .i64 out, .slice ad ln cp] .normal) (top :: cs)) (G (top.finish (.bool false)) cs) := by
 by_cases h1 : out < 1
 ·exact ⟨_, fun _ _ _ _ _ h => mz_low (decide_eq_true h1) h⟩
 ·by_cases h2 : 10000000000000 < out
  ·exact ⟨_, fun _ _ _ _ _ h => mz_high (decide_eq_false h1) (decide_eq_true h2) h⟩
  ·rcases hl with rfl | hl
   ·exact ⟨_, fun _ _ _ _ _ h => mz_none (decide_eq_false h1) (decide_eq_false h2) h⟩
   ·exact ⟨_, fun _ _ _ _ _ h => mz_long (decide_eq_false h1) (decide_eq_false h2) (decide_eq_true (by omega)) h⟩
section
variable [Glob]
theorem solve_none {out : Int} {ad : Option Addr} {ln cp : Nat} (hl : ln = 0 ∨ 600 < ln) {g0 : Goroutine} {gs : Array Goroutine} {u : World} {sl : Option (Nat × Nat)} {t : Trace} {top : Frame} {cs : List Frame}
  (hF : Alone Try.prog g0 gs u t) (hlead : Leads Try.prog g0 (G (Frame.enter Try.prog 15 #[.int .i64 out, .slice ad ln cp] .normal) (top :: cs))) :
  ∃ N gs' u' sl' t' g0', runNT Try.prog N (crowd gs u sl) t = (.next (crowd gs' u' sl'), t') ∧ Alone Try.prog g0' gs' u' t' ∧ Leads Try.prog g0' (G (top.finish (two 0 2)) cs) ∧ Old u u' := by
 obtain ⟨K, hlead⟩ := hlead
 obtain ⟨m, hm⟩ := slv_in (rd := fun b => b < u.heap.size) (own := fun _ => False) (u := u) (cs := top :: cs) (out := out) (ad := ad) (ln := ln) (cp := cp) (fun b hb => hb.elim False.elim id)
 obtain ⟨N1, gs1, u1, sl1, t1, g1, ow, e1, F1', old1, _, p, q, am⟩ := alone_to (sl := sl) hF (hlead _ _ _ _ _ hm)
 obtain rfl := am.here
 exact ⟨N1, gs1, u1, sl1, t1, _, e1, F1', (mz_leads out ad ln cp hl _ _).trans ⟨_, fun _ _ _ _ _ h => slv_no h⟩, old1⟩
end
end Go.Proofs.Ytpeoabopeihadaa.Sim
/- Plain facts on the rate that an outlay and amounts bear: what is covered at a rate is covered at a lower one; the greatest rate is the only one that fits; a loan's payments. No program in this text. Made ahead of stage 10. -/
namespace Go.Proofs.Ytpeoabopeihadaa.Mn
open Go.RowKit
theorem worth_less {r s : Int} (h : May r) (h' : May s) (hrs : r ≤ s) : ∀ {l m : List Int}, l.length = m.length → (∀ x ∈ l, 0 ≤ x) → (∀ i, l.getD i 0 ≤ m.getD i 0) → worth s l ≤ worth r m
 | [], [], _, _, _ => by simp [worth]
 | [], _ :: _, e, _, _ => by simp at e
 | _ :: _, [], e, _, _ => by simp at e
 | x :: l, y :: m, e, hl, hm => by
  have a := worth_less h h' hrs (l := l) (m := m) (by simpa using e) (fun z hz => hl z (List.mem_cons_of_mem x hz)) (fun i => by simpa using hm (i + 1))
  have b := worth_nonneg h' (fun z hz => hl z (List.mem_cons_of_mem x hz))
  have c := hl x List.mem_cons_self
  have d : x ≤ y := by simpa using hm 0
  have f := qD_mono (x := worth s l + x) (y := worth r m + y) h' (by omega)
  have g := qD_anti (x := worth r m + y) h hrs (by omega)
  exact Int.le_trans f g
theorem fits_less {r s : Int} (h : May r) (h' : May s) (hrs : r ≤ s) : ∀ {l m : List Int}, l.length = m.length → (∀ x ∈ l, 0 ≤ x) → (∀ i, l.getD i 0 ≤ m.getD i 0) → fits r m = true → fits s l = true
 | [], _, _, _, _, _ => rfl
 | _ :: _, [], e, _, _, _ => by simp at e
 | x :: l, y :: m, e, hl, hm, hf => by
  have hl' : ∀ z ∈ l, 0 ≤ z := fun z hz => hl z (List.mem_cons_of_mem x hz)
  have hm' : ∀ i, l.getD i 0 ≤ m.getD i 0 := fun i => by simpa using hm (i + 1)
  have e' : l.length = m.length := by simpa using e
  have hf' := Bool.and_eq_true _ _ ▸ hf
  have k := fitB_iff.mp hf'.2
  have w1 := worth_less h h' hrs (l := x :: l) (m := y :: m) e hl hm
  have w2 := worth_nonneg h' (l := x :: l) hl
  have w3 := worth_less h h' hrs e' hl' hm'
  have w4 := worth_nonneg h' hl'
  have c := hl x List.mem_cons_self
  have d : x ≤ y := by simpa using hm 0
  unfold fits
  rw [fits_less h h' hrs e' hl' hm' hf'.1, Bool.true_and]
  exact fitB_iff.mpr ⟨⟨by omega, by have := k.1.hi; omega⟩, by omega, by omega⟩
def fine (l : List Int) : List Int := l.map (· * 1000)
theorem fine_len (l : List Int) : (fine l).length = l.length := by simp [fine]
theorem fine_pos {l : List Int} (h : ∀ x ∈ l, 0 ≤ x) : ∀ x ∈ fine l, 0 ≤ x := by
 intro x hx
 obtain ⟨y, hy, rfl⟩ := List.mem_map.mp hx
 have := h y hy
 omega
theorem fine_getD (l : List Int) (i : Nat) : (fine l).getD i 0 = l.getD i 0 * 1000 := by
 unfold fine
 simp only [List.getD, List.getElem?_map]
 cases l[i]? <;> simp
theorem fine_le {l m : List Int} (h : ∀ i, l.getD i 0 ≤ m.getD i 0) (i : Nat) : (fine l).getD i 0 ≤ (fine m).getD i 0 := by
 rw [fine_getD, fine_getD]
 have := h i
 omega
def cov (o : Int) (l : List Int) (r : Int) : Bool := !fits r (fine l) || decide (1000 * o ≤ worth r (fine l))
theorem cov_of {o : Int} {l : List Int} {r : Int} (h : 1000 * o ≤ worth r (fine l)) : cov o l r = true := by
 unfold cov
 rw [decide_eq_true h, Bool.or_true]
theorem cov_over {o : Int} {l : List Int} {r : Int} (h : fits r (fine l) = false) : cov o l r = true := by
 unfold cov
 rw [h]
 rfl
theorem cov_yes {o : Int} {l : List Int} {r : Int} : cov o l r = true ↔ fits r (fine l) = false ∨ 1000 * o ≤ worth r (fine l) := by
 unfold cov
 cases fits r (fine l) <;> simp
theorem cov_more {o o' : Int} {l m : List Int} {r s : Int} (h : May r) (h' : May s) (hrs : r ≤ s) (ho : o ≤ o') (e : l.length = m.length) (hl : ∀ x ∈ l, 0 ≤ x) (hm : ∀ i, l.getD i 0 ≤ m.getD i 0) (hc : cov o' l s = true) : cov o m r = true := by
 have e' : (fine l).length = (fine m).length := by rw [fine_len, fine_len, e]
 rcases cov_yes.mp hc with a | a
 ·cases b : fits r (fine m) with
  | false => exact cov_over b
  | true =>
   rw [fits_less h h' hrs e' (fine_pos hl) (fine_le hm) b] at a
   exact absurd a (by decide)
 ·have := worth_less h h' hrs e' (fine_pos hl) (fine_le hm)
  exact cov_of (by omega)
theorem cov_rate {o : Int} {l : List Int} {r s : Int} (h : May r) (h' : May s) (hrs : r ≤ s) (hl : ∀ x ∈ l, 0 ≤ x) (hc : cov o l s = true) : cov o l r = true := cov_more h h' hrs (Int.le_refl _) rfl hl (fun _ => Int.le_refl _) hc
structure IsEir (o : Int) (l : List Int) (r : Int) : Prop where
 lo : -990000000000 ≤ r
 hi : r < 10000000000000
 yes : cov o l r = true
 no : cov o l (r + 1) = false
theorem IsEir.le {o o' : Int} {l m : List Int} {r s : Int} (h : IsEir o l r) (g : IsEir o' m s) (ho : o ≤ o') (e : m.length = l.length) (hl : ∀ x ∈ m, 0 ≤ x) (hm : ∀ i, m.getD i 0 ≤ l.getD i 0) : s ≤ r := by
 rcases Int.lt_or_le r s with c | c
 ·have a := h.lo
  have a' := g.lo
  have b := g.hi
  have := cov_more (r := r + 1) (s := s) (o := o) (o' := o') (l := m) (m := l) ⟨by omega, by omega⟩ ⟨a', by omega⟩ (by omega) ho e hl hm g.yes
  rw [h.no] at this
  exact absurd this (by decide)
 ·exact c
theorem IsEir.only {o : Int} {l : List Int} {r s : Int} (h : IsEir o l r) (g : IsEir o l s) (hl : ∀ x ∈ l, 0 ≤ x) : r = s :=
 Int.le_antisymm (g.le h (Int.le_refl _) rfl hl (fun _ => Int.le_refl _)) (h.le g (Int.le_refl _) rfl hl (fun _ => Int.le_refl _))
theorem eir_none {o : Int} {l : List Int} {r : Int} (hl : ∀ x ∈ l, 0 ≤ x) (h : IsEir o l r) : cov o l (-990000000000) = true ∧ cov o l 10000000000000 = false := by
 have a := h.lo
 have b := h.hi
 refine ⟨cov_rate ⟨by omega, by omega⟩ ⟨a, by omega⟩ a hl h.yes, ?_⟩
 cases c : cov o l 10000000000000 with
 | false => rfl
 | true =>
  have := cov_rate (r := r + 1) ⟨by omega, by omega⟩ ⟨by omega, by omega⟩ (by omega) hl c
  rw [h.no] at this
  exact absurd this (by decide)
end Go.Proofs.Ytpeoabopeihadaa.Mn
/- eir.Fits, lone. -/
namespace Go.Proofs.Ytpeoabopeihadaa.Mn
open Go.RowKit
attribute [local simp] Tri.typeInfo Tri.sizeOf Tri.underlying Tri.runUnderlying Tri.isAgg Tri.zeroValue Tri.depth Tri.stoodInHeld Tri.eqGuardType Tri.call15 Tri.call16 Tri.call26 Tri.call27 Tri.call28 Tri.call29 Tri.call30 Tri.call31 Tri.call46 Tri.call49 Tri.call50 Tri.call51 Tri.call52 Tri.call53 Tri.call54 Tri.call65 Tri.call66 Tri.call68 Tri.call69 Tri.call70 Tri.call71 Tri.call72 Tri.call73 Tri.call74 Tri.call75 Tri.call82 Tri.call84 Tri.call85 Tri.call86 Tri.call95 Tri.call101 Tri.call106 Tri.call107 Tri.call116 Tri.call117 Tri.call118 Tri.call119 Tri.call120 Tri.call122 Tri.call123 Tri.call124 Tri.call125 Tri.call126 Tri.call135 Tri.call137 Tri.call143 Tri.call144 Tri.call145 Tri.call146 Tri.call147 Tri.call149 Tri.call150 Tri.call151 Tri.call152 Tri.call156 Tri.call157 Tri.call159 Tri.call160 Tri.call161 Tri.call162 Tri.call163 Tri.call164 Tri.call165 Tri.call166 Tri.call167 Tri.call175 Tri.call176 Tri.call178 Tri.call179 Tri.call180 Tri.call181 Tri.call182 Tri.call183 Tri.call186 Tri.call187 Tri.call188 Tri.call205
theorem maySo_out {out : Int} {l : List Int} (h : maySo out l = true) : 1 ≤ out ∧ out ≤ 10000000000000 := by
 unfold maySo at h
 simp only [Bool.and_eq_true, decide_eq_true_eq] at h
 exact ⟨h.1, h.2.1⟩
end Go.Proofs.Ytpeoabopeihadaa.Mn
/- What Solve answers, in plain numbers. -/
namespace Go.Proofs.Ytpeoabopeihadaa.Mn
open Go.RowKit
structure MaySo (out : Int) (l : List Int) : Prop where
 lo : 1 ≤ out
 hi : out ≤ 10000000000000
 len : l.length ≤ 600
 amt : ∀ x ∈ l, 0 ≤ x ∧ x ≤ 10000000000000
 some : ∃ x ∈ l, 0 < x
theorem maySo_yes {out : Int} {l : List Int} (h : maySo out l = true) : MaySo out l := by
 unfold maySo at h
 simp only [Bool.and_eq_true, decide_eq_true_eq, List.all_eq_true, List.any_eq_true, amtB] at h
 exact ⟨h.1, h.2.1, h.2.2.1, h.2.2.2.1, h.2.2.2.2⟩
theorem all_may {l : List Int} (h : ∀ x ∈ l, 0 ≤ x ∧ x ≤ 10000000000000) : l.all may = true := by
 rw [List.all_eq_true]
 intro x hx
 have := h x hx
 unfold may
 simp
 omega
theorem covB_cov {out : Int} {l : List Int} {r : Int} (h : MaySo out l) (hr : May r) : covB out l r = cov out l r := by
 unfold covB cov valN
 rw [valE_of h.len (all_may h.amt) hr]
 show _ = (!fits r (fine l) || decide (1000 * out ≤ worth r (fine l)))
 rw [show l.map (· * 1000) = fine l from rfl]
 cases fits r (fine l) <;> simp
theorem covB_mono {out : Int} {l : List Int} (h : maySo out l = true) : ∀ a b, -990000000001 < a → a ≤ b → b < 10000000000001 → covB out l b = true → covB out l a = true := by
 intro a b ha hab hb hc
 have hm := maySo_yes h
 have ma : May a := ⟨by omega, by omega⟩
 have mb : May b := ⟨by omega, by omega⟩
 rw [covB_cov hm mb] at hc
 rw [covB_cov hm ma]
 exact cov_rate ma mb hab (fun x hx => (hm.amt x hx).1) hc
def Eir (out : Int) (l : List Int) (r e : Int) : Prop :=
 (maySo out l = false ∧ r = 0 ∧ e = 2) ∨ (maySo out l = true ∧ (((cov out l (-990000000000) = false ∨ cov out l 10000000000000 = true) ∧ r = 0 ∧ e = 13) ∨ (IsEir out l r ∧ e = 0)))
theorem Eir.only {out : Int} {l : List Int} {r e s f : Int} (h : Eir out l r e) (k : Eir out l s f) : r = s ∧ e = f := by
 rcases h with ⟨h1, h2, h3⟩ | ⟨h1, h⟩ <;> rcases k with ⟨k1, k2, k3⟩ | ⟨k1, k⟩
 ·exact ⟨h2.trans k2.symm, h3.trans k3.symm⟩
 ·rw [h1] at k1; cases k1
 ·rw [h1] at k1; cases k1
 ·have hm := maySo_yes h1
  have hp : ∀ x ∈ l, 0 ≤ x := fun x hx => (hm.amt x hx).1
  rcases h with ⟨h2, h3, h4⟩ | ⟨h2, h3⟩ <;> rcases k with ⟨k2, k3, k4⟩ | ⟨k2, k3⟩
  ·exact ⟨h3.trans k3.symm, h4.trans k4.symm⟩
  ·obtain ⟨a, b⟩ := eir_none hp k2
   rcases h2 with h2 | h2
   ·rw [h2] at a; cases a
   ·rw [h2] at b; cases b
  ·obtain ⟨a, b⟩ := eir_none hp h2
   rcases k2 with k2 | k2
   ·rw [k2] at a; cases a
   ·rw [k2] at b; cases b
  ·exact ⟨h2.only k2 hp, h3.trans k3.symm⟩
theorem eir_found {out : Int} {l : List Int} {r e z : Int} (h : maySo out l = true) (z1 : -990000000001 ≤ z) (z2 : z < 10000000000001) (z3 : z = -990000000001 ∨ covB out l z = true) (z4 : z + 1 = 10000000000001 ∨ covB out l (z + 1) = false)
  (hr : (z < -990000000000 ∧ r = 0 ∧ e = 13) ∨ (z = 10000000000000 ∧ r = 0 ∧ e = 13) ∨ (-990000000000 ≤ z ∧ z ≠ 10000000000000 ∧ r = z ∧ e = 0)) : Eir out l r e := by
 have hm := maySo_yes h
 refine .inr ⟨h, ?_⟩
 rcases hr with ⟨a, b, c⟩ | ⟨a, b, c⟩ | ⟨a, b, c, d⟩
 ·obtain rfl : z = -990000000001 := by omega
  rcases z4 with z4 | z4
  ·omega
  ·rw [show (-990000000001 : Int) + 1 = -990000000000 by omega, covB_cov hm ⟨by omega, by omega⟩] at z4
   exact .inl ⟨.inl z4, b, c⟩
 ·subst a
  rcases z3 with z3 | z3
  ·omega
  ·rw [covB_cov hm ⟨by omega, by omega⟩] at z3
   exact .inl ⟨.inr z3, b, c⟩
 ·subst c
  rcases z3 with z3 | z3
  ·omega
  ·rcases z4 with z4 | z4
   ·omega
   ·rw [covB_cov hm ⟨by omega, by omega⟩] at z3 z4
    exact .inr ⟨⟨a, by omega, z3, z4⟩, d⟩
theorem eir_no {out : Int} {l : List Int} (h : maySo out l = false) : Eir out l 0 2 := .inl ⟨h, rfl, rfl⟩
theorem maySo_long {out : Int} {l : List Int} (h : 600 < l.length) : maySo out l = false := by
 unfold maySo
 rw [decide_eq_false (show ¬l.length ≤ 600 by omega)]
 simp
theorem maySo_nil {out : Int} : maySo out [] = false := by
 unfold maySo
 simp
end Go.Proofs.Ytpeoabopeihadaa.Mn
/- Solve in company: what it answers of a row. -/
namespace Go.Proofs.Ytpeoabopeihadaa.Sim
open Go Go.Conc
open Go.Proofs.Ytpeoabopeihadaa.Mn (Row covB maySo Eir maySo_out covB_mono eir_found eir_no maySo_long maySo_nil)
theorem row_old {u v : World} {b off cp : Nat} {zs : List Int} (h : Row u (.slice (some ⟨b, off, none⟩) zs.length cp) zs) (k : Old u v) (hb : b < u.heap.size) : Row v (.slice (some ⟨b, off, none⟩) zs.length cp) zs := by
 rcases h with ⟨a, c, h1, h2⟩ | ⟨b', off', c, h1, h2, hm, hc, hin⟩
 ·exact .inl ⟨a, c, h1, h2⟩
 ·cases h1
  exact .inr ⟨b, off, cp, rfl, h2, hm, fun j hj => (World.cell?_of_block (a := ⟨b, off + j, none⟩) (k.same b hb)).trans (hc j hj), hin⟩
theorem row_block {u : World} {b off cp : Nat} {zs : List Int} (h : Row u (.slice (some ⟨b, off, none⟩) zs.length cp) zs) (h0 : 0 < zs.length) : ∃ ys t gz, u.heap[b]? = some (.cells ys t gz) := by
 rcases h with ⟨a, c, h1, h2⟩ | ⟨b', off', c, h1, h2, hm, hc, hin⟩
 ·rw [h2] at h0
  exact absurd h0 (by decide)
 ·cases h1
  have h := hc 0 h2
  cases e : u.heap[b]? with
  | none => simp [World.cell?, e] at h
  | some o =>
   cases o with
   | cells ys t gz => exact ⟨ys, t, gz, rfl⟩
   | _ => simp [World.cell?, e] at h
theorem solve_at {out : Int} {ad : Option Addr} {ln cp : Nat} {g0 : Goroutine} {gs : Array Goroutine} {u : World} {sl : Option (Nat × Nat)} {t : Trace} {top : Frame} {cs : List Frame}
  (hl : 600 < ln ∨ (ln ≤ 600 ∧ ∃ zs : List Int, zs.length = ln ∧ Row u (.slice ad ln cp) zs)) (h01 : ∀ g, g < 2 → ∃ ys t gz, u.heap[g]? = some (.cells ys t gz))
  (hF : Alone Try.prog g0 gs u t) (hlead : Leads Try.prog g0 (G (Frame.enter Try.prog 15 #[.int .i64 out, .slice ad ln cp] .normal) (top :: cs))) :
  ∃ r e N gs' u' sl' t' g0', runNT Try.prog N (crowd gs u sl) t = (.next (crowd gs' u' sl'), t') ∧ Alone Try.prog g0' gs' u' t' ∧ Leads Try.prog g0' (G (top.finish (two r e)) cs) ∧ Old u u' ∧ ((600 < ln ∧ r = 0 ∧ e = 2) ∨ (ln ≤ 600 ∧ ∀ zs : List Int, zs.length = ln → Row u (.slice ad ln cp) zs → Eir out zs r e)) := by
 letI : Glob := gw Try.prog
 by_cases hz : ln = 0 ∨ 600 < ln
 ·obtain ⟨N, gs', u', sl', t', g0', e1, e2, e3, e4⟩ := solve_none hz (sl := sl) hF hlead
  refine ⟨0, 2, N, gs', u', sl', t', g0', e1, e2, e3, e4, ?_⟩
  rcases hz with rfl | hz
  ·refine .inr ⟨by omega, fun zs h1 _ => ?_⟩
   obtain rfl := List.length_eq_zero_iff.1 h1
   exact eir_no maySo_nil
  ·exact .inl ⟨hz, rfl, rfl⟩
 ·have h0 : 0 < ln := by omega
  have h600 : ln ≤ 600 := by omega
  rcases hl with hl | ⟨_, zs, rfl, hR⟩
  ·omega
  obtain ⟨b, off, rfl⟩ : ∃ b off, ad = some ⟨b, off, none⟩ := by
   rcases hR with ⟨a, c, h1, h2⟩ | ⟨b, off, c, h1, _⟩
   ·rw [h2] at h0
    exact absurd h0 (by decide)
   ·cases h1
    exact ⟨b, off, rfl⟩
  have sz2 : 1 < u.heap.size := by
   obtain ⟨_, _, _, e⟩ := h01 1 (by omega)
   exact (Array.getElem?_eq_some_iff.1 e).1
  have h01' : ∀ u', Old u u' → ∀ g, g < 2 → ∃ ys t gz, u'.heap[g]? = some (.cells ys t gz) := fun u' hO g hg => by
   obtain ⟨ys, t, gz, e⟩ := h01 g hg
   exact ⟨ys, t, gz, (hO.same g (by omega)).trans e⟩
  obtain ⟨ys, ty, gz, hblk⟩ := row_block hR h0
  have hbs : b < u.heap.size := (Array.getElem?_eq_some_iff.1 hblk).1
  have uniq : ∀ ws : List Int, ws.length = zs.length → Row u (.slice (some ⟨b, off, none⟩) zs.length cp) ws → ws = zs := fun ws h1 h2 => by
   rcases h2 with ⟨a, c, h3, h4⟩ | ⟨b', off', c, h3, h4, _, hc, _⟩
   ·rw [h4] at h1
    simp at h1
    omega
   ·rcases hR with ⟨a, c', h5, h6⟩ | ⟨b2', off2, c', h5, h6, _, hc', _⟩
    ·rw [h6] at h0
     exact absurd h0 (by decide)
    ·cases h5
     injection h3 with h3 h3' h3''
     injection h3 with h3
     injection h3 with h3a h3b
     subst h3a
     subst h3b
     refine List.ext_getElem h1 fun i i1 i2 => ?_
     have q1 := hc i (by omega)
     have q2 := hc' i i2
     rw [q1] at q2
     have := Option.some.inj q2
     injection this with _ this
     simpa [List.getD, i1, i2] using this
  obtain ⟨r, e, N, gs', u', sl', t', g0', e1, e2, e3, e4, e5⟩ := solve_run told (out := out) (ad := some ⟨b, off, none⟩) (ln := zs.length) (cp := cp) (may := maySo out zs) (cov := fun n => maySo out zs && covB out zs n) (S := fun x => x = b ∨ x < 2) (sl := sl)
   (fun u' hO => may_at h0 (row_old hR hO hbs) (h01' u' hO) ⟨ys, ty, gz, (hO.same b hbs).trans hblk⟩)
   (fun hm u' p q hO hp hpq h1 h2 n _ _ => by
    rw [show (maySo out zs && covB out zs n) = covB out zs n by rw [hm]; rfl]
    exact asks_at (maySo_out hm) h0 (row_old hR hO hbs) (h01' u' hO) ⟨ys, ty, gz, (hO.same b hbs).trans hblk⟩ h1 h2 n)
   (fun a c h1 h2 h3 h4 => by
    cases hm : maySo out zs with
    | true =>
     rw [hm] at h4
     exact covB_mono hm a c h1 h2 h3 h4
    | false =>
     rw [hm] at h4
     cases h4) (fun x hx => by
    rcases hx with rfl | hx
    ·exact hbs
    ·omega) hF hlead
  refine ⟨r, e, N, gs', u', sl', t', g0', e1, e2, e3, e4, .inr ⟨h600, fun ws h1 h2 => ?_⟩⟩
  rw [uniq ws h1 h2]
  rcases e5 with ⟨h1, rfl, rfl⟩ | ⟨h1, z, z1, z2, z3, z4, z5⟩
  ·exact eir_no h1
  ·rw [h1] at z3 z4
   exact eir_found h1 z1 z2 z3 z4 z5
end Go.Proofs.Ytpeoabopeihadaa.Sim
/- The solver in one goroutine, lone. -/
namespace Go.Proofs.Ytpeoabopeihadaa.Mn
open Go.RowKit
attribute [local simp] Tri.typeInfo Tri.sizeOf Tri.underlying Tri.runUnderlying Tri.isAgg Tri.zeroValue Tri.depth Tri.stoodInHeld Tri.eqGuardType Tri.call15 Tri.call16 Tri.call26 Tri.call27 Tri.call28 Tri.call29 Tri.call30 Tri.call31 Tri.call46 Tri.call49 Tri.call50 Tri.call51 Tri.call52 Tri.call53 Tri.call54 Tri.call65 Tri.call66 Tri.call68 Tri.call69 Tri.call70 Tri.call71 Tri.call72 Tri.call73 Tri.call74 Tri.call75 Tri.call82 Tri.call84 Tri.call85 Tri.call86 Tri.call95 Tri.call101 Tri.call106 Tri.call107 Tri.call116 Tri.call117 Tri.call118 Tri.call119 Tri.call120 Tri.call122 Tri.call123 Tri.call124 Tri.call125 Tri.call126 Tri.call135 Tri.call137 Tri.call143 Tri.call144 Tri.call145 Tri.call146 Tri.call147 Tri.call149 Tri.call150 Tri.call151 Tri.call152 Tri.call156 Tri.call157 Tri.call159 Tri.call160 Tri.call161 Tri.call162 Tri.call163 Tri.call164 Tri.call165 Tri.call166 Tri.call167 Tri.call175 Tri.call176 Tri.call178 Tri.call179 Tri.call180 Tri.call181 Tri.call182 Tri.call183 Tri.call186 Tri.call187 Tri.call188 Tri.call205
def SolA9 (w : World) (out : Int) (v : Value) (l : List Int) : Prop := Calls (Tri Try.prog) 15 #[.int .i64 out, v] w fun z w' => ∃ r e, Eir out l r e ∧ z = .returned (.tuple #[.int .i64 r, .int .i64 e]) ∧ Below w.heap.size w w'
theorem s9_long (a : Option Addr) (len cap : Nat) (l : List Int) (out : Int) (w : World) (hi : In64 out) (hl : 600 < len) (he : Eir out l 0 2) : SolA9 w out (.slice a len cap) l := by
 unfold SolA9
 obtain ⟨j1, j2⟩ := hi
 have HE := hide he
 clear he
 have d3 : decide ((600 : Int) < (len : Int)) = true := decide_eq_true (by omega)
 go_enter Tri.func15, Tri.ntmps15
 simp only [Tri.body, Tri.check, Tri.rest, Tri.op, Tri.i64]
 go_wp2_with fail
 go_ret2
 exact ⟨_, _, uh HE, rfl, Below.refl _ _⟩
theorem s9_row (b off cap : Nat) (len : Nat) (l : List Int) (out : Int) (w : World) (M : Bool) (C : Int → Bool) (hi : In64 out) (hl : ¬600 < len) (hc : ∀ j, j < len → w.cell? ⟨b, off + j, none⟩ = some (.int .i64 (l.getD j 0))) (hin : ∀ j, In64 (l.getD j 0))
  (hM : MayA w out (.slice (some ⟨b, off, none⟩) len cap) M) (hV : M = true → ∀ r w1, Below w.heap.size w w1 → CovA 49 w1 #[.int .i64 out, .slice (some ⟨b, off, none⟩) len cap, .int .i64 r] (C r))
  (h2 : M = false → Eir out l 0 2) (h3 : M = true → C (-990000000000) = false → Eir out l 0 13) (h4 : M = true → C 10000000000000 = true → Eir out l 0 13) (h5 : ∀ z, -990000000000 ≤ z → z < 10000000000000 → M = true → C z = true → C (z + 1) = false → Eir out l z 0) :
  SolA9 w out (.slice (some ⟨b, off, none⟩) len cap) l := by
 unfold SolA9
 obtain ⟨j1, j2⟩ := hi
 unfold MayA at hM
 unfold CovA at hV
 have HM := hide hM
 have HV := hide hV
 have H2 := hide h2
 have H3 := hide h3
 have H4 := hide h4
 have H5 := hide h5
 have HC := hide hc
 have HI := hide hin
 clear hM hV h2 h3 h4 h5 hc hin
 have d3 : decide ((600 : Int) < (len : Int)) = false := decide_eq_false (by omega)
 go_enter Tri.func15, Tri.ntmps15
 simp only [Tri.body, Tri.check, Tri.rest, Tri.op, Tri.i64]
 go_wp2_with fail
 go_loop [8] (fun i => ∃ k : Nat, k ≤ len ∧ i = .int .i64 k) (fun i => len - (intOf i).toNat)
 case atStart => exact ⟨0, Nat.zero_le _, rfl⟩
 case round =>
  obtain ⟨k, hk, rfl⟩ := hrel
  by_cases hlt : k < len
  ·have ck := uh HC k hlt
   obtain ⟨z1, z2⟩ := uh HI k
   clear HM HV H2 H3 H4 H5 HC HI
   generalize l.getD k 0 = z at *
   go_wp2_with fail
   go_round
   case rel => exact ⟨k + 1, by omega, by go_num⟩
   case measure => simp [intOf]; omega
  ·have hk2 : k = len := by omega
   subst hk2
   clear HC HI
   go_wp2_with fail
   refine (uh HM).mono ?_
   rintro e w1 ⟨rfl, hw1⟩
   have hw1 := hw1.symm
   subst hw1
   cases M with
   | false =>
    have HE := hide (uh H2 rfl)
    go_wp2_with fail
    go_ret2
    exact ⟨_, _, uh HE, rfl, Below.refl _ _⟩
   | true =>
    replace HV := hide (uh HV rfl)
    replace H3 := hide (uh H3 rfl)
    replace H4 := hide (uh H4 rfl)
    replace H5 := hide (fun z a b => uh H5 z a b rfl)
    clear H2
    have HL := hide (uh HV (-990000000000) w (Below.refl _ _))
    cases hL : C (-990000000000) with
    | false =>
     rw [hL] at HL
     have HE := hide (uh H3 hL)
     go_wp2_with fail
     refine (uh HL).mono ?_
     rintro e w1 ⟨rfl, hb⟩
     have HB := hide hb
     clear hb
     go_wp2_with fail
     go_ret2
     exact ⟨_, _, uh HE, rfl, uh HB⟩
    | true =>
     rw [hL] at HL
     go_wp2_with fail
     refine (uh HL).mono ?_
     rintro e w1 ⟨rfl, hb⟩
     have HU := hide (uh HV 10000000000000 w1 hb)
     have HB := hide hb
     clear hb
     cases hU : C 10000000000000 with
     | true =>
      rw [hU] at HU
      have HE := hide (uh H4 hU)
      go_wp2_with fail
      refine (uh HU).mono ?_
      rintro e w2 ⟨rfl, hb⟩
      have HB2 := hide (below_via (uh HB) hb)
      clear hb
      go_wp2_with fail
      go_ret2
      exact ⟨_, _, uh HE, rfl, uh HB2⟩
     | false =>
      rw [hU] at HU
      go_wp2_with fail
      refine (uh HU).mono ?_
      rintro e w2 ⟨rfl, hb⟩
      have HB2 := hide (below_via (uh HB) hb)
      have HQ := hide (show C (-990000000000) = true ∧ C 10000000000000 = false from ⟨hL, hU⟩)
      clear hb hL hU
      go_wp2_with fail
      go_loopw [20, 21] (fun a c wr => ∃ lo hi : Int, a = .int .i64 lo ∧ c = .int .i64 hi ∧ -990000000000 ≤ lo ∧ lo < hi ∧ hi ≤ 10000000000000 ∧ Hid (C lo = true ∧ C hi = false) ∧ Hid (Below w.heap.size w wr)) (fun a c _ => (intOf c - intOf a).toNat)
      case atStart => exact ⟨-990000000000, 10000000000000, rfl, rfl, by omega, by omega, by omega, HQ, HB2⟩
      case round =>
       clear HQ HB2
       obtain ⟨lo, hi, rfl, rfl, l0, l1, l2, HQ, HB2⟩ := hrel
       by_cases hgt : 1 < hi - lo
       ·have bg : decide (1 < hi - lo) = true := decide_eq_true hgt
        have HK := hide (uh HV (lo + (hi - lo) / 2) _ (uh HB2))
        cases hK : C (lo + (hi - lo) / 2) with
        | true =>
         rw [hK] at HK
         have HQ2 := hide (show C (lo + (hi - lo) / 2) = true ∧ C hi = false from ⟨hK, (uh HQ).2⟩)
         clear hK HQ
         go_wp2_with fail
         refine (uh HK).mono ?_
         rintro e w3 ⟨rfl, hb⟩
         replace HB2 := hide (below_via (uh HB2) hb)
         clear hb HK
         go_wp2_with fail
         go_roundw
         case rel => exact ⟨lo + (hi - lo) / 2, hi, rfl, rfl, by omega, by omega, l2, HQ2, HB2⟩
         case measure => simp [intOf]; omega
        | false =>
         rw [hK] at HK
         have HQ2 := hide (show C lo = true ∧ C (lo + (hi - lo) / 2) = false from ⟨(uh HQ).1, hK⟩)
         clear hK HQ
         go_wp2_with fail
         refine (uh HK).mono ?_
         rintro e w3 ⟨rfl, hb⟩
         replace HB2 := hide (below_via (uh HB2) hb)
         clear hb HK
         go_wp2_with fail
         go_roundw
         case rel => exact ⟨lo, lo + (hi - lo) / 2, rfl, rfl, l0, by omega, by omega, HQ2, HB2⟩
         case measure => simp [intOf]; omega
       ·have bg : decide (1 < hi - lo) = false := decide_eq_false hgt
        obtain rfl : hi = lo + 1 := by omega
        have HE := hide (uh H5 lo l0 (by omega) (uh HQ).1 (uh HQ).2)
        clear HQ
        go_wp2_with fail
        go_ret2
        exact ⟨_, _, uh HE, rfl, uh HB2⟩
theorem s9_nil (a : Option Addr) (cap : Nat) (out : Int) (w : World) (hi : In64 out) : SolA9 w out (.slice a 0 cap) [] := by
 have HM := hide (maySo_any (w := w) (v := .slice a 0 cap) (l := []) out (.inl ⟨a, cap, rfl, rfl⟩))
 rw [maySo_nil] at HM
 have HE := hide (eir_no (out := out) (l := []) maySo_nil)
 unfold SolA9
 unfold MayA at HM
 obtain ⟨j1, j2⟩ := hi
 go_enter Tri.func15, Tri.ntmps15
 simp only [Tri.body, Tri.check, Tri.rest, Tri.op, Tri.i64]
 go_wp2_with fail
 refine wp_loop_rounds 1 ?_
 rw [rounds_succ]
 go_wp2_with fail
 refine (uh HM).mono ?_
 rintro e w1 ⟨rfl, hw1⟩
 have hw1 := hw1.symm
 subst hw1
 go_wp2_with fail
 go_ret2
 exact ⟨_, _, uh HE, rfl, Below.refl _ _⟩
theorem s9_any {w : World} {v : Value} {l : List Int} {out : Int} (hi : In64 out) (hR : Row w v l) : SolA9 w out v l := by
 rcases hR with ⟨a, cap, rfl, rfl⟩ | ⟨b, off, cap, rfl, h0, hm, hc, hin⟩
 ·exact s9_nil a cap out w hi
 ·have hR : Row w (.slice (some ⟨b, off, none⟩) l.length cap) l := .inr ⟨b, off, cap, rfl, h0, hm, hc, hin⟩
  by_cases hl : 600 < l.length
  ·exact s9_long _ _ _ _ _ _ hi hl (eir_no (maySo_long hl))
  ·refine s9_row b off cap l.length l out w (maySo out l) (covB out l) hi hl hc (fun j => getD_in hin j) (maySo_any out hR) (fun h r w1 hb => cov_any r (maySo_out h) (hR.below hb (Nat.le_refl _))) eir_no ?_ ?_ ?_
   ·intro h hC
    exact eir_found (z := -990000000001) h (by omega) (by omega) (.inl rfl) (.inr hC) (.inl ⟨by omega, rfl, rfl⟩)
   ·intro h hC
    exact eir_found (z := 10000000000000) h (by omega) (by omega) (.inr hC) (.inl (by omega)) (.inr (.inl ⟨rfl, rfl, rfl⟩))
   ·intro z z1 z2 h hC hD
    exact eir_found (z := z) h (by omega) (by omega) (.inr hC) (.inr hD) (.inr (.inr ⟨z1, by omega, rfl, rfl⟩))
end Go.Proofs.Ytpeoabopeihadaa.Mn
