/- Whether a loan may be (second part). -/
import Derived.Test.YtlaaomhcilnbkaaLRt
set_option linter.unusedVariables false
set_option linter.unusedSimpArgs false
set_option linter.unusedSectionVars false
namespace Go.Proofs.Ytlaaomhcilnbkaa.Mn
open Go.RowKit
attribute [local simp] Tri.typeInfo Tri.sizeOf Tri.underlying Tri.runUnderlying Tri.isAgg Tri.zeroValue Tri.depth Tri.stoodInHeld Tri.eqGuardType Tri.call16 Tri.call3 Tri.call4 Tri.call5 Tri.call6 Tri.call7 Tri.call8 Tri.call9 Tri.call10 Tri.call11 Tri.call12 Tri.call13 Tri.call14 Tri.call15 Tri.call17 Tri.call18 Tri.call19 Tri.call20 Tri.call21 Tri.call22 Tri.call23 Tri.call24 Tri.call25 Tri.call26 Tri.call27 Tri.call28 Tri.call29 Tri.call30 Tri.call31 Tri.call32 Tri.call33 Tri.call34 Tri.call35 Tri.call36 Tri.call37 Tri.call38 Tri.call39 Tri.call40 Tri.call41 Tri.call42 Tri.call43 Tri.call44 Tri.call45 Tri.call46 Tri.call47 Tri.call48 Tri.call49 Tri.call50 Tri.call51 Tri.call52 Tri.call53 Tri.call54 Tri.call55 Tri.call56 Tri.call57 Tri.call58 Tri.call59 Tri.call60 Tri.call61 Tri.call62 Tri.call63 Tri.call64 Tri.call65 Tri.call66 Tri.call67 Tri.call68 Tri.call69 Tri.call70 Tri.call71 Tri.call72 Tri.call73 Tri.call74 Tri.call75 Tri.call76 Tri.call77 Tri.call78 Tri.call79 Tri.call80 Tri.call81 Tri.call82 Tri.call83 Tri.call84 Tri.call85 Tri.call86 Tri.call87 Tri.call88 Tri.call89 Tri.call90 Tri.call91 Tri.call92 Tri.call93 Tri.call94 Tri.call95 Tri.call96 Tri.call97 Tri.call98 Tri.call99 Tri.call100 Tri.call101 Tri.call102 Tri.call103 Tri.call104 Tri.call105 Tri.call106 Tri.call107 Tri.call108 Tri.call109 Tri.call110 Tri.call111 Tri.call112 Tri.call113 Tri.call114 Tri.call115 Tri.call116 Tri.call117 Tri.call118 Tri.call119 Tri.call120 Tri.call121 Tri.call122 Tri.call123 Tri.call124 Tri.call125 Tri.call126 Tri.call127 Tri.call128 Tri.call129 Tri.call130 Tri.call131 Tri.call132 Tri.call133 Tri.call134 Tri.call135 Tri.call136 Tri.call137 Tri.call138 Tri.call139 Tri.call140 Tri.call141 Tri.call142 Tri.call143 Tri.call144 Tri.call145 Tri.call146 Tri.call147 Tri.call148 Tri.call149 Tri.call150 Tri.call151 Tri.call152 Tri.call153 Tri.call154 Tri.call155 Tri.call157 Tri.call158 Tri.call159 Tri.call160 Tri.call161 Tri.call162 Tri.call163 Tri.call165 Tri.call166 Tri.call167 Tri.call183 Tri.call184
def amtL (l : List Int) : Bool := decide (l.length ≤ 600) && l.all (fun x => inB 0 x 10000000000000)
def sumB (L : Ln) : Bool := (inB 0 L.gr 1125899906842624 && inB 0 L.got 1125899906842624 && inB 0 L.wri 1125899906842624 && inB 0 L.rcv 1125899906842624) && (inB (-1125899906842624) L.due 1125899906842624 && inB (-1125899906842624) L.inc 1125899906842624 && inB (-1125899906842624) L.adj 1125899906842624)
def endB (L : Ln) (l : List Int) : Bool := decide (L.st = 1) || (decide (L.gr = 0) && (decide (L.due = 0) && decide (l.length = 0)))
def rightB (L : Ln) (l : List Int) : Bool := mayBeB L && (amtL l && (sumB L && (endB L l && decide (L.gr = L.out + L.inc + L.adj - L.got - L.wri))))
theorem come_long (a : Option Addr) (len cap : Nat) (w : World) (h : 600 < len) : Calls (Tri Try.prog) 69 #[.slice a len cap] w fun z w' => z = .returned (.bool false) ∧ w' = w := by
  have d : decide ((600 : Int) < (len : Int)) = true := decide_eq_true (by omega)
  go_enter (Tri.at (by decide) Try.func69), Try.ntmps69
  go_wp2_with fail
  go_ret
  exact ⟨rfl, rfl⟩
set_option maxHeartbeats 1600000 in
theorem come_row (b off cap len : Nat) (l : List Int) (e : Bool) (w : World) (hl : ¬ 600 < len) (hc : ∀ j, j < len → w.cell? ⟨b, off + j, none⟩ = some (.int .i64 (l.getD j 0)))
    (he : (e = false ∧ ∃ j, j < len ∧ inB 0 (l.getD j 0) 10000000000000 = false) ∨ (e = true ∧ ∀ j, j < len → inB 0 (l.getD j 0) 10000000000000 = true)) : Calls (Tri Try.prog) 69 #[.slice (some ⟨b, off, none⟩) len cap] w fun z w' => z = .returned (.bool e) ∧ w' = w := by
  have HC := hide hc
  have HE := hide he
  clear hc he
  have HW : Hid (∀ (n : Int) (B : Bool) (w : World), inB 0 n 10000000000000 = B → Calls (Tri Try.prog) 107 #[.int .i64 n, .int .i64 0, .int .i64 10000000000000] w fun z w' => z = .returned (.bool B) ∧ w' = w) := hide (fun n B w h => within_is h w)
  have d3 : decide ((600 : Int) < (len : Int)) = false := decide_eq_false (by omega)
  go_enter (Tri.at (by decide) Try.func69), Try.ntmps69
  go_wp2_with fail
  go_loop [10] (fun i => ∃ (k : Nat), k ≤ len ∧ i = .int .i64 k ∧ Hid (∀ j, j < k → inB 0 (l.getD j 0) 10000000000000 = true)) (fun i => len - (intOf i).toNat)
  case atStart => exact ⟨0, Nat.zero_le _, rfl, hide (fun j hj => absurd hj (Nat.not_lt_zero j))⟩
  case round =>
    obtain ⟨k, hk, rfl, HP⟩ := hrel
    by_cases hlt : k < len
    · have d0 := unhide HC k hlt
      have k1 : (k : Int) < (len : Int) := by omega
      have HK := hide (fun (h : ∀ j, j < k + 1 → inB 0 (l.getD j 0) 10000000000000 = true) => h)
      have HN : Hid (inB 0 (l.getD k 0) 10000000000000 = false → e = false) := hide (fun h => by
        rcases unhide HE with ⟨e1, _⟩ | ⟨_, e2⟩
        · exact e1
        · rw [e2 k hlt] at h; cases h)
      have HS : Hid (inB 0 (l.getD k 0) 10000000000000 = true → ∀ j, j < k + 1 → inB 0 (l.getD j 0) 10000000000000 = true) := hide (fun h j hj => by
        rcases Nat.lt_or_ge j k with h2 | h2
        · exact unhide HP j h2
        · rw [show j = k by omega]; exact h)
      generalize l.getD k 0 = x at d0 HN HS
      by_cases hx : inB 0 x 10000000000000 = true
      · have HX := hide (unhide HW x true)
        have HS2 := hide (unhide HS hx)
        have H1 : Hid (∀ w, Calls (Tri Try.prog) 107 #[.int .i64 x, .int .i64 0, .int .i64 10000000000000] w fun z w' => z = .returned (.bool true) ∧ w' = w) := hide (fun w => unhide HX w hx)
        clear hx HX HN HS
        go_wp2_with fail
        refine (unhide H1 _).mono ?_
        rintro e1 w1 ⟨rfl, rfl⟩
        go_wp2_with fail
        go_round
        case rel => exact ⟨k + 1, by omega, by go_num, HS2⟩
        case measure => simp [intOf]; omega
      · have hx := Bool.eq_false_iff.2 hx
        have HX := hide (unhide HW x false)
        have H1 : Hid (∀ w, Calls (Tri Try.prog) 107 #[.int .i64 x, .int .i64 0, .int .i64 10000000000000] w fun z w' => z = .returned (.bool false) ∧ w' = w) := hide (fun w => unhide HX w hx)
        obtain rfl := unhide HN hx
        clear hx HX HN HS
        go_wp2_with fail
        refine (unhide H1 _).mono ?_
        rintro e1 w1 ⟨rfl, rfl⟩
        go_wp2_with fail
        go_ret
        exact ⟨rfl, rfl⟩
    · have ek : k = len := by omega
      subst ek
      have e1 : e = true := by
        rcases unhide HE with ⟨_, j, hj, h⟩ | ⟨h, _⟩
        · rw [unhide HP j hj] at h; cases h
        · exact h
      subst e1
      clear HE HP HC
      go_wp2_with fail
      go_ret
      exact ⟨rfl, rfl⟩
end Go.Proofs.Ytlaaomhcilnbkaa.Mn
