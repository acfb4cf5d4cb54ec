/- Types; size, has, fateOf. -/
import Derived.Test.YtdbefnghljjieaaMm
import Derived.Handy
namespace Go.Proofs.Ytdbefnghljjieaa
open Go.RowKit
set_option linter.unusedVariables false
set_option linter.unusedSimpArgs false
theorem size34 : (Try.prog.info? 34).map (·.size) = some 4 := by kernel_rfl
theorem row34 : isRowB Try.prog 34 = true := by kernel_rfl
theorem size37 : (Try.prog.info? 37).map (·.size) = some 64 := by kernel_rfl
theorem row37 : isRowB Try.prog 37 = true := by kernel_rfl
theorem size45 : (Try.prog.info? 45).map (·.size) = some 64 := by kernel_rfl
theorem row45 : isRowB Try.prog 45 = true := by kernel_rfl
theorem size53 : (Try.prog.info? 53).map (·.size) = some 1920 := by kernel_rfl
theorem row53 : isRowB Try.prog 53 = true := by kernel_rfl
theorem size66 : (Try.prog.info? 66).map (·.size) = some 65 := by kernel_rfl
theorem row66 : isRowB Try.prog 66 = true := by kernel_rfl
theorem size68 : (Try.prog.info? 68).map (·.size) = some 65 := by kernel_rfl
theorem row68 : isRowB Try.prog 68 = true := by kernel_rfl
theorem size70 : (Try.prog.info? 70).map (·.size) = some 65 := by kernel_rfl
theorem row70 : isRowB Try.prog 70 = true := by kernel_rfl
theorem size76 : (Try.prog.info? 76).map (·.size) = some 65 := by kernel_rfl
theorem row76 : isRowB Try.prog 76 = true := by kernel_rfl
theorem size_any {a : Option Addr} {n cap x o : Nat} (w : World) (hc : w.cell? ⟨x, o, none⟩ = some (.slice a n cap)) : Calls Try.prog 24 #[.pointer (some ⟨x, o, none⟩)] w fun e w' => e = .returned (.int .i64 (n : Int)) ∧ w' = w := by
  go_enter Try.func24, Try.ntmps24
  go_wp2_with fail
  go_ret
  exact ⟨rfl, rfl⟩
def inR (at_ : Int) (n : Nat) : Bool := decide (0 ≤ at_) && decide (at_ < (n : Int))
theorem has_any {a : Option Addr} {n cap x : Nat} (at_ : Int) (w : World) (hc : w.cell? ⟨x, 0, none⟩ = some (.slice a n cap)) : Calls Try.prog 25 #[.pointer (some ⟨x, 0, none⟩), .int .i64 at_] w fun e w' => e = .returned (.bool (inR at_ n)) ∧ w' = w := by
  by_cases h : 0 ≤ at_
  · have HE := hide (show inR at_ n = decide (at_ < (n : Int)) by simp [inR, h])
    go_enter Try.func25, Try.ntmps25
    go_wp2_with fail
    go_ret
    exact ⟨by rw [unhide HE]; rfl, rfl⟩
  · have HE := hide (show inR at_ n = false by simp [inR, h])
    go_enter Try.func25, Try.ntmps25
    go_wp2_with fail
    go_ret
    exact ⟨by rw [unhide HE]; rfl, rfl⟩
def fateN (l : List Nat) (i : Nat) : Nat := l.getD i 0 % 3
theorem fate_any (v : Value) (l : List Nat) (i : Nat) (w : World) (hr : RowG 1 w v (l.map fun n : Nat => [Value.int .u8 (n : Int)])) (hb : ∀ x ∈ l, x < 256) (hi : i ≤ 10000) : Calls Try.prog 32 #[v, .int .i64 (i : Int)] w fun e w' => e = .returned (.int .u8 (fateN l i : Nat)) ∧ w' = w := by
  obtain ⟨a, cap, rfl⟩ := rowG_slice hr
  rw [List.length_map] at *
  by_cases h : i < l.length
  · obtain ⟨b, off, c, e, h1, h2⟩ := hr.open (by rw [List.length_map]; omega)
    injection e with e1 e2 e3
    subst e1 e3
    have hc := hr.cells (j := i) (t := 0) (by rw [List.length_map]; exact h) (by decide)
    have hg : getG (l.map fun n : Nat => [Value.int .u8 (n : Int)]) i 0 = .int .u8 (l.getD i 0 : Nat) := by simp [getG, List.getD, h]
    rw [hg, Nat.mul_one, Nat.add_zero] at hc
    have hlt : (i : Int) < (l.length : Int) := by omega
    have hx : l.getD i 0 < 256 := by
      rw [show l.getD i 0 = l[i] by simp [List.getD, h]]
      exact hb _ (List.getElem_mem h)
    have HE := hide (show fateN l i = l.getD i 0 % 3 from rfl)
    clear hr hb hg e2 h1 h2
    generalize l.getD i 0 = x at *
    generalize l.length = n at *
    have hm : ((x : Int)).tmod 3 = ((x % 3 : Nat) : Int) := by rw [Int.tmod_eq_emod_of_nonneg (by omega)]; omega
    have hm2 : IntKind.u8.wrap ((x % 3 : Nat) : Int) = ((x % 3 : Nat) : Int) := by
      have : x % 3 < 3 := Nat.mod_lt _ (by decide)
      generalize x % 3 = y at *
      simp [IntKind.wrap, IntKind.bits, IntKind.signed]
      omega
    go_enter Try.func32, Try.ntmps32
    go_wp2_with fail
    go_ret
    exact ⟨by rw [unhide HE]; rfl, rfl⟩
  · have HE := hide (show fateN l i = 0 by simp [fateN, List.getD, List.getElem?_eq_none (Nat.le_of_not_lt h)])
    have hlt : (l.length : Int) ≤ (i : Int) := by omega
    generalize l.length = n at *
    go_enter Try.func32, Try.ntmps32
    go_wp2_with fail
    go_ret
    exact ⟨by rw [unhide HE]; rfl, rfl⟩
end Go.Proofs.Ytdbefnghljjieaa
