/- LoanOff, lone, whole. -/
import Derived.Test.YtpeoabopeihadaaXLOg
import Derived.Test.YtpeoabopeihadaaXLOh
import Derived.Test.YtpeoabopeihadaaXLOi
set_option linter.unusedVariables false
set_option linter.unusedSimpArgs false
set_option linter.unusedSectionVars false
namespace Go.Proofs.Ytpeoabopeihadaa.Mn
open Go.RowKit
theorem loff_any {L : Ln} {a : Option Addr} {n c : Nat} {l : List Int} {q : Int} {w : World} (hR : Row w (.slice a n c) l) (hS : Sl a n c) (hl : l.length ≤ 17592186044000) : OffL w L (.slice a n c) q := by
  have hn := row_n hR
  by_cases h0 : 700 < n
  · exact lo_long L a n c _ l q w hR hS hl rfl (decide_eq_true (by omega))
  have t0 : decide ((700 : Int) < (n : Int)) = false := decide_eq_false (by omega)
  by_cases t1 : rightB L l = true
  case neg => exact lo_a L a n c _ l q w hR hS hl rfl t0 (Bool.eq_false_iff.2 t1)
  by_cases h2 : L.st = 1
  case neg => exact lo_b L a n c _ l q w hR hS hl rfl t0 t1 (by simpa using h2)
  have t2 : (L.st != 1) = false := by simpa using h2
  by_cases h3 : L.gr = 0
  · exact lo_c L a n c _ l q w hR hS hl rfl t0 t1 t2 (by simpa using h3)
  have t3 : (L.gr == 0) = false := by simpa using h3
  by_cases h4 : 10000000000000 < L.gr
  · exact lo_d L a n c _ l q w hR hS hl rfl t0 t1 t2 t3 (decide_eq_true h4)
  have t4 : decide (10000000000000 < L.gr) = false := decide_eq_false h4
  have hg := (rt_of t1).gr
  by_cases m1 : q < 1
  · exact lo_gon L a n c _ l q w hR hS hl rfl t0 t1 t2 t3 t4 m1 h2 (by omega) (by omega)
  · by_cases m2 : q ≤ 10000000000000
    · exact lo_gom L a n c _ l q w hR hS hl rfl t0 t1 t2 t3 t4 m1 m2 h2 (by omega) (by omega)
    · exact lo_gox L a n c _ l q w hR hS hl rfl t0 t1 t2 t3 t4 m1 (by omega) h2 (by omega) (by omega)
end Go.Proofs.Ytpeoabopeihadaa.Mn
