/- A slice of 64-bit numbers that comes in is a row. -/
import Derived.Test.YtcimppdeajhfmaaParts
import Derived.ProofKit
import Derived.OpenShut
import Derived.ShutString
import Derived.ChangeOld
import Derived.Below
namespace Go.Proofs.Ytcimppdeajhfmaa
open Go.RowKit
theorem row_open {W : World} {x : Addr} {len cap : Nat} {zs : List Int} (hl : len ≤ cap) (hm : cap ≤ maxLen) (hz : zs.length = cap)
    (hcell : ∀ i, i < zs.length → W.cell? (x.add i) = some (.int .i64 (zs.getD i 0))) (hwz : ∀ n ∈ zs, (Lit.int .i64 n).wf = true) : ∃ ys : List Int, Row W (.slice (some x) len cap) ys := by
  by_cases h0 : len = 0
  · subst h0; exact ⟨[], Or.inl ⟨_, cap, rfl, rfl⟩⟩
  · obtain ⟨b, off, rfl, hc⟩ := ints_at hcell (by omega)
    have hlen : (zs.take len).length = len := by simp; omega
    refine ⟨zs.take len, Or.inr ⟨b, off, cap, by rw [hlen], by omega, by omega, fun j hj => ?_, fun z hz => in64_of (hwz z (List.mem_of_mem_take hz))⟩⟩
    rw [hlen] at hj
    rw [hc j (by omega)]
    congr 2
    simp [List.getD, hj]
end Go.Proofs.Ytcimppdeajhfmaa
