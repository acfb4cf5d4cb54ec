/- The document's examples. -/
import Derived.Test.YtfahgphkceilkaaPq
import Derived.Test.YtfahgphkceilkaaGx
import Derived.Test.YtfahgphkceilkaaEq
import Derived.Lib.SlBytesConst
namespace Go.Proofs.Ytfahgphkceilkaa
open Go.RowKit
set_option linter.unusedVariables false
set_option linter.unusedSimpArgs false
def Alive : Prop := ∀ w : World, Calls Try.prog 9 #[] w fun e w' => e = .returned (.bool true) ∧ Below w.heap.size w w'
theorem eg_chk : chkB 1 0 [] = 0 := by decide
theorem eg_put : (putN 1 0 []).length = 15 := by rw [putN_len]; rfl
theorem eg_bytes : Bytes (putN 1 0 []) := putN_bytes _ _ _
theorem eg_nine : Bytes [49, 50, 51, 52, 53, 54, 55, 56, 57] := fun c hc => by
  simp at hc
  omega
theorem row_mark (wr : World) (mk : Nat × Nat) (cs : List Nat) (h0 : 0 < cs.length) (hm : cs.length ≤ maxLen) (vs : Array Value) (hv : vs.toList = cs.map (fun n : Nat => Value.int .u8 (n : Int))) : RowG 1 (wr.alloc (.cells vs 5 mk)) (.slice (some ⟨wr.heap.size, 0, none⟩) cs.length cs.length) (bys cs) := by
  refine Or.inr ⟨_, _, _, by rw [bys_len], by rw [bys_len]; exact h0, by rw [bys_len]; exact Nat.le_refl _, hm, fun j hj t ht => ?_, fit_by cs⟩
  rw [bys_len] at hj
  obtain rfl : t = 0 := by omega
  rw [getG_by cs hj]
  have e : vs[j]? = some (.int .u8 (cs.getD j 0 : Nat)) := by
    rw [← Array.getElem?_toList, hv, List.getElem?_map]
    simp [List.getD, hj]
  rw [World.cell?_alloc_mark]
  simpa using e
set_option maxHeartbeats 2000000 in
theorem alive_any : Alive := by
  intro w
  have HP := hide (put_any 1 0 (.slice none 0 0) [] w (Or.inl ⟨none, 0, rfl, rfl, fun _ => rfl⟩))
  rw [putB_ok eg_chk, eg_chk] at HP
  have HG := hide (fun v W h => get_any v (putN 1 0 []) W h eg_bytes)
  obtain ⟨a0, a1, a2, a3⟩ := put_get eg_chk
  rw [a0, a1, a2, a3] at HG
  clear a0 a1 a2 a3
  have HS := hide (fun v W h => sum_any v [49, 50, 51, 52, 53, 54, 55, 56, 57] W h eg_nine)
  rw [crc_check] at HS
  have HL := hide eg_put
  generalize putN 1 0 [] = ps at *
  have kc := fun (w : World) (C : Array Value) (n c : Nat) => Lib.run_convert_bytes_const (P := Try.prog) w 25 5 C n c Try.underlying25 Try.underlying5
  go_enter Try.func9, Try.ntmps9
  go_wp2_with fail
  refine (unhide HP).mono ?_
  rintro e w1 ⟨v, rfl, hG⟩
  have HR := hide hG.row
  have HB := hide hG.below
  clear hG HP
  obtain ⟨x, cap, rfl⟩ := rowG_slice (unhide HR)
  rw [bys_len, unhide HL] at HR ⊢
  clear HL
  go_wp2_with fail
  refine (unhide HG _ _ (unhide HR)).mono ?_
  rintro e w2 ⟨u, rfl, hG⟩
  replace HB := hide (below_via (unhide HB) hG.below)
  obtain ⟨xu, cu, rfl⟩ := rowG_slice hG.row
  clear hG HG HR
  have HX := hide (Blk.new w2 #[.int .i64 0, .int .i64 0, .slice none 0 0] 32)
  have HC := hide (show w.heap.size ≤ w2.heap.size from (unhide HB).size)
  replace HB := hide (below_via (unhide HB) (below1 w2 (.cells #[.int .i64 0, .int .i64 0, .slice none 0 0] 32)))
  go_wp2_with (refine store_blk rfl 32 _ _ rfl (show Blk _ _ _ _ from unhide HX) rfl rfl size32 rfl rfl rfl ?_)
  intro w3 k3 kp
  have k6 := hide (kp.bel (unhide HC) (unhide HB))
  replace HX := hide (k3.alloc (.cells #[.int .u8 49, .int .u8 50, .int .u8 51, .int .u8 52, .int .u8 53, .int .u8 54, .int .u8 55, .int .u8 56, .int .u8 57] 5 (9, 10)))
  have HN : Hid (RowG 1 (w3.alloc (.cells #[.int .u8 49, .int .u8 50, .int .u8 51, .int .u8 52, .int .u8 53, .int .u8 54, .int .u8 55, .int .u8 56, .int .u8 57] 5 (9, 10))) (.slice (some ⟨w3.heap.size, 0, none⟩) 9 9) (bys [49, 50, 51, 52, 53, 54, 55, 56, 57])) := hide (row_mark w3 (9, 10) [49, 50, 51, 52, 53, 54, 55, 56, 57] (by decide) (by simp [maxLen]) _ rfl)
  replace HB := hide (below_via (unhide k6) (below1 w3 (.cells #[.int .u8 49, .int .u8 50, .int .u8 51, .int .u8 52, .int .u8 53, .int .u8 54, .int .u8 55, .int .u8 56, .int .u8 57] 5 (9, 10))))
  clear kp k3 k6 HC
  go_wp2_with fail
  generalize w3.alloc (.cells #[.int .u8 49, .int .u8 50, .int .u8 51, .int .u8 52, .int .u8 53, .int .u8 54, .int .u8 55, .int .u8 56, .int .u8 57] 5 (9, 10)) = w4 at *
  generalize w3.heap.size = nb at *
  refine (unhide HS _ _ (unhide HN)).mono ?_
  rintro e w5 ⟨rfl, rfl⟩
  have c0 := (show Blk _ _ _ _ from unhide HX).at 0 _ rfl
  clear HN HS HX
  go_wp2_with fail
  go_ret
  exact ⟨rfl, unhide HB⟩
end Go.Proofs.Ytfahgphkceilkaa
