/- The document's example. -/
import Derived.Test.YtalbdkihlcbhbaaCk
import Derived.Test.YtalbdkihlcbhbaaFs
namespace Go.Proofs.Ytalbdkihlcbhbaa
open Go.RowKit
set_option linter.unusedVariables false
set_option linter.unusedSimpArgs false
def Alive : Prop := ∀ w : World, Calls Try.prog 8 #[] w fun e w' => e = .returned (.bool true) ∧ Below w.heap.size w w'
abbrev eg17 : List Li := [(2, 100), (1, -100)]
theorem eg_post : postE 1 100 = 0 ∧ postL 1 100 = eg17 := ⟨by decide, by decide⟩
theorem eg_chk : chkE eg17 = 0 := by decide
theorem eg_name : accN 1 = ⟨#[99, 97, 115, 104]⟩ := by decide
set_option maxHeartbeats 2000000 in
theorem alive_any : Alive := by
  intro w
  have HP := hide (post_any 1 100 ⟨by decide, by decide⟩ w)
  rw [eg_post.1, eg_post.2] at HP
  have HN := hide (fun W => name_any 1 W)
  rw [eg_name] at HN
  have HC := hide eg_chk
  go_enter Try.func8, Try.ntmps8
  go_wp2_with fail
  refine (unhide HP).mono ?_
  rintro e w1 ⟨v, rfl, hG⟩
  have HR := hide hG.row
  have HB := hide hG.below
  clear hG HP
  go_wp2_with fail
  refine (from_any v eg17 w1 (unhide HR) (by decide)).mono ?_
  rintro e w2 ⟨u, rfl, hG⟩
  replace HR := hide ((show RowG _ _ _ _ from unhide HR).keep hG.below)
  replace HR := hide ((show RowG _ _ _ _ from unhide HR).alloc (.cells #[.int .i64 2, .int .i64 100, .int .i64 1, .int .i64 (-100)] 48))
  have HU := hide ((show RowG _ _ _ _ from hG.row).alloc (.cells #[.int .i64 2, .int .i64 100, .int .i64 1, .int .i64 (-100)] 48))
  have HV : Hid (RowG 2 (w2.alloc (.cells #[.int .i64 2, .int .i64 100, .int .i64 1, .int .i64 (-100)] 48)) (.slice (some ⟨w2.heap.size, 0, none⟩) 2 2) (eg17.map liL)) := hide (two_row (Blk.new w2 _ 48))
  replace HB := hide (below_via (unhide HB) (below_via hG.below (below1 w2 (.cells #[.int .i64 2, .int .i64 100, .int .i64 1, .int .i64 (-100)] 48))))
  clear hG
  go_wp2_with fail
  generalize w2.alloc (.cells #[.int .i64 2, .int .i64 100, .int .i64 1, .int .i64 (-100)] 48) = w3 at *
  generalize w2.heap.size = nb at *
  refine (same_any _ _ _ _ w3 (unhide HU) (unhide HV)).mono ?_
  rintro e w4 ⟨rfl, n, rfl⟩
  rw [sameL_refl]
  have hd : Below w3.heap.size w3 (w3.drewN n) := ⟨rfl, rfl, rfl, Nat.le_refl _, fun _ _ => rfl⟩
  replace HR := hide ((show RowG _ _ _ _ from unhide HR).keep hd)
  replace HB := hide (below_via (unhide HB) hd)
  clear hd HU HV
  generalize w3.drewN n = w4 at *
  go_wp2_with fail
  refine (unhide HN _).mono ?_
  rintro e w5 ⟨rfl, hb⟩
  replace HR := hide ((show RowG _ _ _ _ from unhide HR).keep hb)
  replace HB := hide (below_via (unhide HB) hb)
  clear hb HN
  go_wp2_with fail
  refine (chk_any _ _ _ (unhide HR)).mono ?_
  rw [unhide HC]
  rintro e w6 ⟨rfl, hb⟩
  replace HB := hide (below_via (unhide HB) hb)
  clear hb HR
  go_wp2_with fail
  go_ret
  exact ⟨rfl, unhide HB⟩
end Go.Proofs.Ytalbdkihlcbhbaa
