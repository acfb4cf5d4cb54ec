/- One of RateMore's walks. -/
import Derived.Test.YtdejpbbiomdkjaaMoreW
import Derived.ProofKit
import Derived.OpenShut
import Derived.ShutString
import Derived.ChangeOld
import Derived.Below
namespace Go.Proofs.Ytdejpbbiomdkjaa.rateMore
open Go.ChangeShapes Go.WideShapes Go.ChangeAt Go.RowKit
set_option linter.unusedSimpArgs false
def Case00 (x y r s D1 D2 D3 G1 G2 G3 I1 I2 I3 : Int) : Prop := (Hid (Mays r true) ∧ Hid (Mays s true) ∧ decide (x < -1125899906842624) = false ∧ decide (1125899906842624 < y) = false ∧ Hid (Told14 x r D1) ∧ Hid (Told14 y r D2) ∧ decide (D2 < D1) = false ∧ Hid (Told12 x r G1) ∧ Hid (Told12 y r G2) ∧ decide (G2 < G1) = false ∧ decide (0 ≤ r) = true ∧ Hid (Told10 x r I1) ∧ Hid (Told10 y r I2) ∧ decide (I2 < I1) = false ∧ decide (x < 0) = false ∧ Hid (Told10 x s I3) ∧ Hid (Told14 x s D3) ∧ Hid (Told12 x s G3) ∧ decide (I1 ≤ I3) = true ∧ decide (D3 ≤ D1) = true ∧ decide (G1 ≤ G3) = true)
set_option maxHeartbeats 4000000 in
theorem mr00 (X Y R S x y r s D1 D2 D3 G1 G2 G3 I1 I2 I3 : Int) (hx : (if Y < X then Y else X) = x) (hy : (if X < Y then Y else X) = y) (hr : (if S < R then S else R) = r) (hs : (if R < S then S else R) = s) (w : World) (hc : Hid (Case00 x y r s D1 D2 D3 G1 G2 G3 I1 I2 I3)) : Good X Y R S w := by
  unfold Good
  have hal := hide alive_any
  go_enter Try.func6, Try.ntmps6
  go_wp2_with fail
  refine (unhide hal _).mono ?_
  rintro e w1 ⟨rfl, hb1⟩
  obtain ⟨c0, c1, c2, c3, hsz⟩ := box4 hb1
  replace hb1 := hide (below_via ((Below.refl _ _).alloc (Nat.le_refl _) _) hb1)
  go_wp2_with fail
  go_region
  try simp only [hx, hy]
  go_wp2_with fail
  go_region
  try simp only [hr, hs]
  generalize hwd : w1.drew.drew = wd
  replace hb1 := hide (below_to_drew (unhide hb1) hwd)
  clear hwd c0 c1 c2 c3 hsz
  clear hx hy hr hs
  rcases unhide hc with ⟨h1, h2, t1, t2, d1, d2, u1, g1, g2, u2, t3, i1, i2, u3, t4, i3, d3, g3, u4, u5, u6⟩ <;> clear hc
  · go_wp2_with fail
    refine (unhide h1 _).mono ?_
    rintro e wq ⟨rfl, rfl⟩
    go_wp2_with fail
    refine (unhide h2 _).mono ?_
    rintro e wq ⟨rfl, rfl⟩
    go_wp2_with fail
    refine (unhide d1 _).mono ?_
    rintro e w2 ⟨rfl, hb2⟩
    replace hb2 := hide (below_via (unhide hb1) hb2)
    clear hb1
    go_wp2_with fail
    refine (unhide d2 _).mono ?_
    rintro e w3 ⟨rfl, hb3⟩
    replace hb3 := hide (below_via (unhide hb2) hb3)
    clear hb2
    go_wp2_with fail
    refine (unhide g1 _).mono ?_
    rintro e w4 ⟨rfl, hb4⟩
    replace hb4 := hide (below_via (unhide hb3) hb4)
    clear hb3
    go_wp2_with fail
    refine (unhide g2 _).mono ?_
    rintro e w5 ⟨rfl, hb5⟩
    replace hb5 := hide (below_via (unhide hb4) hb5)
    clear hb4
    go_wp2_with fail
    refine (unhide i1 _).mono ?_
    rintro e w6 ⟨rfl, hb6⟩
    replace hb6 := hide (below_via (unhide hb5) hb6)
    clear hb5
    go_wp2_with fail
    refine (unhide i2 _).mono ?_
    rintro e w7 ⟨rfl, hb7⟩
    replace hb7 := hide (below_via (unhide hb6) hb7)
    clear hb6
    go_wp2_with fail
    refine (unhide i1 _).mono ?_
    rintro e w8 ⟨rfl, hb8⟩
    replace hb8 := hide (below_via (unhide hb7) hb8)
    clear hb7
    go_wp2_with fail
    refine (unhide i3 _).mono ?_
    rintro e w9 ⟨rfl, hb9⟩
    replace hb9 := hide (below_via (unhide hb8) hb9)
    clear hb8
    go_wp2_with fail
    refine (unhide d1 _).mono ?_
    rintro e w10 ⟨rfl, hb10⟩
    replace hb10 := hide (below_via (unhide hb9) hb10)
    clear hb9
    go_wp2_with fail
    refine (unhide d3 _).mono ?_
    rintro e w11 ⟨rfl, hb11⟩
    replace hb11 := hide (below_via (unhide hb10) hb11)
    clear hb10
    go_wp2_with fail
    refine (unhide g1 _).mono ?_
    rintro e w12 ⟨rfl, hb12⟩
    replace hb12 := hide (below_via (unhide hb11) hb12)
    clear hb11
    go_wp2_with fail
    refine (unhide g3 _).mono ?_
    rintro e w13 ⟨rfl, hb13⟩
    replace hb13 := hide (below_via (unhide hb12) hb13)
    clear hb12
    go_wp2_with fail
    go_ret
    exact ⟨rfl, unhide hb13⟩
end Go.Proofs.Ytdejpbbiomdkjaa.rateMore
