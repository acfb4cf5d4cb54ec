/- Sums by accounts. -/
import Derived.Test.YtalbdkihlcbhbaaCk
import Derived.Test.YtalbdkihlcbhbaaFs
import Derived.Test.YtalbdkihlcbhbaaMRSum
namespace Go.Proofs.Ytalbdkihlcbhbaa
open Go.RowKit
set_option linter.unusedVariables false
set_option linter.unusedSimpArgs false
theorem GrowG.base {E : TypeId} {m : Nat} {w w1 wr : World} {v : Value} {l : List (List Value)} (h : GrowG E m w1 wr v l) (hb : Below w.heap.size w w1) : GrowG E m w wr v l := by
  obtain ⟨h1, h2⟩ := h.owns
  exact ⟨below_via hb h.below, ⟨h1, h2.imp id (fun ⟨g, cap, cur, e1, e2, e3⟩ => ⟨g, cap, cur, e1, Nat.le_trans hb.size e2, e3⟩)⟩, h.fit⟩
theorem GrowG.far {E : TypeId} {m : Nat} {w1 wr w' : World} {v : Value} {l : List (List Value)} {b : Nat} {cs : Array Value} {T : TypeId} (h : GrowG E m w1 wr v l) (hg : wr.grownBy w' v.ownBlock) (hB : Blk wr b cs T) (hb : b < w1.heap.size) : Blk w' b cs T := (hg.block b hB.lt (fun e => by have := (h.owns.lt b e.symm).1; omega)).trans hB
/-- The sum on an account; the sums up to an account; are they all of 64 bits? -/
def sumA (l : List Li) (a : Int) : Int := Mn.total (am a l)
def netT (l : List Li) : Nat → List Li
  | 0 => []
  | j + 1 => netT l j ++ (if sumA l ((j : Int) + 1) = 0 then [] else [((j : Int) + 1, sumA l ((j : Int) + 1))])
def okT (l : List Li) : Nat → Bool
  | 0 => true
  | j + 1 => okT l j && decide (turn (sumA l ((j : Int) + 1)) = 0)
def accAll (l : List Li) : Bool := l.all fun x => accB x.1
def netE (l : List Li) : Int := if accAll l = true then (if okT l 7 = true then 0 else 3) else 2
def netL (l : List Li) : List Li := if netE l = 0 then netT l 7 else []
theorem netT_len (l : List Li) : ∀ j, (netT l j).length ≤ j
  | 0 => Nat.le_refl _
  | j + 1 => by
    have h := netT_len l j
    rw [netT, List.length_append]
    split
    · simp; omega
    · simp; omega
theorem netT_zero {l : List Li} {j : Nat} (h : sumA l ((j : Int) + 1) = 0) : netT l (j + 1) = netT l j := by rw [netT, if_pos h, List.append_nil]
theorem netT_put {l : List Li} {j : Nat} (h : ¬ sumA l ((j : Int) + 1) = 0) : netT l (j + 1) = netT l j ++ [((j : Int) + 1, sumA l ((j : Int) + 1))] := by rw [netT, if_neg h]
theorem okT_next {l : List Li} {j : Nat} (h : okT l j = true) (h1 : turn (sumA l ((j : Int) + 1)) = 0) : okT l (j + 1) = true := by rw [okT, h, decide_eq_true h1]; rfl
theorem okT_le {l : List Li} {j : Nat} : ∀ {k : Nat}, j ≤ k → okT l k = true → okT l j = true
  | 0, h, h1 => by rw [Nat.le_zero.1 h]; rfl
  | k + 1, h, h1 => by
    rw [okT, Bool.and_eq_true] at h1
    by_cases e : j = k + 1
    · rw [e, okT, h1.1, h1.2]; rfl
    · exact okT_le (k := k) (by omega) h1.1
theorem okT_bad {l : List Li} {j : Nat} (hj : j < 7) (h1 : ¬ turn (sumA l ((j : Int) + 1)) = 0) : okT l 7 = false := by
  cases hb : okT l 7 with
  | false => rfl
  | true =>
    have := okT_le (l := l) (j := j + 1) (k := 7) (by omega) hb
    rw [okT, Bool.and_eq_true, decide_eq_true_eq] at this
    exact absurd this.2 h1
theorem acc_take {l : List Li} {k : Nat} (h : k < l.length) (h1 : accAll (l.take k) = true) (h2 : accB (liA l k).1 = true) : accAll (l.take (k + 1)) = true := by
  unfold accAll at *
  rw [← take_getD (d := (0, 0)) h, List.all_append, h1]
  simpa [liA] using h2
theorem acc_none {l : List Li} {k : Nat} (h : k < l.length) (h2 : accB (liA l k).1 = false) : accAll l = false := by
  cases hb : accAll l with
  | false => rfl
  | true => rw [List.all_eq_true.1 hb _ (liA_mem h)] at h2; exact h2
theorem Mn.Grow.fine {E : TypeId} {w wr : World} {v : Value} {zs : List Int} (h : Mn.Grow E w wr v zs) : Mn.Fine v := fun a l c e => by
  obtain ⟨_, h2⟩ := h.owns
  rcases h2 with ⟨rfl, _⟩ | ⟨g, cap, cur, rfl, _, _, h5, _⟩
  · cases e; exact ⟨Nat.le_refl _, fun _ => rfl⟩
  · cases e; exact ⟨h5, fun c => by cases c⟩
theorem Mn.Grow.alloc {E : TypeId} {w wr : World} {v : Value} {zs : List Int} (h : Mn.Grow E w wr v zs) (o : Obj) : Mn.Grow E w (wr.alloc o) v zs := h.keep (below1 _ _)
theorem Mn.Grow.drewN {E : TypeId} {w wr : World} {v : Value} {zs : List Int} (h : Mn.Grow E w wr v zs) (n : Nat) : Mn.Grow E w (wr.drewN n) v zs := ⟨h.below.trans ⟨rfl, rfl, rfl, Nat.le_refl _, fun _ _ => rfl⟩, h.owns, h.small⟩
theorem below_drewN {B : Nat} {w wr : World} (h : Below B w wr) (n : Nat) : Below B w (wr.drewN n) := h.trans ⟨rfl, rfl, rfl, Nat.le_refl _, fun _ _ => rfl⟩
theorem okN_zero {n : Int} (h : turn n = 0) : okN n = n ∧ okE n = 0 := ⟨okN_in h, okE_in h⟩
set_option maxHeartbeats 2000000 in
theorem net_row (a : Option Addr) (cap : Nat) (l : List Li) (w : World) (hv : 0 < l.length → ∃ b off, a = some ⟨b, off, none⟩) (hm : l.length ≤ 1000) (hin : AllIn l) (hU : RowG 2 w (.slice a l.length cap) (l.map liL)) :
    Calls Try.prog 18 #[.slice a l.length cap] w fun e w' => ∃ u, e = .returned (.tuple #[u, .int .i64 (netE l)]) ∧ GrowG 44 2 w w' u ((netL l).map liL) := by
  have HU := hide hU
  have HY := hide (fun k => acc_take (l := l) (k := k))
  have HN := hide (fun k => acc_none (l := l) (k := k))
  have HA : Hid (l.take l.length = l) := hide (by rw [List.take_length])
  have HI := hide hin
  clear hU hin
  have hm' := hide hm
  have HE : Hid (netE l = if accAll l = true then (if okT l 7 = true then 0 else 3) else 2) := hide rfl
  have HL : Hid (netL l = if netE l = 0 then netT l 7 else []) := hide rfl
  generalize netE l = E at *
  generalize netL l = L at *
  generalize hl : l.length = len at *
  go_enter Try.func18, Try.ntmps18
  go_wp2_with fail
  go_loopw [13] (fun i wr => ∃ k : Nat, k ≤ len ∧ i = .int .i64 k ∧ Hid (Below w.heap.size w wr) ∧ Hid (accAll (l.take k) = true)) (fun i _ => len - (intOf i).toNat)
  case atStart => exact ⟨0, by omega, rfl, hide (Below.refl _ _), hide rfl⟩
  case round =>
    obtain ⟨k, hk, rfl, HW, HS⟩ := hrel
    by_cases hlt : k < len
    · obtain ⟨b, off, rfl⟩ := hv (by omega)
      have hU2 := (unhide HU).keep (unhide HW)
      obtain ⟨m0, m1⟩ := hU2.li (k := k) (by rw [hl]; exact hlt)
      have hy := hide (unhide HY k hlt (unhide HS))
      have hn := hide (unhide HN k hlt)
      have k1 : (k : Int) < (len : Int) := by omega
      clear HY HN hv
      generalize liA l k = x at *
      obtain ⟨p, q⟩ := x
      simp only [] at m0 m1
      have HX := hide (Blk.new wr #[.int .i64 p, .int .i64 q] 44)
      replace HW := hide (below_via (unhide HW) (below1 wr (.cells #[.int .i64 p, .int .i64 q] 44)))
      have HM := hide (fun W => isacc_any p W)
      clear hU2
      go_wp2_with fail
      refine (unhide HM _).mono ?_
      rintro e w2 ⟨rfl, hb⟩
      replace HW := hide (below_via (unhide HW) hb)
      clear hb HM HX
      cases hB : accB p with
      | false =>
        obtain rfl : E = 2 := (unhide HE).trans (if_neg (fun c => by rw [unhide hn hB] at c; cases c))
        obtain rfl : L = [] := (unhide HL).trans (if_neg (by decide))
        clear HE hB hn hy HL
        go_wp2_with fail
        go_ret2
        exact ⟨_, rfl, GrowG.nil _ _ _ _ (unhide HW)⟩
      | true =>
        have hG := hide (unhide hy hB)
        clear hB hn hy
        go_wp2_with fail
        go_roundw
        case rel => exact ⟨k + 1, by omega, by go_num, HW, hG⟩
        case measure => simp [intOf]; omega
    · obtain rfl : k = len := by omega
      rw [unhide HA] at HS
      replace HE := hide ((unhide HE).trans (if_pos (unhide HS)))
      clear HS HY HN HA hv
      have HG := hide (led_any wr)
      go_wp2_with fail
      refine (unhide HG).mono ?_
      rintro e w1 ⟨rfl, hw⟩
      have HX := hide (Blk.new wr LED 60)
      replace HW := hide (below_via (unhide HW) (below1 wr (.cells LED 60)))
      rw [← hw] at HX HW
      have HV := hide ((unhide HU).keep (unhide HW))
      have Hlb := hide (unhide HX).lt
      clear hw HG
      generalize wr.heap.size = lb at *
      have HLn : Hid (∀ j, j ≤ 7 → ((netT l j).map liL).length + 1 ≤ 1000000) := hide (fun j hj => by have := netT_len l j; rw [List.length_map]; omega)
      have HAl : Hid (∀ j, (am ((j : Int) + 1) l).length ≤ maxLen) := hide (fun j => by have := am_len ((j : Int) + 1) l; have := unhide hm'; unfold maxLen; omega)
      have HZ := hide (fun j => netT_zero (l := l) (j := j))
      have HP := hide (fun j => netT_put (l := l) (j := j))
      have HO := hide (fun j => okT_next (l := l) (j := j))
      have HQ := hide (fun j => okT_bad (l := l) (j := j))
      go_wp2_with fail
      go_loopw [6, 24] (fun o i wr => ∃ j : Nat, j ≤ 7 ∧ i = .int .i64 j ∧ Hid (Blk wr lb LED 60) ∧ Hid (GrowG 44 2 w1 wr o ((netT l j).map liL)) ∧ Hid (okT l j = true)) (fun _ i _ => 7 - (intOf i).toNat)
      case atStart => exact ⟨0, by omega, rfl, HX, hide (GrowG.nil _ _ _ _ (Below.refl _ _)), hide rfl⟩
      case round =>
        clear HX
        obtain ⟨j, hj, rfl, HX, HG, HS⟩ := hrel
        by_cases hlt : j < 7
        · obtain ⟨m0, m1⟩ := led_cell (unhide HX) hlt
          have j1 : (j : Int) < 7 := by omega
          have hz := hide (unhide HZ j)
          have hp := hide (unhide HP j)
          have ho := hide (unhide HO j (unhide HS))
          have hq := hide (unhide HQ j hlt)
          have hln := hide (unhide HLn j hj)
          have hal := hide (unhide HAl j)
          clear HZ HP HO HQ HLn HAl HS
          generalize nmB j = s at *
          have HY := hide (fun W => num_any ((j : Int) + 1) s W)
          have HB := hide (Blk.new wr #[.int .i64 ((j : Int) + 1), .string s] 60)
          replace HX := hide ((unhide HX).alloc (.cells #[.int .i64 ((j : Int) + 1), .string s] 60))
          replace HG := hide ((unhide HG).alloc (.cells #[.int .i64 ((j : Int) + 1), .string s] 60))
          have hsA : sumA l ((j : Int) + 1) = Mn.total (am ((j : Int) + 1) l) := rfl
          generalize sumA l ((j : Int) + 1) = S at *
          generalize (j : Int) + 1 = A at *
          replace hsA := hide hsA
          go_wp2_with (refine load_blk rfl 60 _ rfl (show Blk _ _ _ _ from unhide HB) rfl row60 size60 rfl ?_)
          generalize wr.alloc (.cells #[.int .i64 A, .string s] 60) = w2 at *
          generalize wr.heap.size = xb at *
          refine (unhide HY _).mono ?_
          rintro e w3 ⟨rfl, hb⟩
          replace HX := hide ((unhide HX).keep hb)
          replace HG := hide ((unhide HG).keep hb)
          replace HB := hide ((unhide HB).keep hb)
          clear hb
          go_wp2_with fail
          refine (amts_any A _ l _ ((unhide HV).keep (unhide HG).below) (by have := unhide hm'; omega) (unhide HI)).mono ?_
          rintro e w4 ⟨u, rfl, hA⟩
          have hb := hA.below
          replace HX := hide ((unhide HX).keep hb)
          replace HG := hide ((unhide HG).keep hb)
          replace HB := hide ((unhide HB).keep hb)
          have HR := hide (hA.row (unhide hal))
          clear hb hA hal
          go_wp2_with fail
          refine (Mn.sum_any u _ _ (unhide HR)).mono ?_
          rw [← unhide hsA]
          rintro e w5 ⟨rfl, rfl⟩
          clear HR hsA
          by_cases ht : turn S = 0
          · rw [okN_in ht, okE_in ht]
            have hS := hide (unhide ho ht)
            clear ho hq
            by_cases hz0 : S = 0
            · have hg := hide (unhide hz hz0)
              clear hz hp
              subst hz0
              go_wp2_with fail
              go_roundw
              case rel => exact ⟨j + 1, by omega, by go_num, HX, by rw [unhide hg]; exact HG, hS⟩
              case measure => simp [intOf]; omega
            · have hg := hide (unhide hp hz0)
              have hne : (S != 0) = true := by simpa using hz0
              clear hz hp
              go_wp2_with (refine load_blk rfl 60 _ rfl (show Blk _ _ _ _ from unhide HB) rfl row60 size60 rfl ?_)
              refine (unhide HY _).mono ?_
              rintro e w6 ⟨rfl, hb⟩
              replace HX := hide (((unhide HX).keep hb).alloc (.cells #[.int .i64 A, .int .i64 S] 44))
              replace HG := hide (((unhide HG).keep hb).alloc (.cells #[.int .i64 A, .int .i64 S] 44))
              have HFt := hide (fit_li [(A, S)])
              rw [List.map_cons, List.map_nil] at HFt
              unfold liL at HFt
              have hgm : Hid ((netT l (j + 1)).map liL = (netT l j).map liL ++ [[Value.int .i64 A, .int .i64 S]]) := hide (by rw [unhide hg, List.map_append]; rfl)
              have HC : Hid (∀ j u, [[Value.int .i64 A, .int .i64 S]].flatten[j]? = some u → (w6.alloc (.cells #[.int .i64 A, .int .i64 S] 44)).cell? ((⟨w6.heap.size, 0, none⟩ : Addr).add j) = some u) := hide (one_cells (Blk.new w6 #[.int .i64 A, .int .i64 S] 44))
              clear hb HB HY hg
              generalize (netT l j).map liL = zs at *
              go_wp2_with (at_builtin; refine pushG_law (ad := ⟨w6.heap.size, 0, none⟩) (c := 1) (n := 1) 44 25 2 16 (.agg #[.int .i64 0, .int .i64 0]) (by decide) (by decide) rfl Try.underlying25 info44 rfl _ _ rfl w1 _ _ zs [[Value.int .i64 A, .int .i64 S]] (unhide HG) rfl rfl (by simp) (by simp [Act.eval, Act.put]) (unhide HC) (unhide HFt) (unhide hln) ?_)
              intro v' w7 hG7 hgr
              have HG7 := hide hG7
              have HX7 : Hid (Blk w7 lb LED 60) := hide ((unhide HG).far hgr (unhide HX) (unhide Hlb))
              clear hgr hG7
              go_wp2_with fail
              go_roundw
              case rel => exact ⟨j + 1, by omega, by go_num, HX7, by rw [unhide hgm]; exact HG7, hS⟩
              case measure => simp [intOf]; omega
          · rw [okN_out ht, okE_out ht]
            obtain rfl : E = 3 := (unhide HE).trans (if_neg (fun c => by rw [unhide hq ht] at c; cases c))
            obtain rfl : L = [] := (unhide HL).trans (if_neg (by decide))
            have HW2 := hide (below_via (unhide HW) (unhide HG).below)
            clear HE HL ho hq hz hp HG
            go_wp2_with fail
            go_ret2
            exact ⟨_, rfl, GrowG.nil _ _ _ _ (unhide HW2)⟩
        · obtain rfl : j = 7 := by omega
          obtain rfl : E = 0 := (unhide HE).trans (if_pos (unhide HS))
          obtain rfl : L = netT l 7 := (unhide HL).trans (if_pos rfl)
          clear HE HL HS HLn HAl HZ HP HO HQ
          go_wp2_with fail
          go_ret2
          exact ⟨_, rfl, (unhide HG).base (unhide HW)⟩
theorem net_any (v : Value) (l : List Li) (w : World) (h : RowG 2 w v (l.map liL)) (hm : l.length ≤ 1000) (hin : AllIn l) : Calls Try.prog 18 #[v] w fun e w' => ∃ u, e = .returned (.tuple #[u, .int .i64 (netE l)]) ∧ GrowG 44 2 w w' u ((netL l).map liL) := by
  obtain ⟨a, cap, rfl⟩ := rowG_slice h
  rw [List.length_map] at h ⊢
  refine net_row a cap l w (fun h0 => ?_) hm hin h
  obtain ⟨b, off, cp, e, _, _⟩ := h.open (by rw [List.length_map]; omega)
  injection e with e1 _ _
  exact ⟨b, off, e1⟩
end Go.Proofs.Ytalbdkihlcbhbaa
