/- What the document's Spread answers. -/
import Derived.Test.YtkjbkppjebljpaaSpr
import Derived.Test.YtkjbkppjebljpaaConv
namespace Go.Proofs.Ytkjbkppjebljpaa
open Go.RowKit
set_option linter.unusedSimpArgs false
theorem range_snoc (g : Nat → Int) (k : Nat) : (List.range k).map g ++ [g k] = (List.range (k + 1)).map g := by rw [List.range_succ, List.map_append]; rfl
theorem lo_succ (ds : List Int) (k : Nat) : lo ds (k + 1) = dAt ds k := rfl
theorem within_take {a b d x : Int} {l : List (Int × Int)} {k : Nat} (hk : k < l.length) (he : getF l k = (d, x)) : within a b (l.take (k + 1)) = within a b (l.take k) + if a < d ∧ d ≤ b then x else 0 := by
  rw [← take_getF hk, within_append, he, within_one]
structure RS (w wr : World) (o : Value) (g : Nat → Int) (k : Nat) : Prop where
  grow : Grow 2 w wr o ((List.range k).map g)
  mays : ∀ j, j < k → may (g j) = true
theorem RS.keep {w wr wr' : World} {o : Value} {g : Nat → Int} {k : Nat} (h : RS w wr o g k) (hb : Below wr.heap.size wr wr') : RS w wr' o g k := ⟨h.grow.keep hb, h.mays⟩
theorem drop_risesD {ds : List Int} {a : Int} {k : Nat} (h : RisesD a (ds.drop k)) (hk : k < ds.length) : a < dAt ds k ∧ RisesD (dAt ds k) (ds.drop (k + 1)) := by
  rw [drop_getI hk] at h
  exact h
theorem drop_lastD {ds : List Int} {a : Int} {k : Nat} (hk : k < ds.length) : lastD a (ds.drop k) = lastD (dAt ds k) (ds.drop (k + 1)) := by
  rw [drop_getI hk]
  rfl
theorem dAt_mem {ds : List Int} {k : Nat} (h : k < ds.length) : dAt ds k ∈ ds := by
  have : dAt ds k = ds[k] := by simp [dAt, List.getD, h]
  rw [this]; exact List.getElem_mem h
set_option maxRecDepth 20000 in
set_option maxHeartbeats 4000000 in
theorem rspread_core (v u : Value) (l : List (Int × Int)) (ds : List Int) (w : World) (ha : RowF w v l) (hb : Row w u ds) (T : Days l ds) (hca : Hid (Calls Try.prog 19 #[v] w fun e w' => e = .returned (.int .i64 0) ∧ Below w.heap.size w w')) :
    Calls Try.prog 21 #[v, u] w fun e w' => SAns w l ds e w' := by
  obtain ⟨av, ac, ea⟩ := rowF_slice ha
  obtain ⟨bv, bc, eb⟩ := row_slice hb
  subst ea eb
  have HA := hide ha
  have HB := hide hb
  have HT := hide T
  have hll := T.ll
  have hld := T.ld
  have hf0 : decide (600 < (ds.length : Int)) = false := decide_eq_false (by omega)
  have HI : Hid (RisesD 0 (ds.drop 0) ∧ lastD 0 (ds.drop 0) = lastD 0 ds) := hide ⟨T.rd, rfl⟩
  clear ha hb T
  obtain ⟨L, eL⟩ : ∃ L, L = lastD 0 ds := ⟨_, rfl⟩
  rw [← eL] at HI
  have HeL := hide eL
  clear eL
  go_enter Try.func21, Try.ntmps21
  go_wp2_with fail
  refine (unhide hca).mono ?_
  rintro e w1 ⟨rfl, hb1⟩
  have HB1 := hide hb1
  have HAk := hide ((unhide HA).keep hb1)
  have HBk := hide ((unhide HB).below hb1 (Nat.le_refl _))
  clear hb1 hca HA HB
  go_wp2_with fail
  go_loop [7, 29] (fun a i => ∃ (k : Nat) (la : Int), k ≤ ds.length ∧ a = .int .i64 la ∧ i = .int .i64 k ∧ Hid (RisesD la (ds.drop k) ∧ lastD la (ds.drop k) = L)) (fun _ i => ds.length - (intOf i).toNat)
  case atStart => exact ⟨0, 0, Nat.zero_le _, rfl, rfl, HI⟩
  case round =>
    clear HI
    obtain ⟨k, la, hk, rfl, rfl, HI⟩ := hrel
    by_cases hlt : k < ds.length
    · rcases unhide HBk with ⟨_, _, _, h⟩ | ⟨b2, o2, cc2, h1, _, h4, h5, h6⟩
      · rw [h] at hlt; cases hlt
      cases h1
      have c0 : w1.cell? ⟨b2, o2 + k, none⟩ = some (.int .i64 (dAt ds k)) := h5 k hlt
      have HI2 : Hid (RisesD (dAt ds k) (ds.drop (k + 1)) ∧ lastD (dAt ds k) (ds.drop (k + 1)) = L) := hide ⟨(drop_risesD (unhide HI).1 hlt).2, by rw [← drop_lastD hlt]; exact (unhide HI).2⟩
      have q1 := (drop_risesD (unhide HI).1 hlt).1
      have q2 := (unhide HT).md _ (dAt_mem hlt)
      clear h4 h5 h6 HI
      generalize dAt ds k = d at *
      have q3 : decide (d ≤ la) = false := decide_eq_false (by omega)
      have q4 : decide (3652059 < d) = false := decide_eq_false (by omega)
      go_wp2_with fail
      go_round
      case rel => exact ⟨k + 1, d, by omega, rfl, by go_num, HI2⟩
      case measure => simp [intOf]; omega
    · have hkl : k = ds.length := by omega
      have hla : la = L := by
        have := (unhide HI).2
        rw [hkl, List.drop_length] at this
        exact this
      subst hla
      subst hkl
      clear HI
      go_wp2_with fail
      have HN0 : Hid (∀ f ∈ l.take 0, f.1 ≤ la) := hide (fun f hf => (by cases hf))
      go_loopw [44] (fun i wr => ∃ k : Nat, k ≤ l.length ∧ i = .int .i64 k ∧ Hid (∀ f ∈ l.take k, f.1 ≤ la) ∧ Hid (Below w1.heap.size w1 wr)) (fun i _ => l.length - (intOf i).toNat)
      case atStart => exact ⟨0, Nat.zero_le _, rfl, HN0, hide (Below.refl _ _)⟩
      case round =>
        clear HN0
        obtain ⟨k, hk, rfl, HN, HW⟩ := hrel
        by_cases hlt : k < l.length
        · rcases unhide HAk with ⟨_, _, _, h, _⟩ | ⟨bb, oo, cc, h1, _, h3, h4, h5, h6⟩
          · rw [h] at hlt; cases hlt
          cases h1
          obtain ⟨c0, c1⟩ := (show CellsF w1 bb oo l from h5).keep (unhide HW) k hlt
          obtain ⟨f', he⟩ : ∃ f', getF l k = f' := ⟨_, rfl⟩
          have HE := hide he
          rw [he] at c0 c1
          clear he h3 h4 h5 h6
          obtain ⟨d, x⟩ := f'
          replace c0 : wr.cell? ⟨bb, oo + k * 2, none⟩ = some (.int .i64 d) := c0
          replace c1 : wr.cell? ⟨bb, oo + k * 2 + 1, none⟩ = some (.int .i64 x) := c1
          replace HW := hide (below_new2 (unhide HW) (.cells #[.int .i64 d, .int .i64 x] 40))
          by_cases q : la < d
          · have q1 := decide_eq_true q
            have HM : Hid (SRes l ds 2 []) := hide (Or.inl ⟨⟨(d, x), by rw [← unhide HE]; exact getF_mem hlt, by rw [← unhide HeL]; exact q⟩, rfl, rfl⟩)
            go_wp2_with fail
            go_ret2
            exact sans_no (unhide HM) (below_via (unhide HB1) (unhide HW))
          · have q1 := decide_eq_false q
            have HN2 : Hid (∀ f ∈ l.take (k + 1), f.1 ≤ la) := hide (fun f hf => by
              rw [← take_getF hlt, unhide HE] at hf
              rcases List.mem_append.1 hf with h | h
              · exact unhide HN f h
              · simp at h; subst h; show d ≤ la; omega)
            go_wp2_with fail
            go_roundw
            case rel => exact ⟨k + 1, by omega, by go_num, HN2, HW⟩
            case measure => simp [intOf]; omega
        · have HD2 : Hid (∀ f ∈ l, f.1 ≤ lastD 0 ds) := hide (by
            have hkl : k = l.length := by omega
            have := unhide HN
            rw [hkl, List.take_length] at this
            rw [← unhide HeL]; exact this)
          have HBl := hide (below_via (unhide HB1) (unhide HW))
          have HA2 := hide ((unhide HAk).keep (unhide HW))
          have HB2 := hide ((unhide HBk).below (unhide HW) (Nat.le_refl _))
          clear HN HB1 HAk HBk HW
          have HX : Hid (∀ a b k, -6000000000000000 ≤ within a b (l.take k) ∧ within a b (l.take k) ≤ 6000000000000000) := hide (fun a b k => by
            have h1 := within_bd (l := l.take k) a b (fun f hf => ((unhide HT).ml f (List.mem_of_mem_take hf)).2)
            have h2 : (l.take k).length ≤ 600 := by rw [List.length_take]; omega
            exact ⟨by omega, by omega⟩)
          have HY : Hid (∀ k, k < l.length → -10000000000000 ≤ (getF l k).2 ∧ (getF l k).2 ≤ 10000000000000) := hide (fun k hk => may_bd ((unhide HT).ml _ (getF_mem hk)).2)
          have HSp := hide (spr_lo l ds)
          have HV : Hid (∀ j, j < ds.length → may (within (lo ds j) (dAt ds j) l) = false → SRes l ds 3 []) := hide (fun j hj h => Or.inr (Or.inl ⟨unhide HD2, ⟨j, hj, h⟩, rfl, rfl⟩))
          have HZ : Hid ((∀ j, j < ds.length → may (within (lo ds j) (dAt ds j) l) = true) → SRes l ds 0 (spr 0 l ds)) := hide (fun h => Or.inr (Or.inr ⟨unhide HD2, h, rfl, rfl⟩))
          have HQ : Hid (∀ j, within (lo ds j) (dAt ds j) l = (fun j => within (lo ds j) (dAt ds j) l) j) := hide (fun j => rfl)
          generalize hfn : (fun j => within (lo ds j) (dAt ds j) l) = g at *
          replace HV : Hid (∀ j, j < ds.length → may (g j) = false → SRes l ds 3 []) := hide (fun j hj h => unhide HV j hj (by rw [unhide HQ]; exact h))
          replace HZ : Hid ((∀ j, j < ds.length → may (g j) = true) → SRes l ds 0 (spr 0 l ds)) := hide (fun h => unhide HZ (fun j hj => by rw [unhide HQ]; exact h j hj))
          clear hfn HT
          go_wp2_with fail
          have HS : Hid (RS wr wr (.slice none 0 0) g 0) := hide ⟨Grow.nil _ _ _ (Below.refl _ _), fun j hj => absurd hj (Nat.not_lt_zero j)⟩
          generalize hW9 : wr = W9 at *
          clear hW9
          go_loopw [12, 13, 55] (fun o a i wq => ∃ k : Nat, k ≤ ds.length ∧ i = .int .i64 k ∧ a = .int .i64 (lo ds k) ∧ Hid (RS W9 wq o g k)) (fun _ _ i _ => ds.length - (intOf i).toNat)
          case atStart => exact ⟨0, Nat.zero_le _, rfl, rfl, HS⟩
          case round =>
            clear HS
            obtain ⟨k, hk, rfl, rfl, HS⟩ := hrel
            by_cases hlt2 : k < ds.length
            · rcases unhide HB2 with ⟨_, _, _, h⟩ | ⟨b2, o2, cc2, h1, _, h4, h5, h6⟩
              · rw [h] at hlt2; cases hlt2
              cases h1
              have c0 : wr.cell? ⟨b2, o2 + k, none⟩ = some (.int .i64 (dAt ds k)) := (show CellsI W9 b2 o2 ds from h5).keep (unhide HS).grow.below k hlt2
              clear h4 h5 h6
              have Hg := hide (unhide HQ k)
              have Hlo := hide (lo_succ ds k)
              generalize dAt ds k = D at *
              generalize lo ds k = F at *
              go_wp2_with fail
              have HK0 : Hid (RS W9 wr u12 g k) := HS
              clear HS c0
              go_loopw [16, 61] (fun n i wq => ∃ m : Nat, m ≤ l.length ∧ n = .int .i64 (within F D (l.take m)) ∧ i = .int .i64 m ∧ Hid (RS W9 wq u12 g k)) (fun _ i _ => l.length - (intOf i).toNat)
              case atStart => exact ⟨0, Nat.zero_le _, rfl, rfl, HK0⟩
              case round =>
                clear HK0
                obtain ⟨m, hm, rfl, rfl, HS⟩ := hrel
                by_cases hlt3 : m < l.length
                · rcases unhide HA2 with ⟨_, _, _, h, _⟩ | ⟨bb, oo, cc, h1, _, h3, h4, h5, h6⟩
                  · rw [h] at hlt3; cases hlt3
                  cases h1
                  obtain ⟨c0, c1⟩ := (show CellsF W9 bb oo l from h5).keep (unhide HS).grow.below m hlt3
                  have y := unhide HY m hlt3
                  have x9 := unhide HX F D m
                  obtain ⟨f', he⟩ : ∃ f', getF l m = f' := ⟨_, rfl⟩
                  have HE := hide he
                  rw [he] at c0 c1 y
                  clear he h3 h4 h5 h6
                  obtain ⟨d, x⟩ := f'
                  replace c0 : wr.cell? ⟨bb, oo + m * 2, none⟩ = some (.int .i64 d) := c0
                  replace c1 : wr.cell? ⟨bb, oo + m * 2 + 1, none⟩ = some (.int .i64 x) := c1
                  simp only at y
                  obtain ⟨y1, y2⟩ := y
                  obtain ⟨x1, x2⟩ := x9
                  have Hst := hide (within_take (a := F) (b := D) hlt3 (unhide HE))
                  replace HS := hide ((unhide HS).keep ((Below.refl wr.heap.size wr).alloc (Nat.le_refl _) (.cells #[.int .i64 d, .int .i64 x] 40)))
                  generalize within F D (l.take m) = z at *
                  by_cases q : F < d
                  · have q1 := decide_eq_true q
                    by_cases q2 : d ≤ D
                    · have q3 := decide_eq_true q2
                      rw [if_pos ⟨q, q2⟩] at Hst
                      go_wp2_with fail
                      go_roundw
                      case rel => exact ⟨m + 1, by omega, by rw [unhide Hst], by go_num, HS⟩
                      case measure => simp [intOf]; omega
                    · have q3 := decide_eq_false q2
                      rw [if_neg (fun c => q2 c.2), Int.add_zero] at Hst
                      go_wp2_with fail
                      go_roundw
                      case rel => exact ⟨m + 1, by omega, by rw [unhide Hst], by go_num, HS⟩
                      case measure => simp [intOf]; omega
                  · have q1 := decide_eq_false q
                    rw [if_neg (fun c => q c.1), Int.add_zero] at Hst
                    go_wp2_with fail
                    go_roundw
                    case rel => exact ⟨m + 1, by omega, by rw [unhide Hst], by go_num, HS⟩
                    case measure => simp [intOf]; omega
                · have hml : m = l.length := by omega
                  have x9 := unhide HX F D m
                  have eg : within F D (l.take m) = g k := by rw [hml, List.take_length]; exact unhide Hg
                  rw [eg] at x9 ⊢
                  obtain ⟨x1, x2⟩ := x9
                  subst hml
                  have HV2 := hide (unhide HV k hlt2)
                  have HG := hide (unhide HS).grow
                  have HK : Hid (may (g k) = true → ∀ j, j < k + 1 → may (g j) = true) := hide (fun h j hj => by
                    by_cases e : j = k
                    · rw [e]; exact h
                    · exact (unhide HS).mays j (by omega))
                  have Hsn := hide (range_snoc g k)
                  have HLn : Hid (((List.range k).map g).length ≤ 1000000) := hide (by simp; omega)
                  clear eg HS Hg
                  generalize g k = z at *
                  generalize (List.range k).map g = zs at *
                  cases hy : may z with
                  | true =>
                    have HYz := hide hy
                    replace HK := hide (unhide HK hy)
                    clear hy HV2
                    go_wp2_with fail
                    refine (rmay_of (unhide HYz) _).mono ?_
                    rintro e w5 ⟨rfl, rfl⟩
                    go_wp2_with (at_builtin; refine push_law 2 47 Try.underlying47 Try.info2 rfl _ _ rfl W9 _ _ zs z (unhide HG) rfl (by simp [Act.eval, Act.put]) (unhide HLn) ⟨by omega, by omega⟩ ?_)
                    intro v2 W2 hG2
                    rw [unhide Hsn] at hG2
                    have HS2 : Hid (RS W9 W2 v2 g (k + 1)) := hide ⟨hG2, unhide HK⟩
                    clear hG2 HG
                    go_wp2
                    go_roundw
                    case rel => exact ⟨k + 1, by omega, by go_num, by rw [unhide Hlo], HS2⟩
                    case measure => simp [intOf]; omega
                  | false =>
                    have HYz := hide hy
                    replace HV2 := hide (unhide HV2 hy)
                    clear hy HK
                    go_wp2_with fail
                    refine (rmay_of (unhide HYz) _).mono ?_
                    rintro e w5 ⟨rfl, rfl⟩
                    go_wp2_with fail
                    go_ret2
                    exact sans_no (unhide HV2) (below_via (unhide HBl) (unhide HG).below)
            · have hkl : k = ds.length := by omega
              have HR0 := hide (unhide HS)
              rw [hkl] at HR0
              rw [hkl]
              have HZ2 := hide (unhide HZ (unhide HR0).mays)
              have HRow : Hid (Row wr u12 (spr 0 l ds)) := hide (by rw [unhide HSp]; exact (unhide HR0).grow.row (by simp; unfold maxLen; omega))
              have HBe := hide (below_via (unhide HBl) (unhide HR0).grow.below)
              subst hkl
              clear HS HR0
              go_wp2_with fail
              go_ret2
              exact ⟨_, _, _, rfl, unhide HRow, unhide HZ2, unhide HBe⟩
theorem rspread_a (v u : Value) (c : Int) (w : World) (hc : (c != 0) = true) (hca : Hid (Calls Try.prog 19 #[v] w fun e w' => e = .returned (.int .i64 c) ∧ Below w.heap.size w w')) : Calls Try.prog 21 #[v, u] w fun e w' => e = .returned (.tuple #[.slice none 0 0, .int .i64 c]) ∧ Below w.heap.size w w' := by
  go_enter Try.func21, Try.ntmps21
  go_wp2_with fail
  refine (unhide hca).mono ?_
  rintro e w1 ⟨rfl, hb1⟩
  replace hb1 := hide hb1
  go_wp2_with fail
  go_ret2
  exact ⟨rfl, unhide hb1⟩
theorem rspread_full (v : Value) (x : Option Addr) (len cap : Nat) (w : World) (h : 600 < len) (hca : Hid (Calls Try.prog 19 #[v] w fun e w' => e = .returned (.int .i64 0) ∧ Below w.heap.size w w')) : Calls Try.prog 21 #[v, .slice x len cap] w fun e w' => e = .returned (.tuple #[.slice none 0 0, .int .i64 10]) ∧ Below w.heap.size w w' := by
  have h1 : decide (600 < (len : Int)) = true := decide_eq_true (by omega)
  go_enter Try.func21, Try.ntmps21
  go_wp2_with fail
  refine (unhide hca).mono ?_
  rintro e w1 ⟨rfl, hb1⟩
  replace hb1 := hide hb1
  go_wp2_with fail
  go_ret2
  exact ⟨rfl, unhide hb1⟩
theorem chkD_five {ds : List Int} {a : Int} (h : chkD a ds ≠ 0) : chkD a ds = 5 := by
  induction ds generalizing a with
  | nil => exact absurd rfl h
  | cons d r ih =>
    by_cases q : a < d ∧ d ≤ 3652059
    · rw [chkD_next q] at h ⊢; exact ih h
    · exact chkD_no q
set_option maxHeartbeats 1000000 in
theorem rspread_date (v u : Value) (ds : List Int) (w : World) (hb : Row w u ds) (hld : ds.length ≤ 600) (hd : chkD 0 ds ≠ 0) (hca : Hid (Calls Try.prog 19 #[v] w fun e w' => e = .returned (.int .i64 0) ∧ Below w.heap.size w w')) :
    Calls Try.prog 21 #[v, u] w fun e w' => e = .returned (.tuple #[.slice none 0 0, .int .i64 5]) ∧ Below w.heap.size w w' := by
  obtain ⟨bv, bc, eb⟩ := row_slice hb
  subst eb
  have HB := hide hb
  have hf0 : decide (600 < (ds.length : Int)) = false := decide_eq_false (by omega)
  have HI : Hid (chkD 0 (ds.drop 0) = 5) := hide (chkD_five hd)
  clear hb hd
  go_enter Try.func21, Try.ntmps21
  go_wp2_with fail
  refine (unhide hca).mono ?_
  rintro e w1 ⟨rfl, hb1⟩
  have HB1 := hide hb1
  have HBk := hide ((unhide HB).below hb1 (Nat.le_refl _))
  clear hb1 hca HB
  go_wp2_with fail
  go_loop [7, 29] (fun a i => ∃ (k : Nat) (la : Int), k ≤ ds.length ∧ a = .int .i64 la ∧ i = .int .i64 k ∧ Hid (chkD la (ds.drop k) = 5)) (fun _ i => ds.length - (intOf i).toNat)
  case atStart => exact ⟨0, 0, Nat.zero_le _, rfl, rfl, HI⟩
  case round =>
    clear HI
    obtain ⟨k, la, hk, rfl, rfl, HI⟩ := hrel
    by_cases hlt : k < ds.length
    · rcases unhide HBk with ⟨_, _, _, h⟩ | ⟨b2, o2, cc2, h1, _, h4, h5, h6⟩
      · rw [h] at hlt; cases hlt
      cases h1
      have c0 : w1.cell? ⟨b2, o2 + k, none⟩ = some (.int .i64 (dAt ds k)) := h5 k hlt
      have HI2 : Hid (chkD la (dAt ds k :: ds.drop (k + 1)) = 5) := hide (by have := unhide HI; rw [drop_getI hlt] at this; exact this)
      clear h4 h5 h6 HI
      generalize dAt ds k = d at *
      by_cases q : d ≤ la
      · have q3 := decide_eq_true q
        go_wp2_with fail
        go_ret2
        exact ⟨rfl, unhide HB1⟩
      · have q3 := decide_eq_false q
        by_cases q2 : 3652059 < d
        · have q4 := decide_eq_true q2
          go_wp2_with fail
          go_ret2
          exact ⟨rfl, unhide HB1⟩
        · have q4 := decide_eq_false q2
          have HI3 : Hid (chkD d (ds.drop (k + 1)) = 5) := hide (by rw [← unhide HI2]; exact (chkD_next ⟨by omega, by omega⟩).symm)
          go_wp2_with fail
          go_round
          case rel => exact ⟨k + 1, d, by omega, rfl, by go_num, HI3⟩
          case measure => simp [intOf]; omega
    · exfalso
      have := unhide HI
      rw [show k = ds.length from by omega, List.drop_length] at this
      cases this
theorem rspread_all (v u : Value) (l : List (Int × Int)) (ds : List Int) (w : World) (ha : RowF w v l) (hb : Row w u ds) : SpreadA 21 v u l ds w := by
  by_cases h1 : chkE l = 0
  · have hca : Hid (Calls Try.prog 19 #[v] w fun e w' => e = .returned (.int .i64 0) ∧ Below w.heap.size w w') := hide (by have := rcheck_any v l w ha; rwa [h1] at this)
    by_cases h2 : dayE ds = 0
    · refine (rspread_core v u l ds w ha hb (days_of h1 h2) hca).mono ?_
      rintro e w' ⟨x, en, r, rfl, hr, hm, hbl⟩
      obtain ⟨rfl, rfl⟩ := hm.same h1 h2
      exact ⟨x, rfl, hr, hbl⟩
    · by_cases h3 : 600 < ds.length
      · have e : dayE ds = 10 := if_pos h3
        have hs := sE_d h1 h2
        rw [e] at hs
        obtain ⟨bv, bc, rfl⟩ := row_slice hb
        refine (rspread_full v bv _ bc w h3 hca).mono ?_
        rintro e w' ⟨rfl, hbl⟩
        rw [hs.1, hs.2]
        exact ⟨_, rfl, Or.inl ⟨none, 0, rfl, rfl⟩, hbl⟩
      · have e : dayE ds = chkD 0 ds := if_neg h3
        have hs := sE_d h1 h2
        rw [e] at h2 hs
        rw [chkD_five h2] at hs
        refine (rspread_date v u ds w hb (by omega) h2 hca).mono ?_
        rintro e w' ⟨rfl, hbl⟩
        rw [hs.1, hs.2]
        exact ⟨_, rfl, Or.inl ⟨none, 0, rfl, rfl⟩, hbl⟩
  · refine (rspread_a v u (chkE l) w (by simpa using h1) (hide (rcheck_any v l w ha))).mono ?_
    rintro e w' ⟨rfl, hbl⟩
    rw [(sE_l h1).1, (sE_l h1).2]
    exact ⟨_, rfl, Or.inl ⟨none, 0, rfl, rfl⟩, hbl⟩
end Go.Proofs.Ytkjbkppjebljpaa
