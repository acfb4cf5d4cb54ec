/- Proved here: BlockGoes: without a fate all that waits goes: a crash, and a crash of nothing more, leave what was synced last. No condition. -/
import Derived.Test.YtdbefnghljjieaaPl
namespace Go.Proofs.Ytdbefnghljjieaa.blockGoes
open Go.ChangeShapes Go.WideShapes Go.ChangeAt Go.RowKit
set_option linter.unusedVariables false
set_option linter.unusedSimpArgs false
structure GI (A : Stt) (last : List (List Nat)) : Prop where
  n : A.L.length = 30
  l : L64 last
  r : ∀ (a : Nat) (x : List Nat), last[a]? = some x → A.L.getD a none = some x
theorem GI.new : GI (newS 30) zs30 := ⟨by simp [newS], zs30_ok, fun a x h => by
  have ha : a < 30 := by have := (List.getElem?_eq_some_iff.1 h).1; simpa [zs30] using this
  have hx : x = zs64 := (List.mem_replicate.1 (List.mem_of_getElem? h)).2
  rw [hx]
  show (List.replicate 30 (some zs64)).getD a none = some zs64
  rw [List.getD, List.getElem?_replicate, if_pos ha]
  rfl⟩
theorem GI.same {A B : Stt} {last : List (List Nat)} (h : GI A last) (e : B.L = A.L) : GI B last := ⟨by rw [e, h.n], h.l, fun a x hx => by rw [e]; exact h.r a x hx⟩
theorem GI.one {A : Stt} {last : List (List Nat)} (h : GI A last) {o : Opx} (h1 : o.k = 1) : GI (doS A o) last := h.same (by rw [doS, if_pos h1, wrS]; split <;> rfl)
theorem GI.crash {A : Stt} {last : List (List Nat)} (h : GI A last) : GI (crashS (fateN []) A) last := h.same (by rw [crash0])
theorem GI.read {A : Stt} {last : List (List Nat)} (h : GI A last) (hw : A.W = []) (a : Nat) (x : List Nat) (hx : last[a]? = some x) : rdE A (a : Int) = 0 ∧ rdB A (a : Int) = x := by
  have ha : a < A.L.length := by have := (List.getElem?_eq_some_iff.1 hx).1; rw [h.l.1] at this; rw [h.n]; exact this
  rw [rdE_in ha, rdB_in ha, hw, h.r a x hx]
  exact ⟨rfl, rfl⟩
def rdAll (A : Stt) : List (List Nat) := (List.range 30).map fun a : Nat => rdB A (a : Int)
theorem rdAll_at (A : Stt) {a : Nat} (h : a < 30) : (rdAll A)[a]? = some (rdB A (a : Int)) := by simp [rdAll, h]
theorem GI.sync {A : Stt} {last : List (List Nat)} (h : GI A last) (hg : Good (crashS (fun _ => 1) A)) : GI (crashS (fun _ => 1) A) (rdAll (crashS (fun _ => 1) A)) := by
  have some1 : ∀ a : Nat, a < 30 → ∃ y : List Nat, (crashS (fun _ => 1) A).L.getD a none = some y ∧ y.length = 64 := fun a ha => by
    have h2 : a < A.L.length := by rw [h.n]; exact ha
    have h3 := rd_sync h2
    have hl : a < last.length := by rw [h.l.1]; exact ha
    rw [h.r a last[a] (List.getElem?_eq_getElem hl)] at h3
    have h4 : ∃ y, (crashS (fun _ => 1) A).L.getD a none = some y := by
      cases hq : lastF A.W (a : Int) with
      | some q => rw [hq] at h3; exact ⟨_, h3⟩
      | none => rw [hq] at h3; exact ⟨_, h3⟩
    obtain ⟨y, hy⟩ := h4
    have h5 : a < (crashS (fun _ => 1) A).L.length := by rw [crashS_len]; exact h2
    have h6 : some y ∈ (crashS (fun _ => 1) A).L := by
      rw [← hy]
      simp [List.getD, h5]
    exact ⟨y, hy, hg.l _ h6⟩
  have rb : ∀ (a : Nat) (y : List Nat), a < 30 → (crashS (fun _ => 1) A).L.getD a none = some y → rdB (crashS (fun _ => 1) A) (a : Int) = y := fun a y ha hy => by
    rw [rdB_in (by rw [crashS_len, h.n]; exact ha), crashS_W, hy]
    rfl
  refine ⟨by rw [crashS_len, h.n], ⟨by simp [rdAll], fun x hx => ?_⟩, fun a x hx => ?_⟩
  · obtain ⟨a, ha, rfl⟩ := List.mem_map.1 hx
    have ha := List.mem_range.1 ha
    obtain ⟨y, h1, h2⟩ := some1 a ha
    rw [rb a y ha h1]; exact h2
  · have ha : a < 30 := by have := (List.getElem?_eq_some_iff.1 hx).1; simpa [rdAll] using this
    rw [rdAll_at _ ha] at hx
    injection hx with hx
    obtain ⟨y, h1, h2⟩ := some1 a ha
    rw [← hx, rb a y ha h1]; exact h1
def mix (new old : List (List Nat)) (j : Nat) : List (List Nat) := new.take j ++ old.drop j
theorem mix_ok {new old : List (List Nat)} (h1 : L64 new) (h2 : L64 old) {j : Nat} (h : j ≤ 30) : L64 (mix new old j) := ⟨by have e1 := h1.1; have e2 := h2.1; simp [mix]; omega, fun x hx => by
  rcases List.mem_append.1 hx with hx | hx
  · exact h1.2 x (List.mem_of_mem_take hx)
  · exact h2.2 x (List.mem_of_mem_drop hx)⟩
theorem mix_next {new old : List (List Nat)} (h1 : L64 new) (h2 : L64 old) {j : Nat} {x : List Nat} (h : new[j]? = some x) : (mix new old j).set j x = mix new old (j + 1) := by
  have hj : j < new.length := (List.getElem?_eq_some_iff.1 h).1
  have hj2 : j < old.length := by rw [h2.1, ← h1.1]; exact hj
  unfold mix
  rw [List.set_append_right _ _ (by simp; omega), List.take_add_one, h]
  have e : j - (List.take j new).length = 0 := by rw [List.length_take]; omega
  rw [e, List.drop_eq_getElem_cons hj2]
  simp only [Option.toList_some, List.append_assoc, List.cons_append, List.nil_append, List.set_cons_zero]
theorem mix_all {new old : List (List Nat)} (h1 : L64 new) (h2 : L64 old) : mix new old 30 = new := by
  unfold mix
  rw [List.take_of_length_le (by rw [h1.1]; exact Nat.le_refl _), List.drop_of_length_le (by rw [h2.1]; exact Nat.le_refl _), List.append_nil]
theorem bks_range {w : World} {b : Nat} {l : List (List Nat)} {T : TypeId} (h : Blk w b (bks l).toArray T) (hl : L64 l) {j : Nat} {x : List Nat} (hj : l[j]? = some x) : w.rangeAt b (j * 64) (byv x) :=
  h.part (flat_part (bks_fit hl) (by rw [List.getElem?_map, hj]; rfl))
set_option maxHeartbeats 8000000 in
set_option maxRecDepth 20000 in
theorem walk (v : Value) (l : List Opx) (w : World) (h : Ops w v l) : Calls Try.prog 6 #[v] w fun r w' => r = .returned (.bool true) ∧ Below w.heap.size w w' := by
  obtain ⟨x, cap, rfl⟩ := rowG_slice h.row
  rw [List.length_map] at *
  have hmx := rowG_max h.row
  rw [List.length_map] at hmx
  have HC : Hid (∀ k o, l[k]? = some o → ∀ W, Below w.heap.size w W → ∃ b off, x = some ⟨b, off, none⟩ ∧ W.rangeAt b (off + k * 4) (opL o)) := hide (fun k o hk W hb => row_range (h.row.keep hb) (by rw [List.getElem?_map, hk]; rfl))
  have HI := hide (fun (k : Nat) (hk : k < l.length) => (⟨l[k], by simp [hk]⟩ : ∃ o, l[k]? = some o))
  have HOk : Hid (∀ o ∈ l, ∀ W, Below w.heap.size w W → OpOk W o) := hide (fun o ho W hb => (h.ok o ho).keep hb)
  have HBl : Hid (∀ o ∈ l, ∀ y, o.xf = some y → 0 < o.nf → y.block < w.heap.size) := hide (fun o ho => row_lt (h.ok o ho).f)
  have HS := hide h
  clear h
  generalize hlen : l.length = len at *
  replace hlen := hide hlen
  go_enter Try.func6, Try.ntmps6
  go_wp2_with fail
  refine (alive_any _).mono ?_
  rintro e w1 ⟨rfl, hb⟩
  have HB := hide hb
  clear hb
  go_wp2_with fail
  rw [← unhide hlen]
  refine (great_any _ l _ (by rw [unhide hlen]; exact (unhide HS).keep (unhide HB))).mono ?_
  rintro e w2 ⟨t, rfl, hs, hb⟩
  replace HB := hide (below_via (unhide HB) hb)
  clear hb
  rw [unhide hlen]
  cases t with
  | true =>
    go_wp2_with fail
    go_ret
    exact ⟨rfl, unhide HB⟩
  | false =>
  have HSm := hide (hs rfl)
  clear hs HS
  go_wp2_with fail
  refine (newx 30 (fun k => k < w.heap.size) _ (by decide) (by decide) (fun k h => Nat.lt_of_lt_of_le h (unhide HB).size)).mono ?_
  rintro e w3 ⟨p, rfl, hH, hb⟩
  have HH := hide hH
  replace HB := hide (below_via (unhide HB) hb)
  clear hb hH
  go_wp2_with (refine alloc_rg (l := bks zs30) rfl 53 rfl al53 ?_)
  intro W HW hb
  have HW := hide HW
  replace HH := hide (((unhide HH).more (Nat.le_refl _)).below hb)
  have hbw := (unhide HB).size
  replace HB := hide (below_via (unhide HB) hb)
  clear hb
  generalize hbwe : w3.heap.size = bw at *
  go_wp2_with fail
  clear hbwe
  go_loopw [22] (fun i wr => ∃ (k : Nat) (A : Stt) (want : List (List Nat)), k ≤ len ∧ i = .int .i64 (k : Int) ∧ Hid (HasX LP wr p A (fun j => j < w.heap.size ∨ j = bw)) ∧ Hid (Blk wr bw (bks want).toArray 53) ∧ Hid (Below w.heap.size w wr) ∧ Hid (GI A want)) (fun i _ => len - (intOf i).toNat)
  case atStart => exact ⟨0, _, _, by omega, rfl, HH, HW, HB, hide GI.new⟩
  case round =>
    obtain ⟨k, A, want, hk, rfl, HH, HW, HB, HV⟩ := hrel
    by_cases hlt : k < len
    · obtain ⟨o, ho⟩ := unhide HI k hlt
      obtain ⟨b, off, rfl, hr⟩ := unhide HC k o ho wr (unhide HB)
      have HR := hide hr
      have hom := List.mem_of_getElem? ho
      have HO := hide (unhide HOk o hom)
      have HF := hide (unhide HBl o hom)
      have k1 : (k : Int) < (len : Int) := by omega
      have hwr : IntKind.i64.wrap ((k : Int) + 1) = ((k + 1 : Nat) : Int) := by rw [IntKind.wrap_i64]; omega
      have h4 : (opL o).length = 4 := rfl
      replace h4 := hide h4
      have hbwl := (show Blk _ _ _ _ from unhide HW).lt
      have hL64 := hide (unhide HV).l
      clear hr ho hom
      replace HC := hide HC
      replace HI := hide HI
      replace HOk := hide HOk
      replace HBl := hide HBl
      go_wp2_with (first | refine load_rg (l := opL o) rfl 34 _ rfl (unhide HR) rfl row34 size34 (unhide h4) ?_ | refine alloc_rg rfl 34 rfl al34 ?_)
      intro W HX hb
      replace HX := hide HX
      replace HH := hide ((unhide HH).more (Nat.le_refl _) |>.below hb)
      replace HW := hide ((show Blk _ _ _ _ from unhide HW).keep hb)
      have hn0 := (unhide HB).size
      replace HB := hide (below_via (unhide HB) hb)
      have hbol := (show Blk _ _ _ _ from unhide HX).lt
      clear hb
      generalize wr.heap.size = bo at *
      go_wp2_with (refine store_all (l := opL o) rfl 34 _ _ rfl (unhide HX) rfl rfl size34 rfl rfl (one_opL o) ?_)
      intro W2 HX2 hb2
      replace HH := hide ((unhide HH).keep hb2 (Or.inr rfl))
      replace HW := hide (hb2.blk (show Blk _ _ _ _ from unhide HW) (by omega))
      replace HB := hide ((unhide HB).trans (hb2.below (fun k e => by omega) (by omega)))
      replace HX := hide HX2
      have hbo2 : bo < W2.heap.size := (show Blk _ _ _ _ from unhide HX).lt
      have HXl := hide (show ∀ j, (fun j => (j < w.heap.size ∨ j = bw) ∨ j = bo) j → j < W2.heap.size from fun j hj => by rcases hj with (hj | hj) | hj <;> omega)
      clear HX2 hb2 HR
      have c0 : W2.cell? ⟨bo, 0, none⟩ = some (.int .i64 o.k) := (show Blk _ _ _ _ from unhide HX).rg 0 _ rfl
      by_cases hk1 : o.k = 1
      · rw [hk1] at c0
        go_wp2_with (refine load_rg (l := opL o) rfl 34 _ rfl (show Blk _ _ _ _ from unhide HX).rg rfl row34 size34 (unhide h4) ?_)
        refine (dox p A _ _ (unhide HH) (unhide HXl) o (unhide HO _ (unhide HB)) (fun y e h0 => Or.inl (Or.inl (unhide HF y e h0)))).mono ?_
        rintro e W3 ⟨rfl, hH, hkp⟩
        replace HH := hide hH
        replace HW := hide (hkp.blk (show Blk _ _ _ _ from unhide HW) (Or.inl (Or.inr rfl)))
        replace HX := hide (hkp.blk (show Blk _ _ _ _ from unhide HX) (Or.inr rfl))
        replace HB := hide ((unhide HB).trans (hkp.below (fun j hj => Or.inl (Or.inl hj))))
        replace HXl := hide (hkp.lt (unhide HXl))
        clear hH hkp c0
        replace HH := hide ((unhide HH).mono (Z := fun j => j < w.heap.size ∨ j = bw) (fun j hj => Or.inl hj))
        have HV2 := hide ((unhide HV).one hk1)
        clear HXl HX
        replace hk1 := hide hk1
        go_wp2_with fail
        go_roundw
        case rel => exact ⟨k + 1, doS A o, want, by omega, by go_num, HH, HW, HB, HV2⟩
        case measure => simp [intOf]; omega
      · by_cases hk2 : o.k = 2
        · rw [hk2] at c0
          have hS2 : doS A o = crashS (fun _ => 1) A := by rw [doS, if_neg hk1, if_pos hk2]
          replace hk2 := hide hk2
          clear hk1
          go_wp2_with (refine load_rg (l := opL o) rfl 34 _ rfl (show Blk _ _ _ _ from unhide HX).rg rfl row34 size34 (unhide h4) ?_)
          refine (dox p A _ _ (unhide HH) (unhide HXl) o (unhide HO _ (unhide HB)) (fun y e h0 => Or.inl (Or.inl (unhide HF y e h0)))).mono ?_
          rintro e W3 ⟨rfl, hH, hkp⟩
          replace HH := hide hH
          replace HW := hide (hkp.blk (show Blk _ _ _ _ from unhide HW) (Or.inl (Or.inr rfl)))
          replace HX := hide (hkp.blk (show Blk _ _ _ _ from unhide HX) (Or.inr rfl))
          replace HB := hide ((unhide HB).trans (hkp.below (fun j hj => Or.inl (Or.inl hj))))
          replace HXl := hide (hkp.lt (unhide HXl))
          clear hH hkp c0
          rw [hS2] at HH
          have HV2 := hide ((unhide HV).sync (unhide HH).good)
          have hR := hide (fun j hj => rdAll_at (crashS (fun _ => 1) A) (a := j) hj)
          clear hS2 HXl HX
          generalize hA2 : crashS (fun _ => 1) A = A2 at *
          clear hA2
          generalize rdAll A2 = new at *
          replace HH := hide ((unhide HH).mono (Z := fun j => j < w.heap.size ∨ j = bw) (fun j hj => Or.inl hj))
          have HM := hide (fun j h => mix_ok (unhide HV2).l (unhide hL64) (j := j) h)
          have HMn := hide (fun j x h => mix_next (unhide HV2).l (unhide hL64) (j := j) (x := x) h)
          have HMa := hide (mix_all (unhide HV2).l (unhide hL64))
          have HM0 : Hid (Blk W3 bw (bks (mix new want 0)).toArray 53) := HW
          go_wp2_with fail
          go_loopw [38] (fun i wr => ∃ j : Nat, j ≤ 30 ∧ i = .int .i64 (j : Int) ∧ Hid (HasX LP wr p A2 (fun j => j < w.heap.size ∨ j = bw)) ∧ Hid (Blk wr bw (bks (mix new want j)).toArray 53) ∧ Hid (Below w.heap.size w wr)) (fun i _ => 30 - (intOf i).toNat)
          case atStart => exact ⟨0, by omega, rfl, HH, HM0, HB⟩
          case round =>
            clear HH HM0 HB
            obtain ⟨j, hj, rfl, HH, HW, HB⟩ := hrel
            by_cases hj2 : j < 30
            · have j1 : (j : Int) < 30 := by omega
              have d1 : decide ((j : Int) < 30) = true := decide_eq_true j1
              have hwr2 : IntKind.i64.wrap ((j : Int) + 1) = ((j + 1 : Nat) : Int) := by rw [IntKind.wrap_i64]; omega
              have hx := unhide hR j hj2
              have hyl := (unhide HV2).l.2 _ (List.mem_of_getElem? hx)
              have hMn := hide (unhide HMn j _ hx)
              have hM := hide (unhide HM j hj)
              replace hyl := hide (show (byv (rdB A2 (j : Int))).length = 64 by rw [byv_len]; exact hyl)
              have hyb := hide (unhide hyl)
              clear hx
              have HRd := hide (reax p A2 _ _ (unhide HH) (j : Int))
              generalize rdB A2 (j : Int) = y at *
              generalize rdE A2 (j : Int) = ye at *
              go_wp2_with fail
              refine (unhide HRd).mono ?_
              rintro e U3 ⟨rfl, hb⟩
              replace HH := hide ((unhide HH).below hb)
              replace HW := hide ((show Blk _ _ _ _ from unhide HW).keep hb)
              replace HB := hide (below_via (unhide HB) hb)
              clear hb HRd
              go_wp2_with (refine store_mid (l := byv y) (o := j * 64) rfl 45 _ _ rfl (unhide HW) rfl rfl size45 (by rw [List.size_toArray, bks_len (unhide hM)]; omega) (unhide hyl) (one_byv _) ?_)
              intro U4 hW hb
              rw [bks_set (unhide hM) hj2 (by have := unhide hyl; rwa [byv_len] at this), unhide hMn] at hW
              replace HW := hide hW
              replace HH := hide ((unhide HH).keep hb (Or.inr rfl))
              replace HB := hide ((unhide HB).trans (hb.below (fun k e => by omega) (unhide HB).size))
              clear hb hW hMn hM
              go_wp2_with fail
              go_roundw
              case rel => exact ⟨j + 1, by omega, by go_num, HH, HW, HB⟩
              case measure => simp [intOf]; omega
            · obtain rfl : j = 30 := by omega
              rw [unhide HMa] at HW
              go_wp2_with fail
              go_roundw
              case rel => exact ⟨k + 1, A2, new, by omega, by go_num, HH, HW, HB, HV2⟩
              case measure => simp [intOf]; omega
        · by_cases hk3 : o.k = 3
          · rw [hk3] at c0
            have HV2 := hide ((unhide HV).crash)
            have HRd := hide (hide ((unhide HV2).read (crashS_W _ _)))
            replace hk3 := hide hk3
            clear hk1 hk2
            go_wp2_with fail
            refine (crax p A _ _ (unhide HH) (unhide HXl) none 0 0 [] (Or.inl ⟨none, 0, rfl, rfl, fun _ => rfl⟩) (fun x hx => by cases hx) (fun y e h0 => by cases e)).mono ?_
            rintro e W3 ⟨rfl, hH, hkp⟩
            replace HH := hide (hH.mono (Z := fun j => j < w.heap.size ∨ j = bw) (fun j hj => Or.inl hj))
            replace HW := hide (hkp.blk (show Blk _ _ _ _ from unhide HW) (Or.inl (Or.inr rfl)))
            replace HB := hide ((unhide HB).trans (hkp.below (fun j hj => Or.inl (Or.inl hj))))
            clear hH hkp c0 HXl HX
            generalize crashS (fateN []) A = A2 at *
            have HV0 := hide (Below.refl W3.heap.size W3)
            go_wp2_with fail
            go_loopw [54] (fun i wr => ∃ j : Nat, j ≤ 30 ∧ i = .int .i64 (j : Int) ∧ Hid (Below W3.heap.size W3 wr)) (fun i _ => 30 - (intOf i).toNat)
            case atStart => exact ⟨0, by omega, rfl, HV0⟩
            case round =>
              clear HV0
              obtain ⟨j, hj, rfl, HZ⟩ := hrel
              by_cases hj2 : j < 30
              · have hjw : j < want.length := by rw [(unhide HV2).l.1]; exact hj2
                have hx : want[j]? = some want[j] := List.getElem?_eq_getElem hjw
                have hx64 := (unhide HV2).l.2 _ (List.mem_of_getElem? hx)
                obtain ⟨r1, r2⟩ := unhide (unhide HRd) j _ hx
                replace hx := hide hx
                generalize want[j] = y at *
                have he2 := hide (fun W => eq45 y hx64 W)
                have hyl := hide (show (byv y).length = 64 by rw [byv_len]; exact hx64)
                replace r1 := hide r1
                replace r2 := hide r2
                have hwr2 : IntKind.i64.wrap ((j : Int) + 1) = ((j + 1 : Nat) : Int) := by rw [IntKind.wrap_i64]; omega
                have d1 : decide ((j : Int) < 30) = true := decide_eq_true (by omega)
                clear hjw hx64
                have hvs := (unhide HZ).size
                go_wp2_with fail
                refine (reax p A2 _ _ ((unhide HH).below (unhide HZ)) (j : Int)).mono ?_
                rintro e U3 ⟨rfl, hb⟩
                rw [unhide r1, unhide r2]
                replace HZ := hide (below_via (unhide HZ) hb)
                clear hb
                go_wp2_with (refine alloc_rg rfl 45 rfl al45 ?_)
                intro U4 H10 hb
                replace H10 := hide H10
                have hz3 := (unhide HZ).size
                replace HZ := hide (below_via (unhide HZ) hb)
                clear hb
                generalize U3.heap.size = b10 at *
                go_wp2_with (refine store_all (l := byv y) rfl 45 _ _ rfl (unhide H10) rfl rfl size45 (by rw [List.size_toArray, byv_len, zs_len]) (unhide hyl) (one_byv _) ?_)
                intro U5 H102 hb
                replace H10 := hide H102
                replace HZ := hide ((unhide HZ).trans (hb.below (fun k e => by omega) (unhide HZ).size))
                have HW2 := hide ((show Blk _ _ _ _ from unhide HW).keep (unhide HZ))
                clear hb H102 hz3 hvs
                go_wp2_with fail
                refine wp_region_noPanic ?_
                refine wp_region_held_drew (S := fun V => Blk V b10 (byv y).toArray 45 ∧ V.rangeAt bw (j * 64) (byv y)) (by kernel_rfl) ⟨unhide H10, bks_range (unhide HW2) (unhide HV2).l (unhide hx)⟩ (fun hS => ?_)
                replace HZ := hide (unhide HZ).drew
                generalize U5.drew = V0 at *
                refine anyH_at (i := 0) (v := .agg (byv y).toArray) 63 rfl (by kernel_rfl) (by kernel_rfl) (by kernel_rfl) (by kernel_rfl) (fun _ _ _ h => h) (ylo_rg (by kernel_rfl) 45 _ rfl rfl (fun W hS => hS.1.rg) row45 size45 (unhide hyl)) hS ?_
                try simp only [Act.put, List.setIfInBounds_toArray, List.set_cons_zero, List.set_cons_succ]
                refine anyH_at (i := 1) (v := .int .i64 (j : Int)) 64 rfl (by kernel_rfl) (by kernel_rfl) (by kernel_rfl) (by kernel_rfl) (fun _ _ _ h => h) (Or.inl ⟨by kernel_rfl, fun W hS => by go_simp⟩) hS ?_
                try simp only [Act.put, List.setIfInBounds_toArray, List.set_cons_zero, List.set_cons_succ]
                refine anyH_at (i := 2) (v := .pointer (some ⟨bw, j * 64, none⟩)) 65 rfl (by kernel_rfl) (by kernel_rfl) (by kernel_rfl) (by kernel_rfl) (fun _ _ _ h => h) (Or.inl ⟨by kernel_rfl, fun W hS => by have hq1 : (j : Int) < 30 := (by omega); go_simp⟩) hS ?_
                try simp only [Act.put, List.setIfInBounds_toArray, List.set_cons_zero, List.set_cons_succ]
                refine anyH_at (i := 3) (v := .agg (byv y).toArray) 66 rfl (by kernel_rfl) (by kernel_rfl) (by kernel_rfl) (by kernel_rfl) (fun _ _ _ h => h) (ylo_rg (by kernel_rfl) 45 _ rfl rfl (fun W hS => hS.2) row45 size45 (unhide hyl)) hS ?_
                try simp only [Act.put, List.setIfInBounds_toArray, List.set_cons_zero, List.set_cons_succ]
                refine anyH_at (i := 4) (v := .bool false) 67 rfl (by kernel_rfl) (by kernel_rfl) (by kernel_rfl) (by kernel_rfl) (fun _ _ _ h => h) (Or.inl ⟨by kernel_rfl, fun W hS => by have he := unhide he2; have hg := gd45; go_simp⟩) hS ?_
                try simp only [Act.put, List.setIfInBounds_toArray, List.set_cons_zero, List.set_cons_succ]
                refine anyH_at (i := 5) (v := .bool false) 68 rfl (by kernel_rfl) (by kernel_rfl) (by kernel_rfl) (by kernel_rfl) (fun _ _ _ h => h) (Or.inl ⟨by kernel_rfl, fun W hS => by go_simp⟩) hS ?_
                try simp only [Act.put, List.setIfInBounds_toArray, List.set_cons_zero, List.set_cons_succ]
                refine anyH_at (i := 6) (v := .int .i64 0) 69 rfl (by kernel_rfl) (by kernel_rfl) (by kernel_rfl) (by kernel_rfl) (fun _ _ _ h => h) (Or.inl ⟨by kernel_rfl, fun W hS => by go_simp⟩) hS ?_
                try simp only [Act.put, List.setIfInBounds_toArray, List.set_cons_zero, List.set_cons_succ]
                refine anyH_at (i := 7) (v := .bool false) 70 rfl (by kernel_rfl) (by kernel_rfl) (by kernel_rfl) (by kernel_rfl) (fun _ _ _ h => h) (Or.inl ⟨by kernel_rfl, fun W hS => by go_simp⟩) hS ?_
                try simp only [Act.put, List.setIfInBounds_toArray, List.set_cons_zero, List.set_cons_succ]
                refine anyH_at (i := 8) (v := .bool false) 71 rfl (by kernel_rfl) (by kernel_rfl) (by kernel_rfl) (by kernel_rfl) (fun _ _ _ h => h) (Or.inl ⟨by kernel_rfl, fun W hS => by go_simp⟩) hS ?_
                try simp only [Act.put, List.setIfInBounds_toArray, List.set_cons_zero, List.set_cons_succ]
                refine wpAnyH_done (by kernel_rfl) ?_ _
                refine noPanic_out ?_
                clear hS
                go_wp2_with fail
                go_roundw
                case rel => exact ⟨j + 1, by omega, by go_num, HZ⟩
                case measure => simp [intOf]; omega
              · obtain rfl : j = 30 := by omega
                replace HH := hide ((unhide HH).below (unhide HZ))
                replace HW := hide ((show Blk _ _ _ _ from unhide HW).keep (unhide HZ))
                replace HB := hide (below_via (unhide HB) (unhide HZ))
                go_wp2_with fail
                go_roundw
                case rel => exact ⟨k + 1, A2, want, by omega, by go_num, HH, HW, HB, HV2⟩
                case measure => simp [intOf]; omega
          · replace HH := hide ((unhide HH).mono (Z := fun j => j < w.heap.size ∨ j = bw) (fun j hj => Or.inl hj))
            clear HXl HX
            go_wp2_with fail
            go_roundw
            case rel => exact ⟨k + 1, A, want, by omega, by go_num, HH, HW, HB, HV⟩
            case measure => simp [intOf]; omega
    · obtain rfl : k = len := by omega
      go_wp2_with fail
      go_ret
      exact ⟨rfl, unhide HB⟩
theorem own : ownKnob Try.prog.godebug = none := by kernel_rfl
theorem laidOut : laidOutB Try.prog = true := by kernel_rfl
set_option linter.unusedVariables false in
set_option maxRecDepth 100000 in
theorem lifted (os : Os) (started : os.Started) (H : Type) (enc : TypeId × Value → H) :
    ReturnsInHanded {} Try.checked os 6 .any (Rows.blockGoesSpec.pre6 enc Try.prog Try.f6 Rows.blockGoesRow.domain false) (Rows.blockGoesSpec.post enc Try.prog Try.f6 false true false false) := by
  refine returnsInHanded_of_change (C := Try.checked) own started (by kernel_rfl) Try.func6
    (ChangeSpec.witness6 (enc := enc) (C := Try.checked) false ⟨#[], #[.slice none 0 0], []⟩ 8 (by kernel_rfl) (by kernel_rfl) (by kernel_rfl) (by kernel_rfl)) ?_
  intro W base args ds gs before hval0 hW hcnd _
  have hval : ∀ (j : Nat) t v, Try.f6.params[j]? = some t → args[j]? = some v → Value.okWide Try.prog W .any base t v := hval0
  have hW' := hW
  obtain ⟨p, q, hA0, hV, rfl, hfz, hnd⟩ := hW
  have hA : DataW.TrodAll enc Try.prog W 0 (fun _ => true) true Try.f6.params.toList args.toList ds p := hA0
  rw [Try.params6] at hA hval
  obtain ⟨v0, vs0, d0, ds0, p0, q0, hargs, rfl, rfl, h0, r0⟩ := trodAll_cons hA
  obtain ⟨rfl, rfl, rfl⟩ := trodAll_nil r0
  obtain rfl : args = #[v0] := by cases args; simp_all
  obtain ⟨rfl, rfl⟩ := trodVars_none hV
  have k0 := h0
  have lt0 : ∀ x ∈ p0, x.block < W.heap.size := by obtain ⟨m, hm⟩ := k0; exact DataW.trod_lt m _ _ _ hm
  obtain ⟨a0, len0, cap0, rfl⟩ := okWide_slice Try.underlying22 (hval 0 22 v0 rfl rfl)
  obtain ⟨l0, hr0⟩ : ∃ l : List Opx, Ops W (.slice a0 len0 cap0) l := by
    obtain ⟨fuel, hf⟩ := h0
    exact ops_open hf
  clear hA0 hval0
  refine (walk _ l0 W hr0).mono fun e W' ⟨he, bel⟩ => ?_
  subst he
  exact ⟨_, rfl, _, _, _, [], _, [], hW', trodAll_mk1 (shut_bool Try.underlying4 _), (trodAll_cons_mk (Below.trod laidOut (by kernel_rfl) (of_decide_eq_true (by kernel_rfl)) k0 bel lt0) trodAll_mk0), rfl, bel.frame _, fun h => by cases h⟩
theorem over : Rows.blockGoesRow.holds Try.pinned (OpenSpec.ofChange Rows.blockGoesSpec) :=
  OpenClaim.holds_of_wide 6 Try.f6 rfl rfl rfl rfl rfl rfl rfl ⟨rfl, rfl, rfl, rfl, rfl⟩ rfl rfl rfl rfl rfl (by kernel_rfl) Try.func6 (by kernel_rfl)
    (of_decide_eq_true (by kernel_rfl)) (by unfold Func.isWrapper; first | (rw [if_pos (by decide +kernel)]; kernel_rfl) | (rw [if_neg (by decide +kernel)]; exact ⟨rfl, rfl⟩))
    (fun os started H enc _ => lifted os started H enc)
theorem proved : Rows.BlockGoesSaid := over
end Go.Proofs.Ytdbefnghljjieaa.blockGoes
namespace Go.Proofs.Ytdbefnghljjieaa
theorem blockGoes_holds : Rows.BlockGoesSaid := blockGoes.proved
end Go.Proofs.Ytdbefnghljjieaa
