/- empty, by the closure of Sync and by that of Crash. -/
import Derived.Test.YtdbefnghljjieaaEm
namespace Go.Proofs.Ytdbefnghljjieaa
open Go.RowKit
set_option linter.unusedVariables false
set_option linter.unusedSimpArgs false
/-- A row beside what is written. -/
theorem row_but' {m : Nat} {F : Nat → Prop} {w w' : World} {x : Option Addr} {n c : Nat} {l : List (List Value)} (h : RowG m w (.slice x n c) l) (hb : But F w w') (hn : ∀ y, x = some y → 0 < n → ¬ F y.block) : RowG m w' (.slice x n c) l := by
  rcases h with h | ⟨b, off, cap, h1, h2, h3, h6, h4, h5⟩
  · exact Or.inl h
  · injection h1 with e1 e2 e3
    subst e1 e3
    exact Or.inr ⟨b, off, _, by rw [e2], h2, h3, h6, fun j hj t ht => (hb.cell (p := ⟨b, off + j * m + t, none⟩) (lt_of_cell (h4 j hj t ht)) (hn ⟨b, off, none⟩ rfl (by omega))).trans (h4 j hj t ht), h5⟩
theorem row_but {m b : Nat} {w w' : World} {x : Option Addr} {n c : Nat} {l : List (List Value)} (h : RowG m w (.slice x n c) l) (hb : But (fun k => k = b) w w') (hn : ∀ y, x = some y → y.block ≠ b) : RowG m w' (.slice x n c) l := row_but' h hb (fun y e _ c => hn y e c)
theorem row_lt {w : World} {x : Option Addr} {n c : Nat} {l : List (List Value)} (h : RowG 1 w (.slice x n c) l) : ∀ y, x = some y → 0 < n → y.block < w.heap.size := fun y e h0 => by
  rcases h with ⟨a, cap, h1, h2, _⟩ | ⟨b, off, cap, h1, h2, h3, h6, h4, h5⟩
  · injection h1; omega
  · injection h1 with e1 e2 e3
    rw [e1] at e
    injection e with e
    subst e
    exact lt_of_cell (h4 0 h2 0 (by decide))
set_option maxHeartbeats 1000000 in
theorem empty_sync (bs bp : Nat) (vq : Value) (A : Stt) (c1 : Nat)  (w : World) (h : Sto LP w bs bp vq A) (h1 : Blk w c1 #[.pointer (some ⟨bs, 0, none⟩)] 25) (m1 : c1 ≠ bp) (m3 : c1 ≠ bs)  : Calls Try.prog 28 #[.pointer (some ⟨bs, 1, none⟩), .func (.func 29) #[] #[.pointer (some ⟨c1, 0, none⟩)]] w fun e w' => e = .returned (.tuple #[]) ∧ Sto LP w' bs bp (.slice none 0 0) (crashS (fun _ => 1) A) ∧ But (fun k => k = bs ∨ k = bp) w w' := by
  obtain ⟨a, cap, e0⟩ := own_form h.q
  subst e0
  have c1' := h.s.at 1 _ rfl
  have cf := h.s.fz 1
  have HA := hide h
  have HK := hide h.clear
  have hb0 := (but_setCell w bs 1 (.slice none 0 0)).mono (G := fun k => k = bs ∨ k = bp) (fun k _ e => Or.inl e)
  have HN := hide hb0
  have HO := hide (own_keep h.q (but_setCell w bs 1 (.slice none 0 0)) (fun k e c => h.n2 (by rw [e, c])))
  have H1 := hide ((but_setCell w bs 1 (.slice none 0 0)).blk h1 m3)
  have hW := hide h.good.w
  have Hn2 := hide h.n2
  have Hn3 := hide h.n3
  have hn4 := h.good.n2
  have M1 := hide m1
  have M3 := hide m3
  clear h h1 hb0 m1 m3
  have HT := hide (fun (k : Nat) q hk => runS_next (fun _ => 1) A.W ⟨A.L, []⟩ (k := k) (q := q) hk)
  have HL := hide (fun k => runS_len (fun _ => 1) (A.W.take k) 0 ⟨A.L, []⟩)
  have HE := hide (show runS (fun _ => 1) 0 (A.W.take A.W.length) ⟨A.L, []⟩ = crashS (fun _ => 1) A by rw [List.take_length]; rfl)
  have HI := hide (fun (k : Nat) (hk : k < A.W.length) => (⟨A.W[k], by simp [hk]⟩ : ∃ q, A.W[k]? = some q))
  generalize hlen : A.W.length = len at *
  have HLen := hide hlen
  clear hlen
  go_enter Try.func28, Try.ntmps28
  go_wp2_with fail
  generalize w.setCell ⟨bs, 1, none⟩ (.slice none 0 0) = w0 at *
  clear c1' cf
  go_loopw [16] (fun i wr => ∃ k : Nat, k ≤ len ∧ i = .int .i64 (k : Int) ∧ Hid (Sto LP wr bs bp (.slice none 0 0) (runS (fun _ => 1) 0 (A.W.take k) ⟨A.L, []⟩)) ∧ Hid (wr.ownsRow 0 70 65 (.slice a len cap) len (A.W.map wrV).flatten) ∧ Hid (But (fun k => k = bs ∨ k = bp) w wr) ∧ Hid (Blk wr c1 #[.pointer (some ⟨bs, 0, none⟩)] 25)) (fun i _ => len - (intOf i).toNat)
  case atStart => exact ⟨0, by omega, rfl, HK, HO, HN, H1⟩
  case round =>
    obtain ⟨k, hk, rfl, HK, HO, HN, H1⟩ := hrel
    by_cases hlt : k < len
    · obtain ⟨q, hq⟩ := unhide HI k hlt
      have hq2 := unhide hW q (List.mem_of_getElem? hq)
      have HQ := hide (show q.1 < (runS (fun _ => 1) 0 (A.W.take k) ⟨A.L, []⟩).L.length ∧ q.2.length = 64 from ⟨Nat.lt_of_lt_of_eq hq2.1 (unhide HL k).symm, hq2.2⟩)
      obtain ⟨g, cap', e1, _⟩ := own_slice (unhide HO) (by omega)
      injection e1 with e1 _ e2
      subst e1 e2
      have HG := hide (own_item (j := k) (by rw [unhide HLen]; exact unhide HO) (fun q hq => ((unhide hW) q hq).2) hq)
      have hw := hide (wrV_len q)
      rw [hq2.2] at hw
      have HT1 := hide (unhide HT k q hq)
      have hgs : g ≠ bp := fun c => unhide Hn3 (by rw [c]; rfl)
      have hlt1 : (k : Int) < (len : Int) := by omega
      have HSt := hide hq
      clear hq hq2 HI
      have hwr : IntKind.i64.wrap ((k : Int) + 1) = ((k + 1 : Nat) : Int) := by rw [IntKind.wrap_i64]; omega
      generalize hA1 : runS (fun _ => 1) 0 (A.W.take k) ⟨A.L, []⟩ = A1 at *
      clear hA1
      generalize hA2 : runS (fun _ => 1) 0 (A.W.take (k + 1)) ⟨A.L, []⟩ = A2 at *
      have HA2 := hide hA2
      clear hA2
      have hw0 : w.heap.size ≤ wr.heap.size := (unhide HN).size
      have hbs := (unhide HK).s.lt
      have hbp := (unhide HK).p.lt
      have hc1 := (show Blk _ _ _ _ from unhide H1).lt
      have hgl := ((unhide HO).lt g rfl).2
      go_wp2_with (first | refine load_rg rfl 70 _ rfl (unhide HG) rfl row70 size70 (unhide hw) ?_ | refine alloc_rg rfl 70 rfl al70 ?_)
      intro W HX hb
      replace HX := hide HX
      replace HK := hide ((unhide HK).below hb)
      replace H1 := hide ((unhide H1).keep hb)
      replace HO := hide (own_keep (unhide HO) (but_of hb (fun _ => False)) (fun _ _ c => c))
      replace HN := hide ((unhide HN).trans (but_of hb (fun k => k = bs ∨ k = bp)) (fun x hx => Or.inl hx))
      clear hb
      generalize wr.heap.size = bx at *
      go_wp2_with (refine store_all rfl 70 _ _ rfl (unhide HX) rfl rfl size70 (by rw [List.size_toArray, wrV_len, zs_len]) (unhide hw) (one_wrV q) ?_)
      intro W2 HX2 hb2
      replace HX := hide HX2
      replace HK := hide ((unhide HK).keep hb2 (fun k hk c => by
        rcases hk with e | e | e
        · omega
        · omega
        · cases e))
      replace H1 := hide (hb2.blk (unhide H1) (by omega))
      replace HO := hide (own_keep (unhide HO) hb2 (fun k e c => by
        have e2 : g = k := by simpa [Value.ownBlock] using e
        omega))
      replace HN := hide ((unhide HN).trans hb2 (fun x hx => Or.inr (by omega)))
      clear HX2 hb2
      go_wp2_with (refine load_rg rfl 70 _ rfl (unhide HX).rg rfl row70 size70 (unhide hw) ?_)
      refine (sync1_any bs bp _ A1 q c1 _ _ (unhide HK) (unhide HQ) (unhide H1)).mono ?_
      rintro e W3 ⟨rfl, hk3, hn3⟩
      rw [← unhide HT1] at hk3
      replace HK := hide hk3
      replace H1 := hide (hn3.blk (unhide H1) (unhide M1))
      replace HO := hide (own_keep (unhide HO) hn3 (fun k e c => by
        have e2 : g = k := by simpa [Value.ownBlock] using e
        exact hgs (by rw [e2, c])))
      replace HN := hide ((unhide HN).trans hn3 (fun x hx => Or.inl (Or.inr hx)))
      clear hk3 hn3
      go_wp2_with fail
      go_roundw
      case rel => exact ⟨k + 1, by omega, by go_num, by rw [unhide HA2]; exact HK, HO, HN, H1⟩
      case measure => simp [intOf]; omega
    · obtain rfl : k = len := by omega
      rw [unhide HE] at HK
      go_wp2_with fail
      go_end0
      exact ⟨rfl, unhide HK, unhide HN⟩
set_option maxHeartbeats 1000000 in
theorem empty_crash (bs bp : Nat) (vq : Value) (A : Stt) (c1 : Nat) (c2 : Nat) (x : Option Addr) (n xc : Nat) (l : List Nat) (w : World) (h : Sto LP w bs bp vq A) (h1 : Blk w c1 #[.pointer (some ⟨bs, 0, none⟩)] 25) (m1 : c1 ≠ bp) (m3 : c1 ≠ bs) (h2 : Blk w c2 #[.slice x n xc] 32) (m2 : c2 ≠ bp) (m4 : c2 ≠ bs) (hr : RowG 1 w (.slice x n xc) (l.map fun n : Nat => [Value.int .u8 (n : Int)])) (hb : ∀ x ∈ l, x < 256) (hrb : ∀ y, x = some y → 0 < n → y.block ≠ bs ∧ y.block ≠ bp) : Calls Try.prog 28 #[.pointer (some ⟨bs, 1, none⟩), .func (.func 31) #[] #[.pointer (some ⟨c1, 0, none⟩), .pointer (some ⟨c2, 0, none⟩)]] w fun e w' => e = .returned (.tuple #[]) ∧ Sto LP w' bs bp (.slice none 0 0) (crashS (fateN l) A) ∧ But (fun k => k = bs ∨ k = bp) w w' := by
  obtain ⟨a, cap, e0⟩ := own_form h.q
  subst e0
  have c1' := h.s.at 1 _ rfl
  have cf := h.s.fz 1
  have HA := hide h
  have HK := hide h.clear
  have hb0 := (but_setCell w bs 1 (.slice none 0 0)).mono (G := fun k => k = bs ∨ k = bp) (fun k _ e => Or.inl e)
  have HN := hide hb0
  have HO := hide (own_keep h.q (but_setCell w bs 1 (.slice none 0 0)) (fun k e c => h.n2 (by rw [e, c])))
  have H1 := hide ((but_setCell w bs 1 (.slice none 0 0)).blk h1 m3)
  have hW := hide h.good.w
  have Hn2 := hide h.n2
  have Hn3 := hide h.n3
  have hn4 := h.good.n2
  have H2 := hide ((but_setCell w bs 1 (.slice none 0 0)).blk h2 m4)
  have HR := hide (row_but' hr (but_setCell w bs 1 (.slice none 0 0)) (fun y e h0 c => (hrb y e h0).1 c))
  have Hb := hide hb
  have Hrb := hide hrb
  have M2 := hide m2
  clear hr hb hrb h2 m2 m4
  have M1 := hide m1
  have M3 := hide m3
  clear h h1 hb0 m1 m3
  have HT := hide (fun (k : Nat) q hk => runS_next (fateN l) A.W ⟨A.L, []⟩ (k := k) (q := q) hk)
  have HL := hide (fun k => runS_len (fateN l) (A.W.take k) 0 ⟨A.L, []⟩)
  have HE := hide (show runS (fateN l) 0 (A.W.take A.W.length) ⟨A.L, []⟩ = crashS (fateN l) A by rw [List.take_length]; rfl)
  have HI := hide (fun (k : Nat) (hk : k < A.W.length) => (⟨A.W[k], by simp [hk]⟩ : ∃ q, A.W[k]? = some q))
  generalize hlen : A.W.length = len at *
  have HLen := hide hlen
  clear hlen
  go_enter Try.func28, Try.ntmps28
  go_wp2_with fail
  generalize w.setCell ⟨bs, 1, none⟩ (.slice none 0 0) = w0 at *
  clear c1' cf
  go_loopw [16] (fun i wr => ∃ k : Nat, k ≤ len ∧ i = .int .i64 (k : Int) ∧ Hid (Sto LP wr bs bp (.slice none 0 0) (runS (fateN l) 0 (A.W.take k) ⟨A.L, []⟩)) ∧ Hid (wr.ownsRow 0 70 65 (.slice a len cap) len (A.W.map wrV).flatten) ∧ Hid (But (fun k => k = bs ∨ k = bp) w wr) ∧ Hid (Blk wr c1 #[.pointer (some ⟨bs, 0, none⟩)] 25) ∧ Hid (Blk wr c2 #[.slice x n xc] 32) ∧ Hid (RowG 1 wr (.slice x n xc) (l.map fun n : Nat => [Value.int .u8 (n : Int)]))) (fun i _ => len - (intOf i).toNat)
  case atStart => exact ⟨0, by omega, rfl, HK, HO, HN, H1, H2, HR⟩
  case round =>
    obtain ⟨k, hk, rfl, HK, HO, HN, H1, H2, HR⟩ := hrel
    by_cases hlt : k < len
    · obtain ⟨q, hq⟩ := unhide HI k hlt
      have hq2 := unhide hW q (List.mem_of_getElem? hq)
      have HQ := hide (show q.1 < (runS (fateN l) 0 (A.W.take k) ⟨A.L, []⟩).L.length ∧ q.2.length = 64 from ⟨Nat.lt_of_lt_of_eq hq2.1 (unhide HL k).symm, hq2.2⟩)
      obtain ⟨g, cap', e1, _⟩ := own_slice (unhide HO) (by omega)
      injection e1 with e1 _ e2
      subst e1 e2
      have HG := hide (own_item (j := k) (by rw [unhide HLen]; exact unhide HO) (fun q hq => ((unhide hW) q hq).2) hq)
      have hw := hide (wrV_len q)
      rw [hq2.2] at hw
      have HT1 := hide (unhide HT k q hq)
      have hgs : g ≠ bp := fun c => unhide Hn3 (by rw [c]; rfl)
      have hlt1 : (k : Int) < (len : Int) := by omega
      have HSt := hide hq
      clear hq hq2 HI
      have hwr : IntKind.i64.wrap ((k : Int) + 1) = ((k + 1 : Nat) : Int) := by rw [IntKind.wrap_i64]; omega
      generalize hA1 : runS (fateN l) 0 (A.W.take k) ⟨A.L, []⟩ = A1 at *
      clear hA1
      generalize hA2 : runS (fateN l) 0 (A.W.take (k + 1)) ⟨A.L, []⟩ = A2 at *
      have HA2 := hide hA2
      clear hA2
      have hw0 : w.heap.size ≤ wr.heap.size := (unhide HN).size
      have hbs := (unhide HK).s.lt
      have hbp := (unhide HK).p.lt
      have hc1 := (show Blk _ _ _ _ from unhide H1).lt
      have hgl := ((unhide HO).lt g rfl).2
      have hc2 := (show Blk _ _ _ _ from unhide H2).lt
      have HRl := hide (row_lt (unhide HR))
      go_wp2_with (first | refine load_rg rfl 70 _ rfl (unhide HG) rfl row70 size70 (unhide hw) ?_ | refine alloc_rg rfl 70 rfl al70 ?_)
      intro W HX hb
      replace HX := hide HX
      replace HK := hide ((unhide HK).below hb)
      replace H1 := hide ((unhide H1).keep hb)
      replace HO := hide (own_keep (unhide HO) (but_of hb (fun _ => False)) (fun _ _ c => c))
      replace HN := hide ((unhide HN).trans (but_of hb (fun k => k = bs ∨ k = bp)) (fun x hx => Or.inl hx))
      replace H2 := hide ((unhide H2).keep hb)
      replace HR := hide ((unhide HR).keep hb)
      clear hb
      generalize wr.heap.size = bx at *
      go_wp2_with (refine store_all rfl 70 _ _ rfl (unhide HX) rfl rfl size70 (by rw [List.size_toArray, wrV_len, zs_len]) (unhide hw) (one_wrV q) ?_)
      intro W2 HX2 hb2
      replace HX := hide HX2
      replace HK := hide ((unhide HK).keep hb2 (fun k hk c => by
        rcases hk with e | e | e
        · omega
        · omega
        · cases e))
      replace H1 := hide (hb2.blk (unhide H1) (by omega))
      replace HO := hide (own_keep (unhide HO) hb2 (fun k e c => by
        have e2 : g = k := by simpa [Value.ownBlock] using e
        omega))
      replace HN := hide ((unhide HN).trans hb2 (fun x hx => Or.inr (by omega)))
      replace H2 := hide (hb2.blk (unhide H2) (by omega))
      replace HR := hide (row_but' (unhide HR) hb2 (fun y e h0 c => by have := unhide HRl y e h0; omega))
      clear HX2 hb2
      go_wp2_with (refine load_rg rfl 70 _ rfl (unhide HX).rg rfl row70 size70 (unhide hw) ?_)
      refine (crash1_any bs bp _ A1 q c1 c2 x n xc l k _ (unhide HK) (unhide HQ) (unhide H1) (unhide H2) (unhide M1) (unhide M2) (unhide HR) (unhide Hb) (by omega)).mono ?_
      rintro e W3 ⟨rfl, hk3, hn3⟩
      rw [← unhide HT1] at hk3
      replace HK := hide hk3
      replace H1 := hide (hn3.blk (unhide H1) (unhide M1))
      replace HO := hide (own_keep (unhide HO) hn3 (fun k e c => by
        have e2 : g = k := by simpa [Value.ownBlock] using e
        exact hgs (by rw [e2, c])))
      replace HN := hide ((unhide HN).trans hn3 (fun x hx => Or.inl (Or.inr hx)))
      replace H2 := hide (hn3.blk (unhide H2) (unhide M2))
      replace HR := hide (row_but' (unhide HR) hn3 (fun y e h0 c => (unhide Hrb y e h0).2 c))
      clear hk3 hn3
      go_wp2_with fail
      go_roundw
      case rel => exact ⟨k + 1, by omega, by go_num, by rw [unhide HA2]; exact HK, HO, HN, H1, H2, HR⟩
      case measure => simp [intOf]; omega
    · obtain rfl : k = len := by omega
      rw [unhide HE] at HK
      go_wp2_with fail
      go_end0
      exact ⟨rfl, unhide HK, unhide HN⟩
end Go.Proofs.Ytdbefnghljjieaa
