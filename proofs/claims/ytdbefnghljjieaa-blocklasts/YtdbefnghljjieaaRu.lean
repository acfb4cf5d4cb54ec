/- The document's Read. -/
import Derived.Test.YtdbefnghljjieaaRt
import Derived.Test.YtdbefnghljjieaaPl
namespace Go.Proofs.Ytdbefnghljjieaa
open Go.RowKit
set_option linter.unusedVariables false
set_option linter.unusedSimpArgs false
set_option maxHeartbeats 1000000 in
set_option maxRecDepth 10000 in
theorem rread_no (bs bp : Nat) (a : Option Addr) (cap : Nat) (A : Stt) (at_ : Int) (w : World) (h : Sto LR w bs bp (.slice a A.W.length cap) A) (hin : inR at_ A.L.length = false) : Calls Try.prog 20 #[.pointer (some ⟨bs, 0, none⟩), .int .i64 at_] w fun e w' => e = .returned (.tuple #[bk zs64, .int .i64 2]) ∧ Below w.heap.size w w' := by
  have hin' : ¬ (0 ≤ at_ ∧ at_ < (A.L.length : Int)) := by simpa [inR] using hin
  clear hin
  by_cases h0 : at_ < 0
  · clear hin'
    have HK := hide h
    have hbs := h.s.lt
    have hbp := h.p.lt
    clear h
    go_enter Try.func20, Try.ntmps20
    go_wp2_with (refine alloc_rg rfl 37 rfl al37 ?_)
    intro W H4 hb
    replace H4 := hide H4
    replace HK := hide ((unhide HK).below hb)
    have HB := hide hb
    clear hb
    have hs2 := (show Blk _ _ _ _ from unhide H4).lt
    have hs3 : w.heap.size ≤ W.heap.size := (unhide HB).size
    generalize hb4e : w.heap.size = b4 at *
    have c0 := (unhide HK).s.at 0 _ rfl
    have c1 := (unhide HK).s.at 1 _ rfl
    have z64 := hide (show (byv zs64).length = 64 by rw [byv_len, zs_len])
    clear c0 c1
    go_wp2_with (refine store_all (l := byv zs64) rfl 37 _ _ rfl (unhide H4) rfl rfl size37 (by rw [List.size_toArray]; exact unhide z64) (unhide z64) (one_byv _) ?_)
    intro Wz H4z hbz
    replace HB := hide ((unhide HB).trans (hbz.below (fun k e => by omega) (by omega)))
    replace H4z := hide H4z
    clear hbz
    go_wp2_with fail
    refine bodyPost_ret (res_ct rfl (show Blk _ _ _ _ from unhide H4z) row37 size37 (by rw [List.size_toArray]; exact unhide z64) rfl rfl) rfl ?_
    exact ⟨by rfl, by have := unhide HB; rwa [← hb4e] at this⟩
  · have k2 : ¬ at_ < (A.L.length : Int) := by omega
    clear hin'
    have HK := hide h
    have hbs := h.s.lt
    have hbp := h.p.lt
    clear h
    go_enter Try.func20, Try.ntmps20
    go_wp2_with (refine alloc_rg rfl 37 rfl al37 ?_)
    intro W H4 hb
    replace H4 := hide H4
    replace HK := hide ((unhide HK).below hb)
    have HB := hide hb
    clear hb
    have hs2 := (show Blk _ _ _ _ from unhide H4).lt
    have hs3 : w.heap.size ≤ W.heap.size := (unhide HB).size
    generalize hb4e : w.heap.size = b4 at *
    have c0 := (unhide HK).s.at 0 _ rfl
    have c1 := (unhide HK).s.at 1 _ rfl
    have z64 := hide (show (byv zs64).length = 64 by rw [byv_len, zs_len])
    clear c1
    go_wp2_with (refine store_all (l := byv zs64) rfl 37 _ _ rfl (unhide H4) rfl rfl size37 (by rw [List.size_toArray]; exact unhide z64) (unhide z64) (one_byv _) ?_)
    intro Wz H4z hbz
    replace HB := hide ((unhide HB).trans (hbz.below (fun k e => by omega) (by omega)))
    replace H4z := hide H4z
    clear hbz
    go_wp2_with fail
    refine bodyPost_ret (res_ct rfl (show Blk _ _ _ _ from unhide H4z) row37 size37 (by rw [List.size_toArray]; exact unhide z64) rfl rfl) rfl ?_
    exact ⟨by rfl, by have := unhide HB; rwa [← hb4e] at this⟩
set_option maxHeartbeats 4000000 in
set_option maxRecDepth 10000 in
theorem rread_in (bs bp : Nat) (a : Option Addr) (cap : Nat) (A : Stt) (at_ : Nat) (w : World) (h : Sto LR w bs bp (.slice a A.W.length cap) A) (hat : at_ < A.L.length) : Calls Try.prog 20 #[.pointer (some ⟨bs, 0, none⟩), .int .i64 (at_ : Int)] w fun e w' => e = .returned (.tuple #[bk (rdB A (at_ : Int)), .int .i64 (rdE A (at_ : Int))]) ∧ Below w.heap.size w w' := by
  have HK := hide h
  have hbs := h.s.lt
  have hbp := h.p.lt
  clear h
  go_enter Try.func20, Try.ntmps20
  go_wp2_with (refine alloc_rg rfl 37 rfl al37 ?_)
  intro W H4 hb
  replace H4 := hide H4
  replace HK := hide ((unhide HK).below hb)
  have HB := hide hb
  clear hb
  have hs2 := (show Blk _ _ _ _ from unhide H4).lt
  have hs3 : w.heap.size ≤ W.heap.size := (unhide HB).size
  generalize hb4e : w.heap.size = b4 at *
  have c0 := (unhide HK).s.at 0 _ rfl
  have c1 := (unhide HK).s.at 1 _ rfl
  have z64 := hide (show (byv zs64).length = 64 by rw [byv_len, zs_len])
  have k1 : ¬ (at_ : Int) < 0 := by omega
  have k2 : (at_ : Int) < (A.L.length : Int) := by omega
  have hlx := hide (fun (k : Nat) (hk : k < A.W.length) => (⟨A.W[k], by simp [hk]⟩ : ∃ q, A.W[k]? = some q))
  have hn2 := (unhide HK).good.n2
  replace hat := hide hat
  go_wp2_with fail
  generalize hlen : A.W.length = len at *
  have HLen := hide hlen
  clear hlen
  go_loopw [6] (fun i wr => ∃ k : Nat, k ≤ len ∧ i = .int .i64 ((k : Int) - 1) ∧ Hid (wr = W) ∧ Hid (∀ j q, k ≤ j → A.W[j]? = some q → (q.1 : Int) ≠ (at_ : Int))) (fun i _ => (intOf i + 1).toNat)
  case atStart => exact ⟨len, by omega, by first | rfl | (congr 1; rw [IntKind.wrap_i64]; omega), hide rfl, hide (fun j q hj hq => by have := (List.getElem?_eq_some_iff.1 hq).1; have := unhide HLen; omega)⟩
  case round =>
    obtain ⟨k, hk, rfl, HW, HL⟩ := hrel
    obtain rfl := unhide HW
    clear HW
    cases k with
    | succ k =>
      obtain ⟨q, hq⟩ := unhide hlx k (by omega)
      have hql := (unhide HK).good.w q (List.mem_of_getElem? hq)
      obtain ⟨g, cap', e1, _⟩ := own_slice (unhide HK).q (by have := unhide HLen; omega)
      injection e1 with e1 _ e2
      subst e1 e2
      have HQ0 := (unhide HK).q
      have HG := own_item (j := k) (by rw [unhide HLen]; rw [unhide HLen] at HQ0; exact HQ0) (fun q hq => ((unhide HK).good.w q hq).2) hq
      have cq : wr.cell? ⟨g, k * 65, none⟩ = some (.int .i64 (q.1 : Int)) := range_head (ys := byv q.2) HG
      have HT := hide (range_tail (x := .int .i64 (q.1 : Int)) (ys := byv q.2) HG)
      have hi : ((k + 1 : Nat) : Int) - 1 = (k : Int) := by omega
      have hi2 : IntKind.i64.wrap ((k : Int) - 1) = (k : Int) - 1 := by rw [IntKind.wrap_i64]; omega
      have hkl : (k : Int) < (len : Int) := by omega
      have hw2 := hide (show (byv q.2).length = 64 by rw [byv_len, hql.2])
      rw [hi]
      replace hq := hide hq
      clear HQ0 HG hi hql
      by_cases hqa : (q.1 : Int) = (at_ : Int)
      · have EB := hide (show rdB A (at_ : Int) = q.2 by
          have e1 : lastF A.W (at_ : Int) = some q := lastF_some (unhide hq) hqa (fun j y hj hy => unhide HL j y (by omega) hy)
          rw [rdB, if_pos (inR_nat (unhide hat)), lastB, lastQ, e1]; rfl)
        have EE := hide (show rdE A (at_ : Int) = 0 by
          have e1 : lastF A.W (at_ : Int) = some q := lastF_some (unhide hq) hqa (fun j y hj hy => unhide HL j y (by omega) hy)
          rw [rdE, if_pos (inR_nat (unhide hat)), lastB, e1]; rfl)
        go_wp2_with (first | refine load_rg (l := byv q.2) rfl 37 _ rfl (unhide HT) rfl row37 size37 (unhide hw2) ?_ | refine store_all (l := byv q.2) rfl 37 _ _ rfl (unhide H4) rfl rfl size37 (by rw [List.size_toArray]; exact unhide z64) (unhide hw2) (one_byv _) ?_)
        intro Wz H4z hbz
        replace HB := hide ((unhide HB).trans (hbz.below (fun k e => by omega) (by omega)))
        replace H4z := hide H4z
        clear hbz
        go_wp2_with fail
        refine bodyPost_ret (res_ct rfl (show Blk _ _ _ _ from unhide H4z) row37 size37 (by rw [List.size_toArray]; exact unhide hw2) rfl rfl) rfl ?_
        exact ⟨by rw [unhide EB, unhide EE]; rfl, by have := unhide HB; rwa [← hb4e] at this⟩
      · clear HT
        have hqa' := hide hqa
        go_wp2_with fail
        go_roundw
        case rel => exact ⟨k, by omega, by first | rfl | go_num, by first | exact hide rfl | exact hide trivial, hide (fun j y hj hy => by
          by_cases e : j = k
          · subst e; rw [unhide hq] at hy; injection hy with hy; subst hy; exact unhide hqa'
          · exact unhide HL j y (by omega) hy)⟩
        case measure => simp [intOf]
    | zero =>
      have e0 : lastF A.W (at_ : Int) = none := lastF_none (fun q hq => by
        obtain ⟨j, hj, e⟩ := List.getElem_of_mem hq
        exact unhide HL j q (Nat.zero_le _) (by simp [hj, e]))
      have hx : A.L[at_]? = some (A.L[at_]'(unhide hat)) := List.getElem?_eq_getElem (unhide hat)
      have hgd : A.L.getD at_ none = A.L[at_]'(unhide hat) := by rw [List.getD, hx]; rfl
      have hp := (unhide HK).place hx
      have hgood := (unhide HK).good.l _ (List.mem_of_getElem? hx)
      have E0 := hide e0
      have HGd := hide hgd
      clear e0 hgd hlx
      generalize hpl : A.L[at_]'(unhide hat) = pl at *
      cases pl with
      | none =>
        have EB := hide (show rdB A (at_ : Int) = zs64 by rw [rdB, if_pos (inR_nat (unhide hat)), lastB, unhide E0, Int.toNat_natCast, unhide HGd]; rfl)
        have EE := hide (show rdE A (at_ : Int) = 7 by rw [rdE, if_pos (inR_nat (unhide hat)), lastB, unhide E0, Int.toNat_natCast, unhide HGd]; rfl)
        have ct : wr.cell? ⟨bp, at_ * 65 + 64, none⟩ = some (.bool true) := by
          have r := range_right (xs := byv zs64) (ys := [.bool true]) hp
          rw [byv_len, zs_len] at r
          exact range_head r
        clear hp hpl hx hgood
        go_wp2_with (refine store_all (l := byv zs64) rfl 37 _ _ rfl (unhide H4) rfl rfl size37 (by rw [List.size_toArray]; exact unhide z64) (unhide z64) (one_byv _) ?_)
        intro Wz H4z hbz
        replace HB := hide ((unhide HB).trans (hbz.below (fun k e => by omega) (by omega)))
        replace H4z := hide H4z
        clear hbz
        go_wp2_with fail
        refine bodyPost_ret (res_ct rfl (show Blk _ _ _ _ from unhide H4z) row37 size37 (by rw [List.size_toArray]; exact unhide z64) rfl rfl) rfl ?_
        exact ⟨by rw [unhide EB, unhide EE]; rfl, by have := unhide HB; rwa [← hb4e] at this⟩
      | some l =>
        have EB := hide (show rdB A (at_ : Int) = l by rw [rdB, if_pos (inR_nat (unhide hat)), lastB, unhide E0, Int.toNat_natCast, unhide HGd]; rfl)
        have EE := hide (show rdE A (at_ : Int) = 0 by rw [rdE, if_pos (inR_nat (unhide hat)), lastB, unhide E0, Int.toNat_natCast, unhide HGd]; rfl)
        have hl : l.length = 64 := hgood
        have ct : wr.cell? ⟨bp, at_ * 65 + 64, none⟩ = some (.bool false) := by
          have r := range_right (xs := byv l) (ys := [.bool false]) hp
          rw [byv_len, hl] at r
          exact range_head r
        have HT := hide (range_left (xs := byv l) (ys := [.bool false]) hp)
        have hw2 := hide (show (byv l).length = 64 by rw [byv_len, hl])
        clear hp hpl hx hgood hl
        go_wp2_with (first | refine load_rg (l := byv l) rfl 37 _ rfl (unhide HT) rfl row37 size37 (unhide hw2) ?_ | refine store_all (l := byv l) rfl 37 _ _ rfl (unhide H4) rfl rfl size37 (by rw [List.size_toArray]; exact unhide z64) (unhide hw2) (one_byv _) ?_)
        intro Wz H4z hbz
        replace HB := hide ((unhide HB).trans (hbz.below (fun k e => by omega) (by omega)))
        replace H4z := hide H4z
        clear hbz
        go_wp2_with fail
        refine bodyPost_ret (res_ct rfl (show Blk _ _ _ _ from unhide H4z) row37 size37 (by rw [List.size_toArray]; exact unhide hw2) rfl rfl) rfl ?_
        exact ⟨by rw [unhide EB, unhide EE]; rfl, by have := unhide HB; rwa [← hb4e] at this⟩
theorem rrea_any (p : Value) (A : Stt) (F : Nat → Prop) (at_ : Int) (w : World) (h : Has LR w p A F) : Calls Try.prog 20 #[p, .int .i64 at_] w fun e w' => e = .returned (.tuple #[bk (rdB A at_), .int .i64 (rdE A at_)]) ∧ Below w.heap.size w w' := by
  obtain ⟨bs, bp, vq, rfl, rfl, h⟩ := h
  obtain ⟨a, cap, rfl⟩ := own_form h.q
  cases hin : inR at_ A.L.length with
  | false =>
    rw [show rdB A at_ = zs64 by simp [rdB, hin], show rdE A at_ = 2 by simp [rdE, hin]]
    exact rread_no bs bp a cap A at_ w h hin
  | true =>
    have hr : 0 ≤ at_ ∧ at_ < (A.L.length : Int) := by simpa [inR] using hin
    obtain ⟨k, rfl⟩ : ∃ k : Nat, at_ = (k : Int) := ⟨at_.toNat, by omega⟩
    exact rread_in bs bp a cap A k w h (by omega)
end Go.Proofs.Ytdbefnghljjieaa
