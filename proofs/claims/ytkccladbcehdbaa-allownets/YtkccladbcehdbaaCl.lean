/- The closure that sums up at a key. -/
import Derived.Test.YtkccladbcehdbaaMp
import Derived.Deep.RegionHeld
import Derived.Handy
namespace Go.Proofs.Ytkccladbcehdbaa
open Go.RowKit
set_option linter.unusedVariables false
set_option linter.unusedSimpArgs false
/-- What the summing region leaves as it is. -/
structure CS (W : World) (b bx bk : Nat) (s c : Int) : Prop where
  x : Blk W bx #[.map (some b)] 52
  k : Blk W bk #[.int .i64 s, .int .i64 c] 56
theorem CS.drew {W : World} {b bx bk : Nat} {s c : Int} (h : CS W b bx bk s c) : CS W.drew b bx bk s c := ⟨h.x, h.k⟩
theorem MapAt.ne {W : World} {b bx : Nat} {f : Int → Int → Int} {cs : Array Value} {T : TypeId} (h : MapAt W b f) (hx : Blk W bx cs T) : bx ≠ b := by
  rintro rfl
  obtain ⟨es, clock, h1, _⟩ := h
  have := (show W.heap[bx]? = _ from hx).symm.trans h1
  simp at this
theorem CS.grown {W W' : World} {b bx bk : Nat} {s c : Int} {f : Int → Int → Int} (h : CS W b bx bk s c) (hm : MapAt W b f) (hg : W.grownBy W' (some b)) : CS W' b bx bk s c :=
  ⟨(hg.block bx h.x.lt (fun e => hm.ne h.x (Option.some.inj e))).trans h.x, (hg.block bk h.k.lt (fun e => hm.ne h.k (Option.some.inj e))).trans h.k⟩
theorem map_drew {W : World} {b : Nat} {f : Int → Int → Int} (h : MapAt W b f) : MapAt W.drew b f := h
theorem grown_drew {w W : World} {r : Option Nat} (h : w.grownBy W r) : w.grownBy W.drew r := ⟨h.os, h.tape, h.output, h.size, h.block⟩
theorem grown_trans {a b c : World} {r : Option Nat} (h : a.grownBy b r) (k : b.grownBy c r) : a.grownBy c r :=
  ⟨k.os.trans h.os, k.tape.trans h.tape, k.output.trans h.output, Nat.le_trans h.size k.size, fun i hi hr => (k.block i (Nat.lt_of_lt_of_le hi h.size) hr).trans (h.block i hi hr)⟩
/-- The closure: what it puts is summed up at the key. -/
theorem clo_any (w : World) (b bx : Nat) (f : Int → Int → Int) (s c n : Int) (hx : Blk w bx #[.map (some b)] 52) (hm : MapAt w b f) (hs : In64 s) (hc : In64 c) (hn : IntKind.i64.wrap (f s c + n) = f s c + n) :
    Calls Try.prog 32 #[ky s c, .int .i64 n, .pointer (some ⟨bx, 0, none⟩)] w fun e w' => e = .returned (.tuple #[]) ∧ MapAt w' b (upd f s c (f s c + n)) ∧ w.grownBy w' (some b) := by
  have HS : CS (w.alloc (.cells #[.int .i64 s, .int .i64 c] 56)) b bx w.heap.size s c := ⟨hx.alloc _, Blk.new w _ _⟩
  have HM := hide (map_drew (hm.alloc (.cells #[.int .i64 s, .int .i64 c] 56)))
  have HG := hide (grown_drew (World.grownBy_alloc w (.cells #[.int .i64 s, .int .i64 c] 56) (some b)))
  replace hs := hide hs
  replace hc := hide hc
  clear hx hm
  go_enter Try.func32, Try.ntmps32
  go_wp2_with fail
  generalize w.alloc (.cells #[.int .i64 s, .int .i64 c] 56) = w0 at *
  generalize w.heap.size = bk at *
  refine wp_region_held_drew (S := fun W => CS W b bx bk s c) (by kernel_rfl) HS.drew (fun hS => ?_)
  clear HS
  generalize hV : w0.drew = V0 at *
  clear hV
  refine wpAnyH_take (i := 0) (v := .map (some b)) rfl (by kernel_rfl) (by kernel_rfl) (by kernel_rfl) (fun _ _ _ h => h) (Or.inl ⟨by rfl, fun W hS => by have d0 := hS.x.at 0 _ rfl; go_simp⟩) hS ?_
  refine wpAnyH_take (i := 1) (v := ky s c) rfl (by kernel_rfl) (by kernel_rfl) (by kernel_rfl) (fun _ _ _ h => h) (Or.inl ⟨by rfl, fun W hS => by have d0 := hS.k.at 0 _ rfl; have d1 := hS.k.at 1 _ rfl; go_simp⟩) hS ?_
  refine wpAnyH_take (i := 3) (v := .int .i64 n) rfl (by kernel_rfl) (by kernel_rfl) (by kernel_rfl) (fun _ _ _ h => h) (Or.inl ⟨by rfl, fun W hS => by go_simp⟩) hS ?_
  refine wpAnyH_all (rs := [2, 5]) (by kernel_rfl) (by simp) (AllReadyH.cons (i := 2) rfl (fun KK hK => ?_) (AllReadyH.cons (i := 5) rfl (fun KK hK => ?_) AllReadyH.nil))
  · rw [if_pos (by rfl)]
    have e1 := look_run (unhide HM) (unhide hs) (unhide hc)
    replace hS := hide hS
    go_wp2_with fail
    refine hK.out _ _ (unhide hS) (fun hS => ?_)
    clear hK
    clear e1
    refine wpAnyH_take (i := 4) (v := .int .i64 (f s c + n)) rfl (by kernel_rfl) (by kernel_rfl) (by kernel_rfl) (fun _ _ _ h => h) (Or.inl ⟨by rfl, fun W hS => by go_simp⟩) hS ?_
    refine wpAnyH_all (rs := [5]) (by kernel_rfl) (by simp) (AllReadyH.cons (i := 5) rfl (fun KK hK => ?_) AllReadyH.nil)
    rw [if_pos (by rfl)]
    obtain ⟨V1, st, e1, HE, hg⟩ := entry_run (unhide HM) (unhide hs) (unhide hc)
    have hS1 := hide (hS.grown (unhide HM) hg)
    replace HG := hide (grown_trans (unhide HG) hg)
    replace HE := hide HE
    clear hS hg
    go_wp2_with fail
    refine hK.out _ _ (unhide hS1) (fun hS => ?_)
    clear hK hS1 e1 HM
    refine wpAnyH_take (i := 6) (v := .int .i64 st) rfl (by kernel_rfl) (by kernel_rfl) (by kernel_rfl) (fun _ _ _ h => h) (Or.inl ⟨by rfl, fun W hS => by go_simp⟩) hS ?_
    refine wpAnyH_all (rs := [7]) (by kernel_rfl) (by simp) (AllReadyH.cons (i := 7) rfl (fun KK hK => ?_) AllReadyH.nil)
    rw [if_pos (by rfl)]
    obtain ⟨V2, e2, HN, hg⟩ := store_run (unhide HE) (f s c + n)
    have hS1 := hide (hS.grown (unhide HE).at hg)
    replace HG := hide (grown_trans (unhide HG) hg)
    replace HN := hide HN
    clear hS hg
    go_wp2_with fail
    refine hK.out _ _ (unhide hS1) (fun hS => ?_)
    clear hK hS1 e2 HE hS
    refine wpAnyH_done (by kernel_rfl) ?_ _
    go_wp2_with fail
    go_end0
    exact ⟨rfl, unhide HN, unhide HG⟩
  · rw [if_pos (by rfl)]
    obtain ⟨V1, st, e1, HE, hg⟩ := entry_run (unhide HM) (unhide hs) (unhide hc)
    have hS1 := hide (hS.grown (unhide HM) hg)
    replace HG := hide (grown_trans (unhide HG) hg)
    replace HE := hide HE
    clear hS hg
    go_wp2_with fail
    refine hK.out _ _ (unhide hS1) (fun hS => ?_)
    clear hK hS1 e1 HM
    refine wpAnyH_take (i := 6) (v := .int .i64 st) rfl (by kernel_rfl) (by kernel_rfl) (by kernel_rfl) (fun _ _ _ h => h) (Or.inl ⟨by rfl, fun W hS => by go_simp⟩) hS ?_
    refine wpAnyH_all (rs := [2]) (by kernel_rfl) (by simp) (AllReadyH.cons (i := 2) rfl (fun KK hK => ?_) AllReadyH.nil)
    rw [if_pos (by rfl)]
    have e1 := look_run ((unhide HE).at) (unhide hs) (unhide hc)
    replace hS := hide hS
    go_wp2_with fail
    refine hK.out _ _ (unhide hS) (fun hS => ?_)
    clear hK
    clear e1
    refine wpAnyH_take (i := 4) (v := .int .i64 (f s c + n)) rfl (by kernel_rfl) (by kernel_rfl) (by kernel_rfl) (fun _ _ _ h => h) (Or.inl ⟨by rfl, fun W hS => by go_simp⟩) hS ?_
    refine wpAnyH_all (rs := [7]) (by kernel_rfl) (by simp) (AllReadyH.cons (i := 7) rfl (fun KK hK => ?_) AllReadyH.nil)
    rw [if_pos (by rfl)]
    obtain ⟨V2, e2, HN, hg⟩ := store_run (unhide HE) (f s c + n)
    have hS1 := hide (hS.grown (unhide HE).at hg)
    replace HG := hide (grown_trans (unhide HG) hg)
    replace HN := hide HN
    clear hS hg
    go_wp2_with fail
    refine hK.out _ _ (unhide hS1) (fun hS => ?_)
    clear hK hS1 e2 HE hS
    refine wpAnyH_done (by kernel_rfl) ?_ _
    go_wp2_with fail
    go_end0
    exact ⟨rfl, unhide HN, unhide HG⟩
end Go.Proofs.Ytkccladbcehdbaa
